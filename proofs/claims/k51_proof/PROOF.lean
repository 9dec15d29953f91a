import PyProof.Rows.All
import Wide.All
import OpenK.AllK
import Wide.FinOn
import Lean
import PyProof.EqAt
import PyProof.EqKinds
import PyProof.TupleCall
import PySem.Challenge.RW_optionwood_k51_woods_unlike
set_option Elab.async false
set_option linter.all false
set_option maxRecDepth 100000
namespace L2
open PySem PySem.Spec PyProof.Rows
abbrev Key := Sum Int Str
def zsi : Key → Value → Bool
 | .inl k, v => Value.isInt k v
 | .inr x, v => Value.isStrOf x v
def zu2 (w : World) : Key → Int
 | .inl k => hashInt k
 | .inr x => hashStr w x
theorem zcg : ∀ {k : Key} {v : Value}, zsi k v = true → (∃ i t, k = Sum.inl i ∧ v = Value.int i t) ∨ (∃ x t, k = Sum.inr x ∧ v = Value.str x t)
 | .inl i, v, h => by
  obtain ⟨t, e⟩ := Value.isInt_shape (k := i) (v := v) h
  exact .inl ⟨i, t, rfl, e⟩
 | .inr x, v, h => by
  obtain ⟨t, e⟩ := Value.isStrOf_shape (x := x) (v := v) h
  exact .inr ⟨x, t, rfl, e⟩
theorem zs6 (a b : Int) : decide ((Sum.inl a : Key) = Sum.inl b) = (a == b) := by
 by_cases e : a = b
 ·subst e; simp
 ·have h : ¬ (Sum.inl a : Key) = Sum.inl b := fun q => e (Sum.inl.inj q)
  rw [decide_eq_false h]
  exact (beq_eq_false_iff_ne.mpr e).symm
theorem zs3 (a b : Str) : decide ((Sum.inr a : Key) = Sum.inr b) = decide (a = b) := by
 by_cases e : a = b
 ·subst e; simp
 ·have h : ¬ (Sum.inr a : Key) = Sum.inr b := fun q => e (Sum.inr.inj q)
  rw [decide_eq_false h, decide_eq_false e]
theorem zs2 (a : Int) (b : Str) : decide ((Sum.inl a : Key) = Sum.inr b) = false := decide_eq_false (fun q => nomatch q)
theorem ztg (a : Str) (b : Int) : decide ((Sum.inr a : Key) = Sum.inl b) = false := decide_eq_false (fun q => nomatch q)
def zns (prog : Program) (w : World) : PySem.KeyKind prog w Key where
 is := zsi
 hash := zu2 w
 inj := fun v a b ha hb => by
  rcases zcg ha with ⟨i, t, rfl, rfl⟩ | ⟨x, t, rfl, rfl⟩
  ·rcases zcg hb with ⟨j, u, rfl, e⟩ | ⟨y, u, rfl, e⟩
   ·injection e with e1 _; rw [e1]
   ·exact nomatch e
  ·rcases zcg hb with ⟨j, u, rfl, e⟩ | ⟨y, u, rfl, e⟩
   ·exact nomatch e
   ·injection e with e1 _; rw [e1]
 byValue := fun k v h => by
  rcases zcg h with ⟨i, t, rfl, rfl⟩ | ⟨x, t, rfl, rfl⟩ <;> rfl
 pyHash := fun hv h => by
  rcases zcg hv with ⟨i, t, rfl, rfl⟩ | ⟨x, t, rfl, rfl⟩
  ·exact wpAny_pyHash_int h
  ·exact wpAny_pyHash_str h
 eqBool := fun hu hv h => by
  rcases zcg hu with ⟨i, t, rfl, rfl⟩ | ⟨x, t, rfl, rfl⟩
  ·rcases zcg hv with ⟨j, u, rfl, rfl⟩ | ⟨y, u, rfl, rfl⟩
   ·rw [zs6] at h; exact wpAny_eqBool_int h
   ·rw [zs2] at h; exact SeqAt.EqAt.int_str i t y u _ _ _ _ h
  ·rcases zcg hv with ⟨j, u, rfl, rfl⟩ | ⟨y, u, rfl, rfl⟩
   ·rw [ztg] at h; exact SeqAt.EqAt.str_int x t j u _ _ _ _ h
   ·rw [zs3] at h; exact wpAny_eqBool_str h
 «strs» := fun k x t v h => by
  rcases zcg h with ⟨i, u, rfl, e⟩ | ⟨y, u, rfl, e⟩
  ·exact nomatch e
  ·injection e with e1 _
   subst e1
   cases v <;> rfl
end L2
namespace L2
open PySem PySem.Spec PyProof.Rows
inductive V where
 | non | bl (b : Bool) | int (i : Int) | str (x : Str) | byt (b : Array UInt8) | flt (b : UInt64) | ref (a : Addr) | ty (n : String)
 deriving DecidableEq
def RelV : V → Value → Prop
 | .non, u => u = Value.none
 | .bl b, u => u = Value.bool b
 | .int i, u => ∃ t, u = Value.int i t
 | .str x, u => ∃ t, u = Value.str x t
 | .byt b, u => ∃ t, u = Value.bytes b t
 | .flt b, u => ∃ t, u = Value.float b t
 | .ref a, u => u = Value.ref a
 | .ty n, u => u = Value.type n
abbrev Vals : List V → List Value → Prop := Paired RelV
theorem Vals.length {xs : List V} {us : List Value} (r : Vals xs us) : xs.length = us.length := Paired.length r
theorem Vals.get : ∀ {xs : List V} {us : List Value} {i : Nat} {x : V}, Vals xs us → xs[i]? = some x → ∃ u, us[i]? = some u ∧ RelV x u
 | _, _, _, _, .nil, e => by simp at e
 | _, _, 0, _, .cons r _, e => by simp at e; subst e; exact ⟨_, rfl, r⟩
 | _, _, i + 1, x, .cons _ t, e => by
  obtain ⟨u, h1, h2⟩ := Vals.get (i := i) (x := x) t (by simpa using e)
  exact ⟨u, by simpa using h1, h2⟩
theorem Vals.set {x : V} {u : Value} (r : RelV x u) : ∀ {xs : List V} {us : List Value} (i : Nat), Vals xs us → Vals (xs.set i x) (us.set i u)
 | _, _, _, .nil => .nil
 | _, _, 0, .cons _ t => .cons r t
 | _, _, i + 1, .cons q t => .cons q (Vals.set r i t)
theorem Vals.append : ∀ {xs ys : List V} {us ws : List Value}, Vals xs us → Vals ys ws → Vals (xs ++ ys) (us ++ ws)
 | _, _, _, _, .nil, s => s
 | _, _, _, _, .cons r t, s => .cons r (Vals.append t s)
theorem Vals.take : ∀ {xs : List V} {us : List Value} (n : Nat), Vals xs us → Vals (xs.take n) (us.take n)
 | _, _, 0, _ => .nil
 | _, _, _ + 1, .nil => .nil
 | _, _, n + 1, .cons r t => .cons r (Vals.take n t)
theorem Vals.drop : ∀ {xs : List V} {us : List Value} (n : Nat), Vals xs us → Vals (xs.drop n) (us.drop n)
 | _, _, 0, r => r
 | _, _, _ + 1, .nil => .nil
 | _, _, n + 1, .cons _ t => Vals.drop n t
def zum : Option V → Option Value → Prop
 | some v, some u => RelV v u
 | none, none => True
 | _, _ => False
def KV {κ : Type} : List (κ × V) → List (κ × Value) → Prop := Paired fun (p : κ × V) (q : κ × Value) => p.1 = q.1 ∧ RelV p.2 q.2
def kV : Key → V
 | .inl i => .int i
 | .inr x => .str x
inductive HO where
 | lst (xs : List V)
 | tup (xs : List V)
 | dK (kvs : List (Key × V)) | dT (kvs : List (List Key × V))
 | set (S : Int → Bool) (n : Nat)
 | ins (C dx : Addr) (fs : List (Str × V))
 | own (x : Addr)
 | xd (fs : List (Str × V))
 | met (f x : Addr)
 | rng (lo hi : Int)
 | frz (o : Obj) (u : HO)
 | tbl (ps : Array Value)
 | ext (φ : Heap → Prop)
abbrev Hp := Addr → Option HO
def upd (H : Hp) (a : Addr) (o : HO) : Hp := fun b => if b = a then some o else H b
theorem zaf {H : Hp} {a : Addr} {o : HO} : upd H a o a = some o := by unfold upd; rw [if_pos rfl]
theorem zan {H : Hp} {a b : Addr} {o : HO} (h : b ≠ a) : upd H a o b = H b := by unfold upd; rw [if_neg h]
theorem zl6 {H : Hp} {a b : Addr} {o u : HO} (h : H a = some o) (h' : H b = some u) (d : o ≠ u) : a ≠ b := by
 intro e; subst e; rw [h] at h'; exact d (Option.some.inj h')
theorem zaq {H : Hp} {a b : Addr} {o : HO} (h : H a = some o) (h' : H b = none) : a ≠ b := by
 intro e; subst e; rw [h] at h'; cases h'
section
variable (P : Program) (w : World)
def ObjOk (H : Hp) (h : Heap) (a : Addr) : HO → Prop
 | .lst xs => xs.length ≤ sizeLine ∧ ∃ (its : List Value) (n : Nat), Vals xs its ∧ h.get? a = some { cls := .type "list", data := .seq its.toArray n }
 | .tup xs => xs.length ≤ sizeLine ∧ ∃ its : List Value, Vals xs its ∧ IsTup h a its.toArray
 | .dK kvs => kvs.length ≤ sizeLine ∧ (a == sysModules) = false ∧ ∃ vs, KV kvs vs ∧ h.DictOf (zns P w) a vs
 | .dT kvs => kvs.length ≤ sizeLine ∧ (a == sysModules) = false ∧ ∃ xs : List (List Key × Addr × Value),
   Paired (fun (p : List Key × V) (q : List Key × Addr × Value) => p.1 = q.1 ∧ H q.2.1 = some (.tup (p.1.map kV)) ∧ RelV p.2 q.2.2) kvs xs ∧
   ∃ o es ep, h.get? a = some o ∧ o.ExactDict ∧ o.data = .dict es ep ∧ es.toList = xs.map (entryOfKey (tupleKind (zns P w))) ∧ (xs.map (·.1)).Nodup
 | .set S n => h.SetOf (intKind P w) a S n
 | .ins C dx fs => H dx = some (.own a) ∧ fs.length ≤ 1000 ∧ dx ≠ a ∧ h.get? a = some (PySem.W.instObj C dx) ∧
   ∃ mA, h.Ns1 dx mA ∧ (∀ f, zum (fs.lookup f) (mA f)) ∧ PySem.Within mA (fs.map (·.1))
 | .own _ => ∃ o, h.get? a = some o
 | .xd fs => ∃ mA, h.Ns1 a mA ∧ ∀ f, zum (fs.lookup f) (mA f)
 | .rng lo hi => ∃ t u v, h.get? a = some { cls := .type "range", data := .fields #[.int lo t, .int hi u, .int 1 v] }
 | .frz o u => h.get? a = some o ∧ ObjOk H h a u
 | .tbl ps => h.get? a = some { cls := .none, data := .fields ps }
 | .met f x => h.get? a = some (PySem.W.methodObj (.ref f) (.ref x))
 | .ext φ => φ h ∧ (∃ o, h.get? a = some o) ∧ ∀ h1 h2 : Heap, φ h1 → (∀ o, h1.get? a = some o → h2.get? a = some o) → φ h2
def HOk (H : Hp) (h : Heap) : Prop := ∀ a o, H a = some o → ObjOk P w H h a o
end
section
variable {P : Program} {w : World} {H H' : Hp} {h h' : Heap} {a : Addr} {o : HO}
theorem ObjOk.lt (x : ObjOk P w H h a o) : a < h.objs.size := by
 cases o with
 | lst xs => obtain ⟨_, _, _, _, e⟩ := x; exact Heap.lt_size e
 | tup xs => obtain ⟨_, _, _, p⟩ := x; exact p.lt
 | dK kvs => obtain ⟨_, _, _, _, o, _, _, e, _⟩ := x; exact Heap.lt_size e
 | dT kvs => obtain ⟨_, _, _, _, o, _, _, e, _⟩ := x; exact Heap.lt_size e
 | set S n => obtain ⟨o, _, _, _, e, _⟩ := x; exact Heap.lt_size e
 | ins C dx fs => obtain ⟨_, _, _, e, _⟩ := x; exact Heap.lt_size e
 | own y => obtain ⟨_, e⟩ := x; exact Heap.lt_size e
 | xd fs => obtain ⟨_, ⟨_, _, _, e, _⟩, _⟩ := x; exact Heap.lt_size e
 | rng lo hi => obtain ⟨_, _, _, e⟩ := x; exact Heap.lt_size e
 | frz ob u => obtain ⟨e, _⟩ := x; exact Heap.lt_size e
 | tbl ps => exact Heap.lt_size (show h.get? a = some _ from x)
 | met f y => exact Heap.lt_size (show h.get? a = some _ from x)
 | ext φ => obtain ⟨_, ⟨_, e⟩, _⟩ := x; exact Heap.lt_size e
theorem Paired.mapP {α β : Type} {F G : α → β → Prop} : ∀ {l₁ : List α} {l₂ : List β}, Paired F l₁ l₂ → (∀ a b, F a b → G a b) → Paired G l₁ l₂
 | _, _, .nil, _ => .nil
 | _, _, .cons r t, f => .cons (f _ _ r) (Paired.mapP t f)
theorem ObjOk.stay (x : ObjOk P w H h a o) (k : ∀ b u, (b = a ∨ H b = some (.own a)) → h.get? b = some u → h'.get? b = some u)
  (ho : ∀ b, H b = some (.own a) → H' b = some (.own a)) (ht : ∀ b xs, H b = some (.tup xs) → H' b = some (.tup xs)) : ObjOk P w H' h' a o := by
 induction o with
 | lst xs => obtain ⟨z, its, n, r, e⟩ := x; exact ⟨z, its, n, r, k _ _ (.inl rfl) e⟩
 | tup xs => obtain ⟨z, its, r, ob, e, c⟩ := x; exact ⟨z, its, r, ob, k _ _ (.inl rfl) e, c⟩
 | dK kvs => obtain ⟨z, y, vs, r, ob, es, ep, e, c⟩ := x; exact ⟨z, y, vs, r, ob, es, ep, k _ _ (.inl rfl) e, c⟩
 | dT kvs =>
  obtain ⟨z, y, xs, r, ob, es, ep, e, c⟩ := x
  exact ⟨z, y, xs, Paired.mapP r fun p q z => ⟨z.1, ht _ _ z.2.1, z.2.2⟩, ob, es, ep, k _ _ (.inl rfl) e, c⟩
 | set S n => obtain ⟨ob, es, ep, t, e, c⟩ := x; exact ⟨ob, es, ep, t, k _ _ (.inl rfl) e, c⟩
 | ins C dx fs =>
  obtain ⟨d, z, ne, e, mA, ⟨od, es, ep, e2, c⟩, r⟩ := x
  exact ⟨ho _ d, z, ne, k _ _ (.inl rfl) e, mA, ⟨od, es, ep, k _ _ (.inr d) e2, c⟩, r⟩
 | own y => obtain ⟨ob, e⟩ := x; exact ⟨ob, k _ _ (.inl rfl) e⟩
 | xd fs => obtain ⟨mA, ⟨od, es, ep, e, c⟩, r⟩ := x; exact ⟨mA, ⟨od, es, ep, k _ _ (.inl rfl) e, c⟩, r⟩
 | rng lo hi => obtain ⟨t, u, v, e⟩ := x; exact ⟨t, u, v, k _ _ (.inl rfl) e⟩
 | frz ob u ih => obtain ⟨e, q⟩ := x; exact ⟨k _ _ (.inl rfl) e, ih q⟩
 | tbl ps =>
  have e : h.get? a = some { cls := .none, data := .fields ps } := x
  show h'.get? a = some { cls := .none, data := .fields ps }
  exact k a _ (.inl rfl) e
 | met f y =>
  have e : h.get? a = some (PySem.W.methodObj (.ref f) (.ref y)) := x
  show h'.get? a = some (PySem.W.methodObj (.ref f) (.ref y))
  exact k a _ (.inl rfl) e
 | ext φ => obtain ⟨p, ⟨o, e⟩, st⟩ := x; exact ⟨st _ _ p fun o q => k _ _ (.inl rfl) q, ⟨o, k _ _ (.inl rfl) e⟩, st⟩
theorem HOk.lt (x : HOk P w H h) (e : H a = some o) : a < h.objs.size := (x a o e).lt
theorem HOk.fresh (x : HOk P w H h) (e : h.objs.size ≤ a) : H a = none := by
 cases q : H a with
 | none => rfl
 | some u => exact absurd (Nat.lt_of_lt_of_le (x.lt q) e) (Nat.lt_irrefl _)
theorem HOk.kept (x : HOk P w H h) (k : ∀ b u, h.get? b = some u → h'.get? b = some u) : HOk P w H h' := fun a o e =>
 (x a o e).stay (fun b u _ q => k b u q) (fun _ q => q) fun _ _ q => q
theorem HOk.laid (x : HOk P w H h) (k : ∀ b u, h.get? b = some u → h'.get? b = some u) (hp : h.objs.size ≤ a) (new : ObjOk P w (upd H a o) h' a o) : HOk P w (upd H a o) h' := fun b u e => by
 have hn := x.fresh hp
 by_cases hb : b = a
 ·subst hb; rw [zaf] at e; cases e; exact new
 ·rw [zan hb] at e
  exact (x b u e).stay (fun c v _ q => k c v q) (fun c q => by rw [zan (zaq q hn)]; exact q) fun c xs q => by rw [zan (zaq q hn)]; exact q
end
def Rd (H : Hp) (a : Addr) (u : HO) : Prop := H a = some u ∨ ∃ o, H a = some (.frz o u)
theorem Rd.ok {P : Program} {w : World} {H : Hp} {h : Heap} {a : Addr} {u : HO} (r : Rd H a u) (x : HOk P w H h) : ObjOk P w H h a u := by
 rcases r with r | ⟨o, r⟩
 ·exact x a u r
 ·obtain ⟨_, q⟩ := x a _ r
  exact q
def Mut : Option HO → Prop
 | some (.lst _) => True
 | some (.dK _) => True
 | some (.dT _) => True
 | some (.set _ _) => True
 | some (.ins _ _ _) => True
 | some (.ext _) => True
 | _ => False
section
variable {P : Program} {w : World} {H : Hp} {h h' : Heap} {x e : Addr} {o' : HO}
theorem HOk.write (ok : HOk P w H h) (mu : Mut (H x)) (he : e = x ∨ H e = some (.own x)) (k : ∀ b u, b ≠ e → h.get? b = some u → h'.get? b = some u) (heo : ∃ u, h'.get? e = some u)
  (new : ObjOk P w (upd H x o') h' x o') : HOk P w (upd H x o') h' := fun b u q => by
 have nown : ∀ c y, H c = some (.own y) → c ≠ x := fun c y r z => by subst z; rw [r] at mu; exact mu
 have ntup : ∀ c xs, H c = some (.tup xs) → c ≠ x := fun c xs r z => by subst z; rw [r] at mu; exact mu
 by_cases hb : b = x
 ·subst hb; rw [zaf] at q; cases q; exact new
 ·rw [zan hb] at q
  by_cases hbe : b = e
  ·have q' : H b = some (.own x) := by
    rcases he with z | z
    ·exact absurd (hbe.trans z) hb
    ·rw [hbe]; exact z
   rw [q] at q'; cases q'
   obtain ⟨v, hv⟩ := heo
   exact ⟨v, by rw [hbe]; exact hv⟩
  ·refine (ok b u q).stay (fun c v hc r => k c v ?_ r) (fun c r => by rw [zan (nown c b r)]; exact r) fun c xs r => by rw [zan (ntup c xs r)]; exact r
   rcases hc with rfl | hc
   ·exact hbe
   ·rintro rfl
    rcases he with z | z
    ·exact nown c b hc z
    ·rw [hc] at z; cases z; exact hb rfl
end
structure Un (fs ex : List Addr) (H H' : Hp) (h h' : Heap) : Prop where
 keep : ∀ b o, h.get? b = some o → H b = none → b ∉ fs → b ∉ ex → h'.get? b = some o
 slot : ∀ b o, h.get? b = some o → H b = none → b ∈ fs → b ∉ ex → ∃ sl, h'.get? b = some { o with slots := sl }
 free : ∀ b o, h.get? b = some o → H b = none → b ∉ ex → H' b = none
 there : ∀ b o, h.get? b = some o → b ∉ ex → ∃ o', h'.get? b = some o'
 tups : ∀ b xs, H b = some (.tup xs) → H' b = some (.tup xs)
 frzs : ∀ b o u, H b = some (.frz o u) → H' b = some (.frz o u)
 tbls : ∀ b ps, H b = some (.tbl ps) → ∃ more, H' b = some (.tbl (ps ++ more))
section
variable {fs fs' ex ex' : List Addr} {H H1 H2 : Hp} {h h1 h2 h' : Heap} {a x e : Addr} {o : HO}
theorem Un.any (u : Un fs ex H H1 h h1) {b : Addr} {ob : Obj} (q : h.get? b = some ob) (n : H b = none) (hx : b ∉ ex) : ∃ sl, h1.get? b = some { ob with slots := sl } := by
 by_cases hb : b ∈ fs
 ·exact u.slot b ob q n hb hx
 ·exact ⟨ob.slots, u.keep b ob q n hb hx⟩
theorem Un.kept (k : ∀ b u, h.get? b = some u → h'.get? b = some u) : Un fs ex H H h h' :=
 ⟨fun b ob q _ _ _ => k b ob q, fun b ob q _ _ _ => ⟨ob.slots, k b ob q⟩, fun _ _ _ n _ => n, fun b ob q _ => ⟨ob, k b ob q⟩, fun _ _ q => q, fun _ _ _ q => q, fun _ ps q => ⟨#[], by rw [q]; simp⟩⟩
theorem Un.refl : Un fs ex H H h h := Un.kept fun _ _ q => q
theorem Un.laid (k : ∀ b u, h.get? b = some u → h'.get? b = some u) (hp : h.objs.size ≤ a) (hn : H a = none) : Un fs ex H (upd H a o) h h' where
 keep := fun b u q _ _ _ => k b u q
 slot := fun b u q _ _ _ => ⟨u.slots, k b u q⟩
 free := fun b u q n _ => by rw [zan (Nat.ne_of_lt (Nat.lt_of_lt_of_le (Heap.lt_size q) hp))]; exact n
 there := fun b u q _ => ⟨u, k b u q⟩
 tups := fun b xs q => by rw [zan (zaq q hn)]; exact q
 frzs := fun b u xs q => by rw [zan (zaq q hn)]; exact q
 tbls := fun b ps q => ⟨#[], by rw [zan (zaq q hn), q]; simp⟩
theorem Un.write (mu : Mut (H x)) (he : e = x ∨ H e = some (.own x)) (k : ∀ b u, b ≠ e → h.get? b = some u → h'.get? b = some u) (heo : ∃ u, h'.get? e = some u) : Un fs ex H (upd H x o) h h' := by
 have hx : ∀ b, H b = none → b ≠ x := fun b n z => by subst z; rw [n] at mu; exact mu
 have hb : ∀ b, H b = none → b ≠ e := fun b n z => by
  subst z
  rcases he with r | r
  ·exact hx b n r
  ·rw [n] at r; cases r
 have hm : ∀ b u, H b = some u → ¬ Mut (some u) → b ≠ x := fun b u q nm z => by subst z; rw [q] at mu; exact nm mu
 refine ⟨fun b u q n _ _ => k b u (hb b n) q, fun b u q n _ _ => ⟨u.slots, k b u (hb b n) q⟩, fun b u q n _ => by rw [zan (hx b n)]; exact n, fun b u q _ => ?_,
  fun b xs q => by rw [zan (hm b _ q fun z => z)]; exact q, fun b u xs q => by rw [zan (hm b _ q fun z => z)]; exact q, fun b ps q => ⟨#[], by rw [zan (hm b _ q fun z => z), q]; simp⟩⟩
 by_cases hbe : b = e
 ·subst hbe; exact heo
 ·exact ⟨u, k b u hbe q⟩
end
def trk (h : Heap) (H : Hp) : List Addr := (List.range h.objs.size).filter fun a => (H a).isSome
def zje (h : Heap) (H : Hp) : Heap := PySem.W.hideAll h (trk h H)
theorem zop (h : Heap) (H : Hp) : (zje h H).objs.size = h.objs.size := PySem.W.hideAll_size _ _
theorem zpf {h : Heap} {H : Hp} {b : Addr} {o : Obj} (e : h.get? b = some o) (n : H b = none) : (zje h H).get? b = some o :=
 PySem.W.hideAll_get _ e fun hm => by
  have q : (H b).isSome = true := (List.mem_filter.mp hm).2
  rw [n] at q; simp at q
theorem zrr {h : Heap} {H : Hp} {b : Addr} {o : Obj} (e : (zje h H).get? b = some o) : h.get? b = some o ∧ H b = none := by
 have e' : h.get? b = some o := PySem.W.of_hideAll (trk h H) e
 refine ⟨e', ?_⟩
 cases q : H b with
 | none => rfl
 | some x =>
  have hm : b ∈ trk h H := List.mem_filter.mpr ⟨List.mem_range.mpr (Heap.lt_size e'), by simp [q]⟩
  have z : (zje h H).get? b = none := PySem.W.hideAll_none (trk h H) hm
  rw [z] at e; cases e
end L2
namespace L2
open PySem PySem.Spec PyProof.Rows
structure Mod (K : PySem.W.Frag) (mg : Str → Option Value) (base : Heap) : Prop where
 kin : K.In base
 glob : base.Ns mainGlobals mg
 blt : ∃ mb, base.Ns builtinsNs mb ∧ ∀ x : Str, x ≠ "__name__" → mb x = bootBuiltins x
 nolimit : base.NoLimit
structure Cx where
 prog : Program
 w : World
 K : PySem.W.Frag
 mg : Str → Option Value
 base : Heap
 A : Around
 N : List Str
 s₀ : Shared
 H₀ : Hp
 env : Env
 outer : List Env
 stack : List Env
 ex : List Addr
 fn : Str → Bool
 calm : Bool
 pn : List (Addr × Obj)
 xe : Value → Shared → Prop
def frs (l : List Env) : List Addr := l.filterMap (·.frame)
abbrev Cx.fs (X : Cx) : List Addr := frs X.outer
def Vis (sc : Scope) (x : Str) : Prop := sc.names.lookup x = some .local ∨ sc.names.lookup x = some .cell ∨ sc.names.lookup x = some .free
def Loc (sc : Scope) (x : Str) : Prop := sc.names.lookup x = some .local ∨ sc.names.lookup x = some .cell
def zun (env : Env) (h : Heap) (m : Str → Option Value) (x : Str) (u : Value) : Prop :=
 (env.kindOf x = some .local ∧ m x = some u) ∨ ((env.kindOf x = some .cell ∨ env.kindOf x = some .free) ∧ ∃ c, env.cells.lookup x = some c ∧ h.IsCell c (some u))
structure Cx.Ok (X : Cx) : Prop where
 mod : Mod X.K X.mg X.base
 kind : X.env.scope.kind = .function
 glob : X.env.globals = mainGlobals
 blt : X.env.builtins = builtinsNs
 above : X.s₀.heap.objs.size ≤ X.env.locals
 inj : ∀ x y c, X.env.cells.lookup x = some c → X.env.cells.lookup y = some c → x = y
 has : ∀ x, (X.env.kindOf x = some .cell ∨ X.env.kindOf x = some .free) → ∃ c, X.env.cells.lookup x = some c
 cab : ∀ x c, X.fn x = true → X.env.cells.lookup x = some c → X.s₀.heap.objs.size ≤ c
 hd : X.calm = true → X.A.handled = none
 frames : X.A.frames = some X.stack
 stk : X.stack = X.outer ∨ (X.stack = X.env :: X.outer ∧ X.env.frame = some X.env.locals)
 exf : ∀ b ∈ X.ex, b ≠ X.env.locals ∧ ∀ x c, X.env.cells.lookup x = some c → c ≠ b
 bs : ∀ b o, X.base.get? b = some o → X.s₀.heap.get? b = some o ∧ X.H₀ b = none
 bsz : X.base.objs.size ≤ X.s₀.heap.objs.size
 noex : ∀ b o, X.base.get? b = some o → b ∉ X.ex
 exfs : ∀ b ∈ X.ex, b ∉ X.fs
 funs : X.s₀.heap.FunFrames X.base X.outer
 frf : ∀ b ∈ X.fs, X.H₀ b = none
structure Inv (X : Cx) (pins : List (Addr × Obj)) (σ : List (Option V)) (H : Hp) (s : Shared) : Prop where
 ok : X.Ok
 os : s.os = X.s₀.os
 bare : AllBare s.gens
 base : Un X.fs X.ex X.H₀ H X.s₀.heap s.heap
 loc : ∃ m, s.heap.Ns X.env.locals m ∧ ∀ (i : Nat) (x : Str) (v : V), X.N[i]? = some x → σ[i]? = some (some v) → Vis X.env.scope x → ∃ u, RelV v u ∧ zun X.env s.heap m x u
 cell : ∀ x c, X.env.cells.lookup x = some c → ∃ v, s.heap.IsCell c v
 free : H X.env.locals = none
 freeC : ∀ x c, X.env.cells.lookup x = some c → H c = none
 pin : ∀ p ∈ X.pn ++ pins, s.heap.get? p.1 = some p.2 ∧ H p.1 = none ∧ p.1 ≠ X.env.locals ∧ p.1 ∉ X.fs ∧ ∀ v, p.2.data ≠ .cell v
 hok : HOk X.prog X.w H s.heap
 len : σ.length = X.N.length
section
variable {X : Cx} {pins : List (Addr × Obj)} {σ : List (Option V)} {H H' : Hp} {s : Shared} {h' : Heap}
theorem Cx.Ok.nofr (ok : X.Ok) {b : Addr} {o : Obj} (e : X.base.get? b = some o) : b ∉ X.fs := fun hb => by
 have := (ok.funs.mem hb).1
 rw [e] at this; cases this
theorem Inv.bs (I : Inv X pins σ H s) : ∀ b o, X.base.get? b = some o → s.heap.get? b = some o ∧ H b = none := fun b o e =>
 ⟨I.base.keep b o (I.ok.bs b o e).1 (I.ok.bs b o e).2 (I.ok.nofr e) (I.ok.noex b o e), I.base.free b o (I.ok.bs b o e).1 (I.ok.bs b o e).2 (I.ok.noex b o e)⟩
theorem Inv.bk (I : Inv X pins σ H s) : ∀ b o, X.base.get? b = some o → s.heap.get? b = some o := fun b o e => (I.bs b o e).1
theorem Inv.mod (I : Inv X pins σ H s) : Mod X.K X.mg X.base := I.ok.mod
theorem Inv.kIn (I : Inv X pins σ H s) : X.K.In s.heap := I.ok.mod.kin.keeps I.bk
theorem Inv.lt (I : Inv X pins σ H s) : X.env.locals < s.heap.objs.size := let ⟨_, hn, _⟩ := I.loc; hn.lt
theorem Inv.sz (I : Inv X pins σ H s) : X.s₀.heap.objs.size ≤ s.heap.objs.size := Nat.le_trans I.ok.above (Nat.le_of_lt I.lt)
theorem Inv.nofs (I : Inv X pins σ H s) {a : Addr} (h : s.heap.objs.size ≤ a) : a ∉ X.fs := fun hb => by
 obtain ⟨_, o, ho, _⟩ := I.ok.funs.mem hb
 exact absurd (Nat.lt_of_lt_of_le (Heap.lt_size ho) (Nat.le_trans I.sz h)) (Nat.lt_irrefl _)
theorem Inv.cne (I : Inv X pins σ H s) : ∀ x c, X.env.cells.lookup x = some c → c ≠ X.env.locals := fun x c e z => by
 obtain ⟨v, o, ho, hd⟩ := I.cell x c e
 obtain ⟨m, ⟨o', es, ep, ho', hd', _⟩, _⟩ := I.loc
 rw [z, ho'] at ho; cases ho; rw [hd'] at hd; cases hd
theorem Inv.funs (I : Inv X pins σ H s) : s.heap.FunFrames X.base X.outer := by
 have all : ∀ (l : List Env), (∀ b ∈ frs l, b ∈ X.fs) → X.s₀.heap.FunFrames X.base l → s.heap.FunFrames X.base l := by
  intro l
  induction l with
  | nil => intro _ _; trivial
  | cons env r ih =>
   intro hs hl
   obtain ⟨hk, ⟨L, o, hf, hn, ho, hd⟩, hr⟩ := hl
   have hL : L ∈ X.fs := hs L (by unfold frs; rw [List.filterMap_cons, hf]; exact List.mem_cons_self)
   obtain ⟨sl, e⟩ := I.base.slot L o ho (I.ok.frf L hL) hL fun z => I.ok.exfs L z hL
   exact ⟨hk, ⟨L, _, hf, hn, e, hd⟩, ih (fun b hb => hs b (by unfold frs; rw [List.filterMap_cons, hf]; exact List.mem_cons_of_mem _ hb)) hr⟩
 exact all X.outer (fun _ hb => hb) I.ok.funs
theorem Inv.stack (I : Inv X pins σ H s) : s.heap.FunFrames X.base X.stack := by
 rcases I.ok.stk with e | ⟨e, hf⟩
 ·rw [e]; exact I.funs
 ·rw [e]
  obtain ⟨m, hn, _⟩ := I.loc
  refine .cons (by rw [I.ok.kind]; decide) hf hn ?_ I.funs
  exact Heap.get?_none_of_le (Nat.le_trans I.ok.bsz I.ok.above)
theorem Inv.stkSub (I : Inv X pins σ H s) : ∀ b ∈ frs X.stack, b ∈ X.env.locals :: X.fs := fun b hb => by
 rcases I.ok.stk with e | ⟨e, hf⟩
 ·rw [e] at hb; exact List.mem_cons_of_mem _ hb
 ·rw [e] at hb
  unfold frs at hb
  rw [List.filterMap_cons, hf] at hb
  exact hb
theorem Inv.stkFree (I : Inv X pins σ H s) : ∀ b ∈ frs X.stack, H b = none := fun b hb => by
 rcases List.mem_cons.mp (I.stkSub b hb) with e | hb
 ·rw [e]; exact I.free
 ·obtain ⟨_, o, ho, _⟩ := I.ok.funs.mem hb
  exact I.base.free b o ho (I.ok.frf b hb) fun z => I.ok.exfs b z hb
theorem Inv.step {g' : Array GenState} {t' : Nat} {d' : Drawn} {ch : List Addr} (I : Inv X pins σ H s)
  (hch : ∀ b ∈ ch, (b ∈ X.ex ∨ X.s₀.heap.objs.size ≤ b) ∧ b ≠ X.env.locals ∧ (∀ x c, X.env.cells.lookup x = some c → c ≠ b) ∧ ∀ p ∈ X.pn ++ pins, p.1 ≠ b)
  (keep : ∀ b o, b ≠ X.env.locals → b ∉ X.fs → b ∉ ch → s.heap.get? b = some o → H b = none → h'.get? b = some o)
  (slot : ∀ b o, b ≠ X.env.locals → b ∈ X.fs → b ∉ ch → s.heap.get? b = some o → H b = none → ∃ sl, h'.get? b = some { o with slots := sl }) (free : ∀ b o, b ∉ ch → s.heap.get? b = some o → H b = none → H' b = none)
  (there : ∀ b o, b ∉ ch → s.heap.get? b = some o → ∃ o', h'.get? b = some o')
  (tups : ∀ b xs, H b = some (.tup xs) → H' b = some (.tup xs)) (frzs : ∀ b o u, H b = some (.frz o u) → H' b = some (.frz o u)) (tbls : ∀ b ps, H b = some (.tbl ps) → ∃ more, H' b = some (.tbl (ps ++ more)))
  (ns : ∀ m, s.heap.Ns X.env.locals m → h'.Ns X.env.locals m) (hok : HOk X.prog X.w H' h') (hg : AllBare g') :
  Inv X pins σ H' { s with heap := h', gens := g', drawn := d', toks := t' } := by
 have neL : ∀ b o, X.s₀.heap.get? b = some o → b ≠ X.env.locals := fun b o e => Nat.ne_of_lt (Nat.lt_of_lt_of_le (Heap.lt_size e) I.ok.above)
 have neC : ∀ b o, X.s₀.heap.get? b = some o → b ∉ X.ex → b ∉ ch := fun b o e hx hb => by
  rcases (hch b hb).1 with z | z
  ·exact hx z
  ·exact absurd (Nat.lt_of_lt_of_le (Heap.lt_size e) z) (Nat.lt_irrefl _)
 have cellK : ∀ x c, X.env.cells.lookup x = some c → ∀ v, s.heap.IsCell c v → h'.IsCell c v := fun x c e v ⟨o, ho, hd⟩ => by
  have nch : c ∉ ch := fun z => (hch c z).2.2.1 x c e rfl
  by_cases hc : c ∈ X.fs
  ·obtain ⟨sl, q⟩ := slot c o (I.cne x c e) hc nch ho (I.freeC x c e)
   exact ⟨_, q, hd⟩
  ·exact ⟨o, keep c o (I.cne x c e) hc nch ho (I.freeC x c e), hd⟩
 refine ⟨I.ok, I.os, hg, ⟨fun b o e n hb hx => ?_, fun b o e n hb hx => ?_, fun b o e n hx => ?_, fun b o e hx => ?_, fun b xs e => tups b xs (I.base.tups b xs e), fun b o xs e => frzs b o xs (I.base.frzs b o xs e), fun b ps e => ?_⟩, ?_, fun x c e => ?_, ?_, fun x c e => ?_, fun p hp => ?_, hok, I.len⟩
 ·exact keep b o (neL b o e) hb (neC b o e hx) (I.base.keep b o e n hb hx) (I.base.free b o e n hx)
 ·obtain ⟨sl, e1⟩ := I.base.slot b o e n hb hx
  obtain ⟨sl', e2⟩ := slot b _ (neL b o e) hb (neC b o e hx) e1 (I.base.free b o e n hx)
  exact ⟨sl', e2⟩
 ·obtain ⟨o', e1⟩ := I.base.there b o e hx
  exact free b o' (neC b o e hx) e1 (I.base.free b o e n hx)
 ·obtain ⟨o', e1⟩ := I.base.there b o e hx
  exact there b o' (neC b o e hx) e1
 ·obtain ⟨m1, e1⟩ := I.base.tbls b ps e
  obtain ⟨m2, e2⟩ := tbls b _ e1
  exact ⟨m1 ++ m2, by rw [e2, Array.append_assoc]⟩
 ·obtain ⟨m, hn, hl⟩ := I.loc
  refine ⟨m, ns m hn, fun i x v e1 e2 e3 => ?_⟩
  obtain ⟨u, r, l⟩ := hl i x v e1 e2 e3
  refine ⟨u, r, ?_⟩
  rcases l with l | ⟨k, c, e, z⟩
  ·exact .inl l
  ·exact .inr ⟨k, c, e, cellK x c e _ z⟩
 ·obtain ⟨v, z⟩ := I.cell x c e
  exact ⟨v, cellK x c e v z⟩
 ·obtain ⟨m, ⟨o, _, _, ho, _⟩, _⟩ := I.loc
  exact free _ o (fun z => (hch _ z).2.1 rfl) ho I.free
 ·obtain ⟨v, o, ho, hd⟩ := I.cell x c e
  exact free c o (fun z => (hch c z).2.2.1 x c e rfl) ho (I.freeC x c e)
 ·obtain ⟨e, n, ne, nf, d⟩ := I.pin p hp
  have nch : p.1 ∉ ch := fun z => (hch p.1 z).2.2.2 p hp rfl
  exact ⟨keep p.1 p.2 ne nf nch e n, free p.1 p.2 nch e n, ne, nf, d⟩
theorem Inv.un {t' : Nat} (I : Inv X pins σ H s) (u : Un X.fs [] H H' s.heap h') (hok : HOk X.prog X.w H' h') : Inv X pins σ H' { s with heap := h', toks := t' } := by
 obtain ⟨m, ⟨o, es, ep, ho, r⟩, _⟩ := id I.loc
 obtain ⟨sl, hL⟩ := u.any ho I.free (by simp)
 exact I.step (g' := s.gens) (d' := s.drawn) (ch := []) (fun _ z => nomatch z) (fun b o _ hb _ e n => u.keep b o e n hb (by simp)) (fun b o _ hb _ e n => u.slot b o e n hb (by simp)) (fun b o _ e n => u.free b o e n (by simp)) (fun b o _ e => u.there b o e (by simp)) u.tups u.frzs u.tbls (fun m' hm => by
  obtain ⟨o', es', ep', ho', r'⟩ := hm
  rw [ho] at ho'; cases ho'
  exact ⟨_, es', ep', hL, r'⟩) hok I.bare
theorem Inv.call {g' : Array GenState} {t' : Nat} {d' : Drawn} {ch : List Addr} (I : Inv X pins σ H s) (u : Un (frs X.stack) ch H H' s.heap h') (hok : HOk X.prog X.w H' h') (hg : AllBare g')
  (hch : ∀ b ∈ ch, (b ∈ X.ex ∨ X.s₀.heap.objs.size ≤ b) ∧ b ≠ X.env.locals ∧ (∀ x c, X.env.cells.lookup x = some c → c ≠ b) ∧ ∀ p ∈ X.pn ++ pins, p.1 ≠ b) :
  Inv X pins σ H' { s with heap := h', gens := g', drawn := d', toks := t' } := by
 obtain ⟨m, ⟨o, es, ep, ho, r⟩, _⟩ := id I.loc
 obtain ⟨sl, hL⟩ := u.any ho I.free fun z => (hch _ z).2.1 rfl
 exact I.step (ch := ch) hch (fun b o hL hb hc e n => u.keep b o e n (fun z => (List.mem_cons.mp (I.stkSub b z)).elim hL hb) hc) (fun b o _ _ hc e n => u.any e n hc) (fun b o hc e n => u.free b o e n hc) (fun b o hc e => u.there b o e hc) u.tups u.frzs u.tbls (fun m' hm => by
  obtain ⟨o', es', ep', ho', r'⟩ := hm
  rw [ho] at ho'; cases ho'
  exact ⟨_, es', ep', hL, r'⟩) hok hg
theorem Inv.turned {t' : Nat} {it : Addr} (I : Inv X pins σ H s) (k : ∀ b o, b ≠ it → s.heap.get? b = some o → h'.get? b = some o) (hn : H it = none) (hL : it ≠ X.env.locals)
  (h1 : it ∈ X.ex ∨ X.s₀.heap.objs.size ≤ it) (h2 : ∀ x c, X.env.cells.lookup x = some c → c ≠ it) (h3 : ∀ p ∈ X.pn ++ pins, p.1 ≠ it) : Inv X pins σ H { s with heap := h', toks := t' } := by
 have nit : ∀ b u, H b = some u → b ≠ it := fun b u e z => by rw [z, hn] at e; cases e
 refine I.step (g' := s.gens) (d' := s.drawn) (ch := [it]) (fun b hb => ?_) (fun b o _ _ hc e _ => k b o (fun z => hc (by simp [z])) e) (fun b o _ _ hc e _ => ⟨o.slots, k b o (fun z => hc (by simp [z])) e⟩) (fun _ _ _ _ n => n)
  (fun b o hc e => ⟨o, k b o (fun z => hc (by simp [z])) e⟩) (fun _ _ e => e) (fun _ _ _ e => e) (fun b ps e => ⟨#[], by rw [e]; simp⟩) (fun m hm => ?_) (fun b u e => ?_) I.bare
 ·have e : b = it := by simpa using hb
  subst e
  exact ⟨h1, hL, h2, h3⟩
 ·obtain ⟨o, es, ep, ho, r⟩ := hm
  exact ⟨o, es, ep, k _ o (Ne.symm hL) ho, r⟩
 ·refine (I.hok b u e).stay (fun c v hc q => k c v ?_ q) (fun _ q => q) fun _ _ q => q
  rcases hc with z | z
  ·rw [z]; exact nit b u e
  ·exact nit c _ z
theorem Inv.tok (I : Inv X pins σ H s) (t : Nat) : Inv X pins σ H { s with toks := t } := I.un (h' := s.heap) (t' := t) Un.refl I.hok
theorem Inv.kept {t' : Nat} (I : Inv X pins σ H s) (k : ∀ b u, s.heap.get? b = some u → h'.get? b = some u) : Inv X pins σ H { s with heap := h', toks := t' } := I.un (Un.kept k) (I.hok.kept k)
theorem Inv.laid {a : Addr} {o : HO} {t' : Nat} (I : Inv X pins σ H s) (k : ∀ b u, s.heap.get? b = some u → h'.get? b = some u) (hp : s.heap.objs.size ≤ a) (new : ObjOk X.prog X.w (upd H a o) h' a o) :
  Inv X pins σ (upd H a o) { s with heap := h', toks := t' } := I.un (Un.laid k hp (I.hok.fresh hp)) (I.hok.laid k hp new)
theorem Inv.write {x e : Addr} {o : HO} {t' : Nat} (I : Inv X pins σ H s) (mu : Mut (H x)) (he : e = x ∨ H e = some (.own x)) (k : ∀ b u, b ≠ e → s.heap.get? b = some u → h'.get? b = some u) (heo : ∃ u, h'.get? e = some u)
  (new : ObjOk X.prog X.w (upd H x o) h' x o) : Inv X pins σ (upd H x o) { s with heap := h', toks := t' } := I.un (Un.write mu he k heo) (I.hok.write mu he k heo new)
theorem Inv.pins_of {pins' : List (Addr × Obj)} (I : Inv X pins σ H s) (h : ∀ p ∈ pins', s.heap.get? p.1 = some p.2 ∧ H p.1 = none ∧ p.1 ≠ X.env.locals ∧ p.1 ∉ X.fs ∧ ∀ v, p.2.data ≠ .cell v) : Inv X pins' σ H s :=
 ⟨I.ok, I.os, I.bare, I.base, I.loc, I.cell, I.free, I.freeC, fun p hp => (List.mem_append.mp hp).elim (fun z => I.pin p (List.mem_append_left _ z)) (h p), I.hok, I.len⟩
theorem zir {N : List Str} (hN : N.Nodup) {i j : Nat} {x : Str} (a : N[i]? = some x) (b : N[j]? = some x) : i = j := by
 obtain ⟨h1, e1⟩ := List.getElem?_eq_some_iff.mp a
 obtain ⟨h2, e2⟩ := List.getElem?_eq_some_iff.mp b
 exact (List.getElem_inj hN).mp (e1.trans e2.symm)
theorem zo4 {M : Model} {A : Around} {E : Value → Shared → Prop} {i : Nat} {x : Str} {v : V} {u : Value} {Q : Unit → Shared → Prop} (I : Inv X pins σ H s) (hN : X.N.Nodup) (hi : X.N[i]? = some x) (hx : Loc X.env.scope x) (r : RelV v u)
  (h : ∀ s', Inv X pins (σ.set i (some v)) H s' → (∃ a, Heap.SameBut a s.heap s'.heap ∧ (a = X.env.locals ∨ X.env.cells.lookup x = some a)) → Q () s') (hf : X.fn x = true ∨ X.env.scope.names.lookup x = some .local := by first | exact .inl rfl | exact .inr rfl | assumption) : wpAny M A (storeName X.env x u) Q E s := by
 obtain ⟨m, hn, hl⟩ := id I.loc
 have hcls : (X.env.scope.kind == .class || (X.env.scope.kind == .module && X.env.locals != X.env.globals)) = false := by rw [I.ok.kind]; rfl
 have hiσ : i < σ.length := by rw [I.len]; exact (List.getElem?_eq_some_iff.mp hi).1
 have cne := I.cne
 have tracked : ∀ {a : Addr} {h' : Heap}, (∃ o, s.heap.get? a = some o ∧ H a = none) → Heap.SameBut a s.heap h' → HOk X.prog X.w H h' := fun {a h'} ha hs b ob e => by
  obtain ⟨_, _, hfree⟩ := ha
  refine (I.hok b ob e).stay (fun c w' hc q => (hs.2 c ?_).trans q) (fun _ q => q) fun _ _ q => q
  rintro rfl
  rcases hc with rfl | hc
  ·rw [hfree] at e; cases e
  ·rw [hfree] at hc; cases hc
 rcases hx with hk | hk
 ·refine wpAny_storeName_local hk hn (fun h' hn' hs => ?_) hcls
  obtain ⟨oL, _, _, hoL, _⟩ := id hn
  refine h _ ⟨I.ok, I.os, I.bare, ⟨fun b o e n hb hx => ?_, fun b o e n hb hx => ?_, I.base.free, fun b o e hx => ?_, I.base.tups, I.base.frzs, I.base.tbls⟩, ⟨_, hn', fun j y v' e1 e2 e3 => ?_⟩, fun y c e => ?_, I.free, I.freeC, fun p hp => ?_, tracked ⟨oL, hoL, I.free⟩ hs, by simpa using I.len⟩ ⟨_, hs, .inl rfl⟩
  ·exact (hs.2 b (Nat.ne_of_lt (Nat.lt_of_lt_of_le (Heap.lt_size e) I.ok.above))).trans (I.base.keep b o e n hb hx)
  ·obtain ⟨sl, e1⟩ := I.base.slot b o e n hb hx
   exact ⟨sl, (hs.2 b (Nat.ne_of_lt (Nat.lt_of_lt_of_le (Heap.lt_size e) I.ok.above))).trans e1⟩
  ·obtain ⟨o', e1⟩ := I.base.there b o e hx
   exact ⟨o', (hs.2 b (Nat.ne_of_lt (Nat.lt_of_lt_of_le (Heap.lt_size e) I.ok.above))).trans e1⟩
  ·by_cases hj : j = i
   ·subst hj
    rw [hi] at e1; cases e1
    rw [List.getElem?_set_self hiσ] at e2
    cases e2
    exact ⟨u, r, .inl ⟨hk, by simp⟩⟩
   ·rw [List.getElem?_set_ne (Ne.symm hj)] at e2
    obtain ⟨u', r', q⟩ := hl j y v' e1 e2 e3
    refine ⟨u', r', ?_⟩
    rcases q with ⟨k, e⟩ | ⟨k, c, e, z⟩
    ·refine .inl ⟨k, ?_⟩
     have : y ≠ x := fun e => hj (zir hN e1 (e ▸ hi))
     simp [this, e]
    ·exact .inr ⟨k, c, e, z.sameBut hs (cne y c e)⟩
  ·obtain ⟨w', z⟩ := I.cell y c e
   exact ⟨w', z.sameBut hs (cne y c e)⟩
  ·obtain ⟨e, n, ne, nf, d⟩ := I.pin p hp
   exact ⟨(hs.2 p.1 ne).trans e, n, ne, nf, d⟩
 ·have hfn : X.fn x = true := by
   rcases hf with z | z
   ·exact z
   ·rw [z] at hk; cases hk
  obtain ⟨c, hc⟩ := I.ok.has x (.inl hk)
  obtain ⟨w', z⟩ := I.cell x c hc
  refine wpAny_storeName_cell I.ok.kind hk hc z (fun h' hc' hs => ?_)
  obtain ⟨oc, hoc, hocd⟩ := id z
  refine h { s with heap := h' } ⟨I.ok, I.os, I.bare, ⟨fun b o e n hb hx => ?_, fun b o e n hb hx => ?_, I.base.free, fun b o e hx => ?_, I.base.tups, I.base.frzs, I.base.tbls⟩, ⟨m, hn.sameBut hs (Ne.symm (cne x c hc)), fun j y v' e1 e2 e3 => ?_⟩, fun y c' e => ?_, I.free, I.freeC, fun p hp => ?_, tracked ⟨oc, hoc, I.freeC x c hc⟩ hs, by simpa using I.len⟩ ⟨c, hs, .inr hc⟩
  ·exact (hs.2 b (Nat.ne_of_lt (Nat.lt_of_lt_of_le (Heap.lt_size e) (I.ok.cab x c hfn hc)))).trans (I.base.keep b o e n hb hx)
  ·obtain ⟨sl, e1⟩ := I.base.slot b o e n hb hx
   exact ⟨sl, (hs.2 b (Nat.ne_of_lt (Nat.lt_of_lt_of_le (Heap.lt_size e) (I.ok.cab x c hfn hc)))).trans e1⟩
  ·obtain ⟨o', e1⟩ := I.base.there b o e hx
   exact ⟨o', (hs.2 b (Nat.ne_of_lt (Nat.lt_of_lt_of_le (Heap.lt_size e) (I.ok.cab x c hfn hc)))).trans e1⟩
  ·by_cases hj : j = i
   ·subst hj
    rw [hi] at e1; cases e1
    rw [List.getElem?_set_self hiσ] at e2
    cases e2
    exact ⟨u, r, .inr ⟨.inl hk, c, hc, hc'⟩⟩
   ·rw [List.getElem?_set_ne (Ne.symm hj)] at e2
    obtain ⟨u', r', q⟩ := hl j y v' e1 e2 e3
    refine ⟨u', r', ?_⟩
    rcases q with q | ⟨k, c', e, z'⟩
    ·exact .inl q
    ·refine .inr ⟨k, c', e, z'.sameBut hs ?_⟩
     rintro rfl
     exact hj (zir hN e1 (I.ok.inj _ _ _ e hc ▸ hi))
  ·by_cases hcc : c' = c
   ·subst hcc; exact ⟨_, hc'⟩
   ·obtain ⟨w2, z2⟩ := I.cell y c' e
    exact ⟨w2, z2.sameBut hs hcc⟩
  ·obtain ⟨e, n, ne, nf, d⟩ := I.pin p hp
   refine ⟨(hs.2 p.1 ?_).trans e, n, ne, nf, d⟩
   intro q
   rw [q, hoc] at e
   have q' : oc = p.2 := Option.some.inj e
   exact d w' (by rw [← q']; exact hocd)
theorem zij {M : Model} {A : Around} {E : Value → Shared → Prop} {i : Nat} {x : Str} {v : V} {u : Value} {Q : Unit → Shared → Prop} (I : Inv X pins σ H s) (hN : X.N.Nodup) (hi : X.N[i]? = some x) (hx : Loc X.env.scope x) (r : RelV v u)
  (h : ∀ s', Inv X pins (σ.set i (some v)) H s' → Q () s') (hf : X.fn x = true ∨ X.env.scope.names.lookup x = some .local := by first | exact .inl rfl | exact .inr rfl | assumption) : wpAny M A (storeName X.env x u) Q E s :=
 zo4 I hN hi hx r (fun s' I' _ => h s' I') hf
theorem Inv.call' {s' : Shared} {ch : List Addr} (I : Inv X pins σ H s) (ho : s'.os = s.os) (u : Un (frs X.stack) ch H H' s.heap s'.heap) (hok : HOk X.prog X.w H' s'.heap) (hg : AllBare s'.gens)
  (hch : ∀ b ∈ ch, (b ∈ X.ex ∨ X.s₀.heap.objs.size ≤ b) ∧ b ≠ X.env.locals ∧ (∀ x c, X.env.cells.lookup x = some c → c ≠ b) ∧ ∀ p ∈ X.pn ++ pins, p.1 ≠ b) : Inv X pins σ H' s' := by
 obtain ⟨h', g', d', t', o'⟩ := s'
 have e : o' = s.os := ho
 subst e
 exact I.call (g' := g') (t' := t') (d' := d') u hok hg hch
end
abbrev XK := Value → Option Addr → Hp → Prop
abbrev St := List (Option V)
abbrev VK := V → Hp → Prop
abbrev TE := St → Hp → VK → Prop
abbrev TT := St → Hp → (Bool → Hp → Prop) → Prop
abbrev TA := St → Hp → (List V → Hp → Prop) → Prop
structure zh4 where
 nx : St → Hp → Prop
 rt : VK
 bk : St → Hp → Prop := fun _ _ => False
 ct : St → Hp → Prop := fun _ _ => False
abbrev TS := zh4 → St → Hp → Prop
def EP (X : Cx) (pins : List (Addr × Obj)) (σ : St) (Q : VK) (u : Value) (s' : Shared) : Prop := ∃ v H', Inv X pins σ H' s' ∧ RelV v u ∧ Q v H'
def TP (X : Cx) (pins : List (Addr × Obj)) (σ : St) (Q : Bool → Hp → Prop) (b : Bool) (s' : Shared) : Prop := ∃ H', Inv X pins σ H' s' ∧ Q b H'
def AP (X : Cx) (pins : List (Addr × Obj)) (σ : St) (Q : List V → Hp → Prop) (us : List Value) (s' : Shared) : Prop := ∃ vs H', Inv X pins σ H' s' ∧ Vals vs us ∧ Q vs H'
def SP (X : Cx) (pins : List (Addr × Obj)) (D : zh4) (f : Flow) (s' : Shared) : Prop :=
 match f with
 | .next => ∃ σ' H', Inv X pins σ' H' s' ∧ D.nx σ' H'
 | .brk => ∃ σ' H', Inv X pins σ' H' s' ∧ D.bk σ' H'
 | .cont => ∃ σ' H', Inv X pins σ' H' s' ∧ D.ct σ' H'
 | .ret u => ∃ v σ' H', Inv X pins σ' H' s' ∧ RelV v u ∧ D.rt v H'
def PE (X : Cx) (e : Expr) (t : TE) : Prop :=
 ∀ (pins : List (Addr × Obj)) (s : Shared) (σ : St) (H : Hp) (Q : VK), Inv X pins σ H s → t σ H Q → wpAny (model X.prog X.w) X.A (eval e X.env) (EP X pins σ Q) X.xe s
def PT (X : Cx) (e : Expr) (t : TT) : Prop :=
 ∀ (pins : List (Addr × Obj)) (s : Shared) (σ : St) (H : Hp) (Q : Bool → Hp → Prop), Inv X pins σ H s → t σ H Q → wpAny (model X.prog X.w) X.A (isTrue e X.env (eval e X.env)) (TP X pins σ Q) X.xe s
def PW (X : Cx) (e : Expr) (t : TT) : Prop :=
 ∀ (whole : Sem Value) (pins : List (Addr × Obj)) (s : Shared) (σ : St) (H : Hp) (Q : Bool → Hp → Prop), Inv X pins σ H s → t σ H Q → wpAny (model X.prog X.w) X.A (isTrue e X.env whole) (TP X pins σ Q) X.xe s
theorem PW.pt {X : Cx} {e : Expr} {t : TT} (h : PW X e t) : PT X e t := h _
def PA (X : Cx) (es : List Expr) (t : TA) : Prop :=
 ∀ (pos : Pos) (pins : List (Addr × Obj)) (s : Shared) (σ : St) (H : Hp) (Q : List V → Hp → Prop), Inv X pins σ H s → t σ H Q → wpAny (model X.prog X.w) X.A (spliced (backTo pos (starEach es X.env))) (AP X pins σ Q) X.xe s
def PS (X : Cx) (st : Stmt) (t : TS) : Prop :=
 ∀ (pins : List (Addr × Obj)) (s : Shared) (σ : St) (H : Hp) (D : zh4), Inv X pins σ H s → t D σ H → wpAny (model X.prog X.w) X.A (exec st X.env) (SP X pins D) X.xe s
def PSs (X : Cx) (st : List Stmt) (t : TS) : Prop :=
 ∀ (pins : List (Addr × Obj)) (s : Shared) (σ : St) (H : Hp) (D : zh4), Inv X pins σ H s → t D σ H → wpAny (model X.prog X.w) X.A (execs st X.env) (SP X pins D) X.xe s
theorem thn {α : Type} {t : Sem α} {Q Q' : α → Shared → Prop} {M : Model} {A : Around} {E : Value → Shared → Prop} {s : Shared} (h : wpAny M A t Q E s) (hQ : ∀ a s, Q a s → Q' a s) : wpAny M A t Q' E s := wpAny_mono h hQ fun _ _ x => x
end L2
namespace L2
open PySem PySem.Spec PyProof.Rows
section
variable {X : Cx}
def zt8 (i : Nat) : TE := fun σ H Q => ∃ v, σ[i]? = some (some v) ∧ Q v H
def tC (v : V) : TE := fun _ H Q => Q v H
theorem znj {i : Nat} {x : Str} {pos : Pos} (hN : X.N[i]? = some x) (hv : Vis X.env.scope x) (hd : (x == ("__debug__" : Str)) = false := by decide) (hcd : (x == ("__classdict__" : Str)) = false := by decide) : PE X (.Name x pos) (zt8 i) := by
 intro pins s σ H Q I h
 obtain ⟨v, e, h⟩ := h
 obtain ⟨m, hn, hl⟩ := I.loc
 obtain ⟨u, r, l⟩ := hl i x v hN e hv
 have fin : EP X pins σ Q u s := ⟨v, H, I, r, h⟩
 rcases l with ⟨hk, hm⟩ | ⟨hk, c, hc, hcell⟩
 ·exact wpAny_Name (wpAny_loadName_local I.ok.kind hk hn hm fin) hd
 ·rcases hk with hk | hk
  ·exact wpAny_Name (wpAny_loadName_cell I.ok.kind hk hc hcell fin) hd
  ·exact wpAny_Name (wpAny_loadName_free I.ok.kind hk hc hcell fin hcd) hd
theorem zad {i j pos} : PE X (.Constant (.int i) j pos) (tC (.int i)) := fun _ _ _ H _ I h => wpAny_Constant_int ⟨.int i, H, I.tok _, ⟨_, rfl⟩, h⟩
theorem zlc {b j pos} : PE X (.Constant (.bool b) j pos) (tC (.bl b)) := fun _ _ _ H _ I h => Constant_bool ⟨.bl b, H, I, rfl, h⟩
theorem zeu {j pos} : PE X (.Constant .none j pos) (tC .non) := fun _ _ _ H _ I h => Constant_none ⟨.non, H, I, rfl, h⟩
theorem za0 {x j pos} : PE X (.Constant (.str x) j pos) (tC (.str x)) := fun _ _ _ H _ I h => Calls.Constant_str ⟨.str x, H, I.tok _, ⟨_, rfl⟩, h⟩
def Gl (X : Cx) (x : Str) : Prop := X.env.kindOf x = some .globalImplicit
theorem zfo {E : Value → Shared → Prop} {pins : List (Addr × Obj)} {s : Shared} {σ : St} {H : Hp} {x : Str} {u : Value} {pos : Pos} {Q : Value → Shared → Prop} (I : Inv X pins σ H s) (hg : Gl X x) (hm : X.mg x = some u) (h : Q u s)
  (hd : (x == ("__debug__" : Str)) = false := by decide) : wpAny (model X.prog X.w) X.A (eval (.Name x pos) X.env) Q E s :=
 Calls.Name_function_global I.ok.kind hg (Calls.loadGlobal_global (by rw [I.ok.glob]; exact I.mod.glob.keeps I.bk) hm h) hd
theorem zh9 {E : Value → Shared → Prop} {pins : List (Addr × Obj)} {s : Shared} {σ : St} {H : Hp} {x : Str} {u : Value} {pos : Pos} {Q : Value → Shared → Prop} (I : Inv X pins σ H s) (hg : Gl X x) (hm : X.mg x = none) (hv : bootBuiltins x = some u) (h : Q u s)
  (hn : x ≠ "__name__" := by decide) (hd : (x == ("__debug__" : Str)) = false := by decide) : wpAny (model X.prog X.w) X.A (eval (.Name x pos) X.env) Q E s := by
 obtain ⟨mb, h1, h2⟩ := I.mod.blt
 exact Calls.Name_function_global I.ok.kind hg (Calls.loadGlobal_builtin (by rw [I.ok.glob]; exact I.mod.glob.keeps I.bk) hm (by rw [I.ok.blt]; exact h1.keeps I.bk) ((h2 x hn).trans hv) h) hd
theorem zd1 {x : Str} {v : V} {u : Value} {pos : Pos} (hg : Gl X x) (hm : X.mg x = some u) (r : RelV v u) (hd : (x == ("__debug__" : Str)) = false := by decide) : PE X (.Name x pos) (tC v) :=
 fun _ _ _ H _ I h => zfo I hg hm ⟨v, H, I, r, h⟩ hd
theorem zri {x : Str} {v : V} {u : Value} {pos : Pos} (hg : Gl X x) (hm : X.mg x = none) (hv : bootBuiltins x = some u) (r : RelV v u) (hn : x ≠ "__name__" := by decide) (hd : (x == ("__debug__" : Str)) = false := by decide) : PE X (.Name x pos) (tC v) :=
 fun _ _ _ H _ I h => zh9 I hg hm hv ⟨v, H, I, r, h⟩ hn hd
variable {a b : Expr} {ta tb : TE} {pos : Pos}
def tB (t : TE) : TT := fun σ H Q => t σ H fun x H1 => ∃ c, x = .bl c ∧ Q c H1
theorem zb8 {e : Expr} {t : TE} (h : PE X e t) (he : ∀ whole, isTrue e X.env whole = (do let v ← whole; standAt e.pos; holding [v] (truthy v)) := by intro _; rfl) : PT X e (tB t) := by
 intro pins s σ H Q I hw
 refine isTrue_plain (thn (h pins s σ H _ I hw) fun v s1 ⟨x, H1, I1, r1, q1⟩ => ?_) (he _)
 obtain ⟨d, rfl, q⟩ := q1
 cases r1
 exact wpAny_truthy_bool ⟨H1, I1, q⟩
variable {tA tB' : TT} {rest : List Expr}
def zu6 (t u : TT) : TT := fun σ H Q => t σ H fun c H1 => if c = true then u σ H1 Q else Q false H1
def tOr (t u : TT) : TT := fun σ H Q => t σ H fun c H1 => if c = true then Q true H1 else u σ H1 Q
def zup (t : TT) : TT := fun σ H Q => t σ H fun c H1 => Q (!c) H1
theorem zgz (ha : PT X a tA) : PW X (.BoolOp .And [a] pos) tA := by
 intro wh pins s σ H Q I h
 refine isTrue_and (thn (ha pins s σ H Q I h) fun c s1 e => ?_)
 cases c with
 | true => exact isTrue_and_nil e
 | false => exact e
theorem zha (ha : PT X a tA) : PW X (.BoolOp .Or [a] pos) tA := by
 intro wh pins s σ H Q I h
 refine isTrue_or (thn (ha pins s σ H Q I h) fun c s1 e => ?_)
 cases c with
 | false => exact isTrue_or_nil e
 | true => exact e
theorem ziq (ha : PT X a tA) (hb : PW X (.BoolOp .And (b :: rest) pos) tB') : PW X (.BoolOp .And (a :: b :: rest) pos) (zu6 tA tB') := by
 intro wh pins s σ H Q I h
 refine isTrue_and (thn (ha pins s σ H _ I h) fun c s1 ⟨H1, I1, q1⟩ => ?_)
 cases c with
 | true => exact hb wh pins s1 σ H1 Q I1 q1
 | false => exact ⟨H1, I1, q1⟩
theorem zhp (ha : PT X a tA) (hb : PW X (.BoolOp .Or (b :: rest) pos) tB') : PW X (.BoolOp .Or (a :: b :: rest) pos) (tOr tA tB') := by
 intro wh pins s σ H Q I h
 refine isTrue_or (thn (ha pins s σ H _ I h) fun c s1 ⟨H1, I1, q1⟩ => ?_)
 cases c with
 | true => exact ⟨H1, I1, q1⟩
 | false => exact hb wh pins s1 σ H1 Q I1 q1
theorem zem (ha : PT X a tA) : PT X (.UnaryOp .Not a pos) (zup tA) := by
 intro pins s σ H Q I h
 exact isTrue_not (ha pins s σ H (fun c H1 => Q (!c) H1) I h)
def zt5 (ta tb : TE) : TE := fun σ H Q => ta σ H fun x H1 => ∃ c, x = .bl c ∧ if c = true then tb σ H1 Q else Q (.bl false) H1
def zuv (ta tb : TE) : TE := fun σ H Q => ta σ H fun x H1 => ∃ c, x = .bl c ∧ if c = true then Q (.bl true) H1 else tb σ H1 Q
def zuc (ta : TE) : TE := fun σ H Q => ta σ H fun x H1 => ∃ c, x = .bl c ∧ Q (.bl (!c)) H1
theorem zcr {op} {t : TE} (h : PE X a t) : PE X (.BoolOp op [a] pos) t := fun pins s σ H Q I hw => BoolOp_one (h pins s σ H Q I hw)
theorem zc7 (ha : PE X a ta) (hb : PE X (.BoolOp .And (b :: rest) pos) tb) : PE X (.BoolOp .And (a :: b :: rest) pos) (zt5 ta tb) := by
 intro pins s σ H Q I h
 refine BoolOp_and (thn (ha pins s σ H _ I h) fun v s1 ⟨x, H1, I1, r1, q1⟩ => ?_)
 obtain ⟨c, rfl, q1⟩ := q1
 cases r1
 refine wpAny_truthy_bool ?_
 cases c with
 | true => exact hb pins s1 σ H1 Q I1 q1
 | false => exact ⟨.bl false, H1, I1, rfl, q1⟩
theorem zjz (ha : PE X a ta) (hb : PE X (.BoolOp .Or (b :: rest) pos) tb) : PE X (.BoolOp .Or (a :: b :: rest) pos) (zuv ta tb) := by
 intro pins s σ H Q I h
 refine BoolOp_or (thn (ha pins s σ H _ I h) fun v s1 ⟨x, H1, I1, r1, q1⟩ => ?_)
 obtain ⟨c, rfl, q1⟩ := q1
 cases r1
 refine wpAny_truthy_bool ?_
 cases c with
 | false => exact hb pins s1 σ H1 Q I1 q1
 | true => exact ⟨.bl true, H1, I1, rfl, q1⟩
theorem zf7 (ha : PE X a ta) : PE X (.UnaryOp .Not a pos) (zuc ta) := by
 intro pins s σ H Q I h
 refine UnaryOp_ (thn (ha pins s σ H _ I h) fun v s1 ⟨x, H1, I1, r1, q1⟩ => ?_)
 obtain ⟨c, rfl, q1⟩ := q1
 cases r1
 exact not_of (wpAny_truthy_bool ⟨.bl (!c), H1, I1, rfl, q1⟩)
end
end L2
namespace L2
open PySem PySem.Spec PyProof.Rows
def SqL (K : PySem.W.Frag) (H : Hp) (a : Addr) (xs : List V) : Prop :=
 Rd H a (.lst xs) ∨
  ∃ (o : Obj) (its : Array Value) (n : Nat), K.lookup a = some o ∧ o.cls = .type "list" ∧ o.dict = none ∧ o.data = .seq its n ∧ its.size ≤ sizeLine ∧ Vals xs its.toList
def SqT (K : PySem.W.Frag) (H : Hp) (a : Addr) (xs : List V) : Prop :=
 Rd H a (.tup xs) ∨
  ∃ (o : Obj) (its : Array Value) (n : Nat), K.lookup a = some o ∧ o.cls = .type "tuple" ∧ o.data = .seq its n ∧ its.size ≤ sizeLine ∧ Vals xs its.toList
def zuo : Value → Option V
 | .none => some .non
 | .bool b => some (.bl b)
 | .int i _ => some (.int i)
 | .str x _ => some (.str x)
 | .bytes b _ => some (.byt b)
 | .float b _ => some (.flt b)
 | .ref a => some (.ref a)
 | .type n => some (.ty n)
 | _ => none
theorem RelV.abs {x : V} {u : Value} (r : RelV x u) : zuo u = some x := by
 cases x with
 | non => cases r; rfl
 | bl _ => cases r; rfl
 | int _ => obtain ⟨t, rfl⟩ := r; rfl
 | str _ => obtain ⟨t, rfl⟩ := r; rfl
 | byt _ => obtain ⟨t, rfl⟩ := r; rfl
 | flt _ => obtain ⟨t, rfl⟩ := r; rfl
 | ref _ => cases r; rfl
 | ty _ => cases r; rfl
theorem RelV.inj {x y : V} {u : Value} (r : RelV x u) (q : RelV y u) : x = y := Option.some.inj (r.abs.symm.trans q.abs)
theorem Vals.inj : ∀ {xs ys : List V} {us : List Value}, Vals xs us → Vals ys us → xs = ys
 | _, _, _, .nil, .nil => rfl
 | _, _, _, .cons r t, .cons r' t' => by rw [r.inj r', Vals.inj t t']
section
variable {X : Cx} {pins : List (Addr × Obj)} {σ : St} {H : Hp} {s : Shared} {a : Addr} {xs ys : List V}
theorem SqL.of {K : PySem.W.Frag} (h : H a = some (.lst xs)) : SqL K H a xs := .inl (.inl h)
theorem Inv.list (I : Inv X pins σ H s) (h : SqL X.K H a xs) : ∃ its : List Value, Vals xs its ∧ PlainL s.heap a its.toArray ∧ xs.length ≤ sizeLine := by
 rcases h with h | ⟨o, its, n, hk, hc, hd, hs, hz, r⟩
 ·obtain ⟨z, its, n, r, e⟩ := h.ok I.hok
  exact ⟨its, r, ⟨_, n, e, rfl, rfl, rfl⟩, z⟩
 ·refine ⟨its.toList, r, ⟨o, n, I.kIn a o hk, hc, hd, by simpa using hs⟩, ?_⟩
  have e := r.length
  simp only [Array.length_toList] at e
  omega
theorem Inv.tuple (I : Inv X pins σ H s) (h : SqT X.K H a xs) : ∃ its : List Value, Vals xs its ∧ IsTup s.heap a its.toArray ∧ xs.length ≤ sizeLine := by
 rcases h with h | ⟨o, its, n, hk, hc, hs, hz, r⟩
 ·obtain ⟨z, its, r, p⟩ := h.ok I.hok
  exact ⟨its, r, p, z⟩
 ·refine ⟨its.toList, r, ⟨o, I.kIn a o hk, hc, n, by simpa using hs⟩, ?_⟩
  have e := r.length
  simp only [Array.length_toList] at e
  omega
theorem Inv.list_inj (I : Inv X pins σ H s) (h : SqL X.K H a xs) (h' : SqL X.K H a ys) : xs = ys := by
 obtain ⟨its, r, ⟨o, n, e, _, _, d⟩, _⟩ := I.list h
 obtain ⟨its', r', ⟨o', n', e', _, _, d'⟩, _⟩ := I.list h'
 rw [e] at e'; cases e'
 rw [d] at d'
 injection d' with d1 _
 have : its = its' := by simpa using congrArg Array.toList d1
 subst this
 exact r.inj r'
theorem Inv.tuple_inj (I : Inv X pins σ H s) (h : SqT X.K H a xs) (h' : SqT X.K H a ys) : xs = ys := by
 obtain ⟨its, r, ⟨o, e, _, n, d⟩, _⟩ := I.tuple h
 obtain ⟨its', r', ⟨o', e', _, n', d'⟩, _⟩ := I.tuple h'
 rw [e] at e'; cases e'
 rw [d] at d'
 injection d' with d1 _
 have : its = its' := by simpa using congrArg Array.toList d1
 subst this
 exact r.inj r'
end
abbrev Cx.wish (X : Cx) (E : Value → Shared → Prop) : Cx := { X with xe := E }
abbrev Cx.nox (X : Cx) : Cx := X.wish fun _ _ => False
theorem Cx.Ok.wish {X : Cx} (ok : X.Ok) (E : Value → Shared → Prop) : (X.wish E).Ok :=
 ⟨ok.mod, ok.kind, ok.glob, ok.blt, ok.above, ok.inj, ok.has, ok.cab, ok.hd, ok.frames, ok.stk, ok.exf, ok.bs, ok.bsz, ok.noex, ok.exfs, ok.funs, ok.frf⟩
theorem Cx.Ok.unwish {X : Cx} {E : Value → Shared → Prop} (ok : (X.wish E).Ok) : X.Ok :=
 ⟨ok.mod, ok.kind, ok.glob, ok.blt, ok.above, ok.inj, ok.has, ok.cab, ok.hd, ok.frames, ok.stk, ok.exf, ok.bs, ok.bsz, ok.noex, ok.exfs, ok.funs, ok.frf⟩
section
variable {X : Cx} {pins : List (Addr × Obj)} {σ : St} {H : Hp} {s : Shared} {E : Value → Shared → Prop}
theorem Inv.wish (I : Inv X pins σ H s) (E : Value → Shared → Prop) : Inv (X.wish E) pins σ H s := ⟨I.ok.wish E, I.os, I.bare, I.base, I.loc, I.cell, I.free, I.freeC, I.pin, I.hok, I.len⟩
theorem Inv.unwish (I : Inv (X.wish E) pins σ H s) : Inv X pins σ H s := ⟨I.ok.unwish, I.os, I.bare, I.base, I.loc, I.cell, I.free, I.freeC, I.pin, I.hok, I.len⟩
theorem SP.unwish {D : zh4} {f : Flow} {s' : Shared} (h : SP (X.wish E) pins D f s') : SP X pins D f s' := by
 cases f with
 | next => obtain ⟨σ', H', I, q⟩ := h; exact ⟨σ', H', I.unwish, q⟩
 | brk => obtain ⟨σ', H', I, q⟩ := h; exact ⟨σ', H', I.unwish, q⟩
 | cont => obtain ⟨σ', H', I, q⟩ := h; exact ⟨σ', H', I.unwish, q⟩
 | ret u => obtain ⟨v, σ', H', I, r, q⟩ := h; exact ⟨v, σ', H', I.unwish, r, q⟩
theorem PSs.nox {st : List Stmt} {t : TS} (h : PSs X.nox st t) : PSs X st t := fun pins s σ H D I hw =>
 wpAny_mono (h pins s σ H D (I.wish _) hw) (fun _ _ q => q.unwish) fun _ _ z => False.elim z
end
section
variable {X : Cx} {st : Stmt} {rest : List Stmt} {t u : TS} {e : Expr} {te : TE} {pos : Pos}
def zt1 : TS := fun D σ H => D.nx σ H
def zut (t u : TS) : TS := fun D σ H => t { D with nx := u D } σ H
theorem zau : PSs X [] zt1 := fun _ _ σ H _ I h => wpAny_execs_nil ⟨σ, H, I, h⟩
theorem zae (h1 : PS X st t) (h2 : PSs X rest u) : PSs X (st :: rest) (zut t u) := by
 intro pins s σ H D I h
 refine wpAny_execs_cons (thn (h1 pins s σ H { D with nx := u D } I h) fun f s1 q => ?_)
 cases f with
 | next =>
  obtain ⟨σ', H', I', q⟩ := q
  exact h2 pins s1 σ' H' D I' q
 | ret v => exact q
 | brk => exact q
 | cont => exact q
theorem zai (h1 : PS X st t) : PSs X [st] t := by
 intro pins s σ H D I h
 refine wpAny_execs_cons (thn (h1 pins s σ H D I h) fun f s1 q => ?_)
 cases f with
 | next => exact wpAny_execs_nil q
 | ret v => exact q
 | brk => exact q
 | cont => exact q
theorem Inv.quiet {pins : List (Addr × Obj)} {σ : St} {H : Hp} {s : Shared} (I : Inv X pins σ H s) : interactive X.env = false := by simp [interactive, I.ok.kind]
def ztx (te : TE) : TS := fun D σ H => te σ H fun _ H1 => D.nx σ H1
theorem zdc (he : PE X e te) (hs : swapsWith e none pos.line X.env = pure false := by rfl) : PS X (.Expr e pos) (ztx te) := by
 intro pins s σ H D I h
 exact wpAny_Expr_any (thn (he pins s σ H _ I h) fun v s1 ⟨x, H1, I1, r1, q1⟩ => ⟨σ, H1, I1, q1⟩) I.quiet hs
def zu0 (te : TE) : TS := fun D σ H => te σ H D.rt
theorem zam (he : PE X e te) : PS X (.Return (some e) pos) (zu0 te) := by
 intro pins s σ H D I h
 exact wpAny_Return_some (thn (he pins s σ H _ I h) fun v s1 ⟨x, H1, I1, r1, q1⟩ => ⟨x, σ, H1, I1, r1, q1⟩)
def zu1 (c : TT) (t u : TS) : TS := fun D σ H => c σ H fun b H1 => if b = true then t D σ H1 else u D σ H1
theorem za9 {c : Expr} {a b : List Stmt} {tc : TT} (hc : PT X c tc) (ha : PSs X a t) (hb : PSs X b u) : PS X (.If c a b pos) (zu1 tc t u) := by
 intro pins s σ H D I h
 refine wpAny_If (thn (hc pins s σ H _ I h) fun d s1 ⟨H1, I1, q1⟩ => ?_)
 cases d with
 | true => exact ha pins s1 σ H1 D I1 q1
 | false => exact hb pins s1 σ H1 D I1 q1
def znh : TS := fun _ _ _ => False
theorem zqt : PS X st znh := fun _ _ _ _ _ _ h => h.elim
theorem zfq {sts : List Stmt} : PSs X sts znh := fun _ _ _ _ _ _ h => h.elim
end
abbrev TG := V → St → Hp → (St → Hp → Prop) → Prop
abbrev TGs := List V → St → Hp → (St → Hp → Prop) → Prop
def PG (X : Cx) (target : Expr) (t : TG) : Prop :=
 ∀ (pins : List (Addr × Obj)) (s : Shared) (σ : St) (H : Hp) (v : V) (u : Value) (Q : St → Hp → Prop), Inv X pins σ H s → RelV v u → t v σ H Q →
  wpAny (model X.prog X.w) X.A (assign target X.env u) (fun _ s' => ∃ σ' H', Inv X pins σ' H' s' ∧ Q σ' H') X.xe s
def PGs (X : Cx) (ts : List Expr) (t : TGs) : Prop :=
 ∀ (pins : List (Addr × Obj)) (s : Shared) (σ : St) (H : Hp) (vs : List V) (us : List Value) (Q : St → Hp → Prop), Inv X pins σ H s → Vals vs us → t vs σ H Q →
  wpAny (model X.prog X.w) X.A (assignInOrder ((assignEach ts X.env).map (·.2)) us) (fun _ s' => ∃ σ' H', Inv X pins σ' H' s' ∧ Q σ' H') X.xe s
abbrev zsp := V → V → V → Hp → (Hp → Prop) → Prop
def zt9 (X : Cx) (t : zsp) : Prop :=
 ∀ (pins : List (Addr × Obj)) (s : Shared) (σ : St) (H : Hp) (o i v : V) (ov iv u : Value) (Q : Hp → Prop), Inv X pins σ H s → RelV o ov → RelV i iv → RelV v u → t o i v H Q →
  wpAny (model X.prog X.w) X.A (setItem ov iv u) (fun _ s' => ∃ H', Inv X pins σ H' s' ∧ Q H') X.xe s
section
variable {X : Cx} {pos : Pos}
def znr (i : Nat) : TG := fun v σ H Q => Q (σ.set i (some v)) H
theorem za6 {i : Nat} {x : Str} (hN : X.N.Nodup) (hi : X.N[i]? = some x) (hx : Loc X.env.scope x) (hf : X.fn x = true ∨ X.env.scope.names.lookup x = some .local := by first | exact .inl rfl | exact .inr rfl | assumption) : PG X (.Name x pos) (znr i) := by
 intro pins s σ H v u Q I r h
 exact wpAny_assign_Name (zij I hN hi hx r (fun s' I' => ⟨_, H, I', h⟩) hf)
def zux : TGs := fun vs σ H Q => vs = [] ∧ Q σ H
def zug (t : TG) (u : TGs) : TGs := fun vs σ H Q => ∃ v r, vs = v :: r ∧ t v σ H fun σ' H' => u r σ' H' Q
theorem zdl : PGs X [] zux := by
 intro pins s σ H vs us Q I r h
 obtain ⟨e, h⟩ := h
 subst e
 cases r
 exact assignInOrder_nil ⟨σ, H, I, h⟩
theorem zbk {e : Expr} {es : List Expr} {t : TG} {u : TGs} (h1 : PG X e t) (h2 : PGs X es u)
  (hs : (assignEach (e :: es) X.env).map (·.2) = assign e X.env :: (assignEach es X.env).map (·.2) := by rfl) : PGs X (e :: es) (zug t u) := by
 intro pins s σ H vs us Q I r h
 obtain ⟨v, vr, e1, h⟩ := h
 subst e1
 cases r with
 | cons r rr =>
  rw [hs]
  refine assignInOrder_cons (thn (h1 pins s σ H _ _ _ I r h) fun _ s1 ⟨σ1, H1, I1, q1⟩ => ?_)
  exact h2 pins s1 σ1 H1 _ _ Q I1 rr q1
def zud (K : PySem.W.Frag) (n : Nat) (t : TGs) : TG := fun v σ H Q => ∃ a xs, v = .ref a ∧ SqT K H a xs ∧ xs.length = n ∧ t xs σ H Q
theorem ztk {es : List Expr} {k : Nat} {t : TGs} {n : Nat} (hc : X.calm = true) (h : PGs X es t)
  (hn : (assignEach es X.env).length = n := by rfl) (hst : (assignEach es X.env).findIdx? (·.1) = none := by rfl) : PG X (.Tuple es k pos) (zud X.K n t) := by
 intro pins s σ H v u Q I r hw
 obtain ⟨a, xs, e1, hq, hl, hw⟩ := hw
 subst e1
 cases r
 obtain ⟨its, rv, ht, hz⟩ := I.tuple hq
 refine assign_Tuple_tuple (I.ok.hd hc) ht (by simp [hn, ← hl, rv.length]) hst fun h' hx => ?_
 have I1 : Inv X pins σ H { s with heap := h' } := I.kept (t' := s.toks) fun b o e => hx b o (Nat.ne_of_lt (Heap.lt_size e)) e
 exact h pins _ σ H xs _ Q I1 (by simpa using rv) hw
def zuw (to ti : TE) (t : zsp) : TG := fun v σ H Q => to σ H fun o H1 => ti σ H1 fun i H2 => t o i v H2 fun H3 => Q σ H3
theorem zsx {o i : Expr} {to ti : TE} {t : zsp} (ho : PE X o to) (hi : PE X i ti) (hs : zt9 X t)
  (ha : ∀ v, assign (.Subscript o i pos) X.env v = (do
   let ov ← holding [v] (eval o X.env)
   let iv ← holding [v, ov] (eval i X.env)
   standAt pos
   holding [v, ov, iv] (setItem ov iv v)
   release [v, ov, iv] []) := by intro _; rfl) : PG X (.Subscript o i pos) (zuw to ti t) := by
 intro pins s σ H v u Q I r h
 rw [ha]
 refine wpAny_bind (wpAny_holding (thn (ho pins s σ H _ I h) fun ov s1 ⟨x, H1, I1, r1, q1⟩ => ?_))
 refine wpAny_bind (wpAny_holding (thn (hi pins s1 σ H1 _ I1 q1) fun iv s2 ⟨y, H2, I2, r2, q2⟩ => ?_))
 refine wpAny_bind (wpAny_standAt (wpAny_bind (wpAny_holding (thn (hs pins s2 σ H2 x y v ov iv u _ I2 r1 r2 r q2) fun _ s3 ⟨H3, I3, q3⟩ => ?_))))
 exact wpAny_release ⟨σ, H3, I3, q3⟩
def ztf (te : TE) (g : TG) : TS := fun D σ H => te σ H fun x H1 => g x σ H1 D.nx
theorem zik {tg e : Expr} {te : TE} {g : TG} (he : PE X e te) (hg : PG X tg g) (hs : swapsWithSole [tg] e pos.line X.env = pure false := by rfl) (hw : swappedStores [tg] e X.env = pure none := by rfl)
  (h1 : (assignEach [tg] X.env).map (·.2) = [assign tg X.env] := by rfl) : PS X (.Assign [tg] e pos) (ztf te g) := by
 intro pins s σ H D I h
 refine wpAny_Assign_stores (thn (he pins s σ H _ I h) fun v s1 ⟨x, H1, I1, r1, q1⟩ => ?_) hs hw
 rw [h1]
 exact thn (hg pins s1 σ H1 x v _ I1 r1 q1) fun _ s2 q => q
theorem za1 {i : Nat} {x : Str} {e : Expr} {te : TE} {pos' : Pos} (hN : X.N.Nodup) (hi : X.N[i]? = some x) (hx : Loc X.env.scope x) (he : PE X e te) (hs : swapsWith e (some (.Name x pos')) pos.line X.env = pure false := by rfl) (hf : X.fn x = true ∨ X.env.scope.names.lookup x = some .local := by first | exact .inl rfl | exact .inr rfl | assumption) :
  PS X (.Assign [.Name x pos'] e pos) (ztf te (znr i)) := by
 intro pins s σ H D I h
 refine wpAny_Assign_Name (thn (he pins s σ H _ I h) fun v s1 ⟨y, H1, I1, r1, q1⟩ => ?_) hs
 exact zij I1 hN hi hx r1 (fun s2 I2 => ⟨_, H1, I2, q1⟩) hf
end
section
variable {X : Cx} {pos : Pos}
end
structure It where
 go : Nat → Hp → Prop
 yld : Nat → Hp → V → Hp → Prop
 stop : Nat → Hp → Prop
def zjf (X : Cx) (pins : List (Addr × Obj)) (H : Hp) (b : Addr) : Prop :=
 H b = none ∧ b ≠ X.env.locals ∧ b ∉ X.fs ∧ (b ∈ X.ex ∨ X.s₀.heap.objs.size ≤ b) ∧ (∀ x c, X.env.cells.lookup x = some c → c ≠ b) ∧ ∀ p ∈ X.pn ++ pins, p.1 ≠ b
theorem Inv.fpOk {X : Cx} {pins : List (Addr × Obj)} {σ : St} {H H' : Hp} {s : Shared} {b : Addr} (I : Inv X pins σ H s) (hb : s.heap.objs.size ≤ b) (hn : H' b = none) : zjf X pins H' b := by
 refine ⟨hn, Nat.ne_of_gt (Nat.lt_of_lt_of_le I.lt hb), I.nofs hb, .inr (Nat.le_trans I.sz hb), fun x c e z => ?_, fun p hp z => ?_⟩
 ·obtain ⟨v, q⟩ := I.cell x c e
  exact absurd (Nat.lt_of_lt_of_le q.lt (by rw [z]; exact hb)) (Nat.lt_irrefl _)
 ·exact absurd (Nat.lt_of_lt_of_le (Heap.lt_size (I.pin p hp).1) (by rw [z]; exact hb)) (Nat.lt_irrefl _)
structure zr0 (P : Program) (w : World) (K : PySem.W.Frag) (tg : Expr) (J : It) (fp : List Addr) (it : Addr) (tn : Nat → Heap → Prop) : Prop where
 mem : it ∈ fp
 obj : ∀ i h, tn i h → ∀ b ∈ fp, ∃ o, h.get? b = some o ∧ ∀ v, o.data ≠ .cell v
 keep : ∀ i h h', tn i h → (∀ b ∈ fp, ∀ o, h.get? b = some o → h'.get? b = some o) → tn i h'
 item : ∀ (X : Cx), X.prog = P → X.w = w → X.K = K → X.calm = true → ∀ (i : Nat) (pins : List (Addr × Obj)) (s : Shared) (σ : St) (H : Hp) (E : Value → Shared → Prop), Inv X pins σ H s → (∀ b ∈ fp, zjf X pins H b) → tn i s.heap → J.go i H →
  wpAny (model P w) X.A (pyNext (.ref it)) (fun r s1 => ∃ u, r = some u ∧
   wpAny (model P w) X.A (letOwnedTupleGo tg (.ref it) u) (fun _ s2 => ∃ x H', Inv X pins σ H' s2 ∧ RelV x u ∧ J.yld i H x H' ∧ tn (i + 1) s2.heap ∧ ∀ b ∈ fp, H' b = none) E s1) E s
 done : ∀ (X : Cx), X.prog = P → X.w = w → X.K = K → X.calm = true → ∀ (i : Nat) (pins : List (Addr × Obj)) (s : Shared) (σ : St) (H : Hp) (E : Value → Shared → Prop), Inv X pins σ H s → (∀ b ∈ fp, zjf X pins H b) → tn i s.heap → J.stop i H →
  wpAny (model P w) X.A (pyNext (.ref it)) (fun r s1 => r = none ∧ Inv X pins σ H s1) E s
 self : ∀ (A : Around) (i : Nat) (s : Shared) (Q : Value → Shared → Prop) (E : Value → Shared → Prop), tn i s.heap → Q (.ref it) s → wpAny (model P w) A (pyIter (.ref it)) Q E s
abbrev TI := St → Hp → (It → Hp → Prop) → Prop
def PIE (X : Cx) (pins : List (Addr × Obj)) (σ : St) (tg : Expr) (R : It → Hp → Prop) (itv : Value) (s2 : Shared) : Prop :=
 ∃ (it : Addr) (fp : List Addr) (tn : Nat → Heap → Prop) (J : It) (H' : Hp), itv = .ref it ∧ Inv X pins σ H' s2 ∧ zr0 X.prog X.w X.K tg J fp it tn ∧ tn 0 s2.heap ∧ (∀ b ∈ fp, zjf X pins H' b) ∧ R J H'
def PI (X : Cx) (tg iter : Expr) (wi : TI) : Prop :=
 ∀ (pins : List (Addr × Obj)) (s : Shared) (σ : St) (H : Hp) (R : It → Hp → Prop), Inv X pins σ H s → wi σ H R →
  wpAny (model X.prog X.w) X.A (eval iter X.env) (fun v s1 => wpAny (model X.prog X.w) X.A (pyIter v) (PIE X pins σ tg R) X.xe s1) X.xe s
theorem zp6 {M : Model} {A : Around} {E : Value → Shared → Prop} {s : Shared} {tg : Expr} {it : Addr} {u : Value} {o : Obj} {n : String} {vs : Array Value} {Q : Unit → Shared → Prop} (ho : s.heap.get? it = some o) (hc : o.cls = .type n) (hd : o.data = .fields vs)
    (hn : ["enumerate", "zip", "dict_itemiterator", "dict_reverseitemiterator", "odict_iterator", "itertools.zip_longest", "itertools.pairwise"].contains n = false) (hQ : Q () s) : wpAny M A (letOwnedTupleGo tg (.ref it) u) Q E s := by
  unfold letOwnedTupleGo
  cases tg <;> first
    | exact wpAny_pure hQ
    | (cases u <;> first
        | exact wpAny_pure hQ
        | (refine wpAny_bind (wpAny_load ho ?_)
           rw [hc, hd]
           show wpAny M A (if (["enumerate", "zip", "dict_itemiterator", "dict_reverseitemiterator", "odict_iterator", "itertools.zip_longest", "itertools.pairwise"].contains n && vs[0]? == some (rawInt _)) = true then _ else _) Q E s
           rw [if_neg (by intro h; rw [hn, Bool.false_and] at h; cases h)]
           exact wpAny_pure hQ))
def Itl (K : PySem.W.Frag) (a : Addr) : It :=
 ⟨fun i H => ∃ xs x, SqL K H a xs ∧ xs[i]? = some x, fun i H x H' => H' = H ∧ ∀ xs, SqL K H a xs → xs[i]? = some x, fun i H => ∃ xs, SqL K H a xs ∧ xs.length ≤ i⟩
def Itt (K : PySem.W.Frag) (a : Addr) : It :=
 ⟨fun i H => ∃ xs x, SqT K H a xs ∧ xs[i]? = some x, fun i H x H' => H' = H ∧ ∀ xs, SqT K H a xs → xs[i]? = some x, fun i H => ∃ xs, SqT K H a xs ∧ xs.length ≤ i⟩
def Itr (lo : Int) (n : Nat) : It := ⟨fun i _ => i < n, fun i H x H' => H' = H ∧ x = .int (lo + i), fun i _ => n ≤ i⟩
theorem zoj {P : Program} {w : World} {K : PySem.W.Frag} {tg : Expr} (a it : Addr) : zr0 P w K tg (Itl K a) [it] it (fun i h => h.IsListIter it a i) where
 mem := by simp
 obj := fun i h st b hb => by
  have e : b = it := by simpa using hb
  subst e
  obtain ⟨o, e, c, d⟩ := st
  exact ⟨o, e, fun v z => by rw [d] at z; cases z⟩
 keep := fun i h h' st k => st.at fun o e => k it (by simp) o e
 item := by
  intro X hP hw hK hc i pins s σ H E I hf st hg
  subst hP hw hK
  obtain ⟨xs, x, hq, hx⟩ := hg
  obtain ⟨its, rv, p, hz⟩ := I.list hq
  obtain ⟨u, hu, ru⟩ := rv.get hx
  obtain ⟨f0, f1, f2, f3, f4, f5⟩ := hf it (by simp)
  refine wpAny_pyNext_list_item st p.isList (x := u) (by simpa using hu) fun h' st' sb => ?_
  have I1 : Inv X pins σ H { s with heap := h' } := I.turned (t' := s.toks) (fun b o hb e => (sb.2 b hb).trans e) f0 f1 f3 f4 f5
  obtain ⟨o, e, c, d⟩ := id st'
  exact ⟨u, rfl, zp6 (s := { s with heap := h' }) e c d (by decide) ⟨x, H, I1, ru, ⟨rfl, fun ys hy => by rw [I.list_inj hy hq]; exact hx⟩, st', fun b hb => (hf b hb).1⟩⟩
 done := by
  intro X hP hw hK hc i pins s σ H E I hf st hg
  subst hP hw hK
  obtain ⟨xs, hq, hx⟩ := hg
  obtain ⟨its, rv, p, hz⟩ := I.list hq
  obtain ⟨f0, f1, f2, f3, f4, f5⟩ := hf it (by simp)
  have hl := rv.length
  exact wpAny_pyNext_list_end (I.ok.hd hc) st p.isList (by simp; omega) fun h' eb => ⟨rfl, I.turned (t' := s.toks) (fun b o hb e => eb b o hb e) f0 f1 f3 f4 f5⟩
 self := fun _ _ _ _ _ st h => wpAny_pyIter_listiter st h
theorem zm8 {P : Program} {w : World} {K : PySem.W.Frag} {tg : Expr} (a it : Addr) : zr0 P w K tg (Itt K a) [it] it (fun i h => h.IsTupleIter it a i) where
 mem := by simp
 obj := fun i h st b hb => by
  have e : b = it := by simpa using hb
  subst e
  obtain ⟨o, e, c, d⟩ := st
  exact ⟨o, e, fun v z => by rw [d] at z; cases z⟩
 keep := fun i h h' st k => st.at fun o e => k it (by simp) o e
 item := by
  intro X hP hw hK hc i pins s σ H E I hf st hg
  subst hP hw hK
  obtain ⟨xs, x, hq, hx⟩ := hg
  obtain ⟨its, rv, p, hz⟩ := I.tuple hq
  obtain ⟨u, hu, ru⟩ := rv.get hx
  obtain ⟨f0, f1, f2, f3, f4, f5⟩ := hf it (by simp)
  refine wpAny_pyNext_tuple_item st (show s.heap.IsTuple a its.toArray from p) (x := u) (by simpa using hu) fun h' st' sb => ?_
  have I1 : Inv X pins σ H { s with heap := h' } := I.turned (t' := s.toks) (fun b o hb e => (sb.2 b hb).trans e) f0 f1 f3 f4 f5
  obtain ⟨o, e, c, d⟩ := id st'
  exact ⟨u, rfl, zp6 (s := { s with heap := h' }) e c d (by decide) ⟨x, H, I1, ru, ⟨rfl, fun ys hy => by rw [I.tuple_inj hy hq]; exact hx⟩, st', fun b hb => (hf b hb).1⟩⟩
 done := by
  intro X hP hw hK hc i pins s σ H E I hf st hg
  subst hP hw hK
  obtain ⟨xs, hq, hx⟩ := hg
  obtain ⟨its, rv, p, hz⟩ := I.tuple hq
  obtain ⟨f0, f1, f2, f3, f4, f5⟩ := hf it (by simp)
  have hl := rv.length
  exact wpAny_pyNext_tuple_end (I.ok.hd hc) st (show s.heap.IsTuple a its.toArray from p) (by simp; omega) fun h' eb => ⟨rfl, I.turned (t' := s.toks) (fun b o hb e => eb b o hb e) f0 f1 f3 f4 f5⟩
 self := fun _ _ _ _ _ st h => wpAny_pyIter_tupleiter st h
theorem zm9 {P : Program} {w : World} {K : PySem.W.Frag} {tg : Expr} (it : Addr) (lo : Int) (n : Nat) : zr0 P w K tg (Itr lo n) [it] it (fun i h => IsRangeIter h it (lo + (i : Nat) * 1) ((n : Int) - (i : Nat)) 1) where
 mem := by simp
 obj := fun i h st b hb => by
  have e : b = it := by simpa using hb
  subst e
  exact ⟨_, st, fun v z => by
   have z' : Data.fields _ = Data.cell v := z
   cases z'⟩
 keep := fun i h h' st k => k it (by simp) _ st
 item := by
  intro X hP hw hK hc i pins s σ H E I hf st hg
  subst hP hw hK
  obtain ⟨f0, f1, f2, f3, f4, f5⟩ := hf it (by simp)
  have W := Walks.range (prog := X.prog) (w := X.w) (I.ok.hd hc) it lo 1 n
  refine W.item i s _ _ hg st fun v h' tk hv st' kk => ?_
  obtain ⟨t, rfl⟩ := hv
  have I1 : Inv X pins σ H { s with heap := h', toks := tk } := I.turned (fun b o hb e => kk b o (by simpa using hb) e) f0 f1 f3 f4 f5
  refine ⟨_, rfl, zp6 (s := { s with heap := h', toks := tk }) (n := "range_iterator") st' rfl rfl (by decide) ⟨.int (lo + i), H, I1, ⟨t, ?_⟩, ⟨rfl, rfl⟩, st', fun b hb => (hf b hb).1⟩⟩
  rw [Int.mul_one]
 done := by
  intro X hP hw hK hc i pins s σ H E I hf st hg
  subst hP hw hK
  obtain ⟨f0, f1, f2, f3, f4, f5⟩ := hf it (by simp)
  exact wpAny_pyNext_range_end (I.ok.hd hc) st (by have : n ≤ i := hg; omega) fun h' eb => ⟨rfl, I.turned (t' := s.toks) (fun b o hb e => eb b o hb e) f0 f1 f3 f4 f5⟩
 self := fun _ _ _ _ _ st h => wpAny_pyIter_rangeiter st h
end L2
namespace L2
open PySem PySem.Spec PyProof.Rows
section
variable {X : Cx} {tg : Expr}
def zsf (K : PySem.W.Frag) (tl : TE) : TI := fun σ H R => tl σ H fun x H1 => ∃ a, x = .ref a ∧ (∃ xs, SqL K H1 a xs) ∧ R (Itl K a) H1
def ztr (K : PySem.W.Frag) (tl : TE) : TI := fun σ H R => tl σ H fun x H1 => ∃ a, x = .ref a ∧ (∃ xs, SqT K H1 a xs) ∧ R (Itt K a) H1
theorem zrt {l : Expr} {tl : TE} (hl : PE X l tl) : PI X tg l (zsf X.K tl) := by
 intro pins s σ H R I h
 refine thn (hl pins s σ H _ I h) fun v s1 ⟨x, H1, I1, r1, q1⟩ => ?_
 obtain ⟨a, e, ⟨xs, hq⟩, q⟩ := q1
 subst e
 cases r1
 obtain ⟨its, rv, p, hz⟩ := I1.list hq
 refine wpAny_pyIter_list p.isList ?_
 refine ⟨s1.heap.objs.size, [s1.heap.objs.size], _, _, H1, rfl, I1.kept (t' := s1.toks) fun b o e => Heap.get?_push_of_some _ e, zoj a _, ⟨_, Heap.get?_push_size _ rfl, rfl, rfl⟩, fun b hb => ?_, q⟩
 have e : b = s1.heap.objs.size := by simpa using hb
 subst e
 exact I1.fpOk (Nat.le_refl _) (I1.hok.fresh (Nat.le_refl _))
theorem zs4 {l : Expr} {tl : TE} (hl : PE X l tl) : PI X tg l (ztr X.K tl) := by
 intro pins s σ H R I h
 refine thn (hl pins s σ H _ I h) fun v s1 ⟨x, H1, I1, r1, q1⟩ => ?_
 obtain ⟨a, e, ⟨xs, hq⟩, q⟩ := q1
 subst e
 cases r1
 obtain ⟨its, rv, p, hz⟩ := I1.tuple hq
 refine wpAny_pyIter_tuple (show s1.heap.IsTuple a its.toArray from p) ?_
 refine ⟨s1.heap.objs.size, [s1.heap.objs.size], _, _, H1, rfl, I1.kept (t' := s1.toks) fun b o e => Heap.get?_push_of_some _ e, zm8 a _, ⟨_, Heap.get?_push_size _ rfl, rfl, rfl⟩, fun b hb => ?_, q⟩
 have e : b = s1.heap.objs.size := by simpa using hb
 subst e
 exact I1.fpOk (Nat.le_refl _) (I1.hok.fresh (Nat.le_refl _))
theorem zlx {pins : List (Addr × Obj)} {σ : St} {H : Hp} {s : Shared} {R : It → Hp → Prop} {E : Value → Shared → Prop} {lo hi : Int} {t u v : Tok} {tk : Nat} (I : Inv X pins σ H s) (h1 : -(2 ^ 62) ≤ lo) (h2 : lo < 2 ^ 62) (h3 : -(2 ^ 62) ≤ hi) (h4 : hi < 2 ^ 62)
  (q : R (Itr lo (hi - lo).toNat) H) : wpAny (model X.prog X.w) X.A (pyIter (.ref s.heap.objs.size)) (PIE X pins σ tg R) E { s with heap := s.heap.push { cls := .type "range", data := .fields #[.int lo t, .int hi u, .int 1 v] }, toks := tk } := by
 refine wpAny_pyIter_range (IsRange.new ..) (small_one h1 h2 h3 h4) ?_
 have I1 : Inv X pins σ H { s with heap := s.heap.push { cls := .type "range", data := .fields #[.int lo t, .int hi u, .int 1 v] }, toks := tk } := I.kept fun b o e => Heap.get?_push_of_some _ e
 refine ⟨(s.heap.push { cls := .type "range", data := .fields #[.int lo t, .int hi u, .int 1 v] }).objs.size, [(s.heap.push { cls := .type "range", data := .fields #[.int lo t, .int hi u, .int 1 v] }).objs.size], _, _, H, rfl,
  I1.kept (t' := tk) fun b o e => Heap.get?_push_of_some _ e, zm9 _ lo (hi - lo).toNat, ?_, fun b hb => ?_, q⟩
 ·have e1 : lo + ((0 : Nat) : Int) * 1 = lo := by simp
  have e2 : (((hi - lo).toNat : Nat) : Int) - ((0 : Nat) : Int) = Builtin.Range.rangeSize lo hi 1 := by rw [rangeSize_one]; split <;> omega
  show IsRangeIter _ _ (lo + ((0 : Nat) : Int) * 1) ((((hi - lo).toNat : Nat) : Int) - ((0 : Nat) : Int)) 1
  rw [e1, e2]
  exact Heap.get?_push_size _ rfl
 ·have e : b = (s.heap.push { cls := .type "range", data := .fields #[.int lo t, .int hi u, .int 1 v] }).objs.size := by simpa using hb
  subst e
  exact I1.fpOk (Nat.le_refl _) (I1.hok.fresh (Nat.le_refl _))
def zt7 (ta : TA) : TI := fun σ H R => ta σ H fun vs H1 => ∃ j : Int, vs = [.int j] ∧ -(2 ^ 62) ≤ j ∧ j < 2 ^ 62 ∧ R (Itr 0 j.toNat) H1
def zt4 (ta : TA) : TI := fun σ H R => ta σ H fun vs H1 => ∃ i j : Int, vs = [.int i, .int j] ∧ (-(2 ^ 62) ≤ i ∧ i < 2 ^ 62 ∧ -(2 ^ 62) ≤ j ∧ j < 2 ^ 62) ∧ R (Itr i (j - i).toNat) H1
theorem zhh {a : Expr} {ta : TA} {p pos : Pos} (hg : Gl X "range") (hm : X.mg "range" = none) (ha : PA X [a] ta) (hs : starEach [a] X.env = [(false, eval a X.env)] := by rfl) : PI X tg (.Call (.Name "range" p) [a] [] pos) (zt7 ta) := by
 intro pins s σ H R I h
 refine Call_ (zh9 I hg hm boot_range (PyProof.Rows.callWith_type1 (thn (ha pos pins s σ H _ I h) fun us s1 ⟨vs, H1, I1, r1, q1⟩ => ?_) hs rfl))
 obtain ⟨j, e, q1, q2, q⟩ := q1
 subst e
 cases r1 with
 | cons r rr =>
  cases rr
  obtain ⟨t, rfl⟩ := r
  exact call_range_1 (zlx I1 (by omega) (by omega) q1 q2 (by simpa using q))
theorem zow {a b : Expr} {ta : TA} {p pos : Pos} (hg : Gl X "range") (hm : X.mg "range" = none) (ha : PA X [a, b] ta) (hs : starEach [a, b] X.env = [(false, eval a X.env), (false, eval b X.env)] := by rfl) (hs2 : starEach [b] X.env = [(false, eval b X.env)] := by rfl) :
  PI X tg (.Call (.Name "range" p) [a, b] [] pos) (zt4 ta) := by
 intro pins s σ H R I h
 refine Call_ (zh9 I hg hm boot_range (PyProof.Rows.callWith_type1 (thn (ha pos pins s σ H _ I h) fun us s1 ⟨vs, H1, I1, r1, q1⟩ => ?_) (by rw [hs, hs2]) (by rw [hs2]; rfl)))
 obtain ⟨i, j, e, ⟨q1, q2, q3, q4⟩, q⟩ := q1
 subst e
 cases r1 with
 | cons r rr =>
  cases rr with
  | cons r' rr =>
   cases rr
   obtain ⟨t, rfl⟩ := r
   obtain ⟨t', rfl⟩ := r'
   exact call_range_2 (zlx I1 q1 q2 q3 q4 q)
def zu4 (wi : TI) (g : TG) (tb : TS) : TS := fun D σ H => wi σ H fun J H1 => ∃ W : Nat → Nat → St → Hp → Prop, (∃ m, W 0 m σ H1) ∧ ∀ i m σ H, W i m σ H →
 (J.stop i H ∧ D.nx σ H) ∨ (J.go i H ∧ ∃ N : St → Hp → Prop, (∀ σ' H', N σ' H' → ∃ m', m' < m ∧ W (i + 1) m' σ' H') ∧ ∀ x H', J.yld i H x H' → g x σ H' fun σ2 H2 => tb { D with nx := N, ct := N, bk := D.nx } σ2 H2)
def zhe (fp : List Addr) (h : Heap) : List (Addr × Obj) := fp.filterMap fun b => (h.get? b).map fun o => (b, o)
theorem zeh {fp : List Addr} {h : Heap} {b : Addr} {o : Obj} (hb : b ∈ fp) (e : h.get? b = some o) : (b, o) ∈ zhe fp h := List.mem_filterMap.mpr ⟨b, hb, by rw [e]; rfl⟩
theorem zot {fp : List Addr} {h : Heap} {p : Addr × Obj} (hp : p ∈ zhe fp h) : p.1 ∈ fp ∧ h.get? p.1 = some p.2 := by
 obtain ⟨b, hb, e⟩ := List.mem_filterMap.mp hp
 cases q : h.get? b with
 | none => rw [q] at e; cases e
 | some o =>
  rw [q] at e
  have e' : (b, o) = p := Option.some.inj e
  subst e'
  exact ⟨hb, q⟩
theorem Inv.pinned {pins : List (Addr × Obj)} {σ : St} {H : Hp} {s : Shared} {fp : List Addr} (I : Inv X pins σ H s) (hf : ∀ b ∈ fp, zjf X pins H b) (ho : ∀ b ∈ fp, ∃ o, s.heap.get? b = some o ∧ ∀ v, o.data ≠ .cell v) : Inv X (pins ++ zhe fp s.heap) σ H s :=
 I.pins_of fun p hp => (List.mem_append.mp hp).elim (fun z => I.pin p (List.mem_append_right _ z)) fun z => by
  obtain ⟨hb, e⟩ := zot z
  obtain ⟨f0, f1, f2, _⟩ := hf p.1 hb
  obtain ⟨o, e', d⟩ := ho p.1 hb
  rw [e] at e'; cases e'
  exact ⟨e, f0, f1, f2, d⟩
theorem Inv.unpinned {pins pl : List (Addr × Obj)} {σ : St} {H : Hp} {s : Shared} (I : Inv X (pins ++ pl) σ H s) : Inv X pins σ H s := I.pins_of fun p hp => I.pin p (List.mem_append_right _ (List.mem_append_left _ hp))
theorem zg7 {iter : Expr} {body : List Stmt} {wi : TI} {g : TG} {tb : TS} {pos : Pos} (hp : PassesOwn (model X.prog X.w) X.A X.env X.xe) (hc : X.calm = true) (hi : PI X tg iter wi) (hg : PG X tg g) (hb : PSs X body tb)
  (hs : ∀ x, foldedSetIterable iter X.env x = pure x := by intro _; rfl) : PS X (.For tg iter body [] pos) (zu4 wi g tb) := by
 intro pins s σ H D I h
 refine wpAny_For (thn (hi pins s σ H _ I h) fun v s1 h1 => thn h1 fun itv s2 h2 => ?_) hs
 obtain ⟨it, fp, tn, J, H2, e, I2, T, st2, f2, W, ⟨m0, w0⟩, turn⟩ := h2
 subst e
 have stat : ∀ {H' : Hp}, (∀ b ∈ fp, H' b = none) → ∀ b ∈ fp, zjf X pins H' b := fun hn b hb => ⟨hn b hb, (f2 b hb).2⟩
 refine codeAny_forLoop_any (fun n s' => ∃ i σ' H', Inv X pins σ' H' s' ∧ tn i s'.heap ∧ (∀ b ∈ fp, H' b = none) ∧ W i n σ' H') ?_ m0 ⟨0, σ, H2, I2, st2, fun b hb => (f2 b hb).1, w0⟩
 rintro n s3 ⟨i, σ3, H3, I3, st3, fr3, w3⟩
 rcases turn i n σ3 H3 w3 with ⟨stop, qn⟩ | ⟨go, N, hN, step⟩
 ·refine wpAny_passesOwn hp (thn (T.done X rfl rfl rfl hc i pins s3 σ3 H3 X.xe I3 (stat fr3) st3 stop) fun r s4 ⟨hr, I4⟩ => ?_)
  subst hr
  exact wpAny_execs_nil ⟨σ3, H3, I4, qn⟩
 ·refine wpAny_passesOwn hp (thn (T.item X rfl rfl rfl hc i pins s3 σ3 H3 X.xe I3 (stat fr3) st3 go) fun r s4 ⟨u, hr, h4⟩ => ?_)
  subst hr
  refine wpAny_passesOwn hp (thn h4 fun _ s5 ⟨x, H5, I5, r5, y5, st5, fr5⟩ => ?_)
  have I5' := I5.pinned (stat fr5) (T.obj _ _ st5)
  refine wpAny_passesOwn hp (thn (hg _ s5 σ3 H5 x u _ I5' r5 (step x H5 y5)) fun _ s6 ⟨σ6, H6, I6, q6⟩ => ?_)
  refine wpAny_passesOwn hp (thn (hb _ s6 σ6 H6 _ I6 q6) fun f s7 q7 => ?_)
  have again : ∀ {σ7 : St} {H7 : Hp}, Inv X (pins ++ zhe fp s5.heap) σ7 H7 s7 → N σ7 H7 → ∃ m, m < n ∧ ∃ i σ' H', Inv X pins σ' H' s7 ∧ tn i s7.heap ∧ (∀ b ∈ fp, H' b = none) ∧ W i m σ' H' := fun {σ7 H7} I7 n7 => by
   obtain ⟨m', hm, w7⟩ := hN σ7 H7 n7
   refine ⟨m', hm, i + 1, σ7, H7, I7.unpinned, T.keep _ _ _ st5 fun b hb o e => (I7.pin (b, o) (List.mem_append_right _ (List.mem_append_right _ (zeh hb e)))).1, fun b hb => ?_, w7⟩
   obtain ⟨o, e, d⟩ := T.obj _ _ st5 b hb
   exact (I7.pin (b, o) (List.mem_append_right _ (List.mem_append_right _ (zeh hb e)))).2.1
  cases f with
  | next => obtain ⟨σ7, H7, I7, n7⟩ := q7; exact again I7 n7
  | cont => obtain ⟨σ7, H7, I7, n7⟩ := q7; exact again I7 n7
  | brk => obtain ⟨σ7, H7, I7, q7⟩ := q7; exact ⟨σ7, H7, I7.unpinned, q7⟩
  | ret v => obtain ⟨x7, σ7, H7, I7, r7, q7⟩ := q7; exact ⟨x7, σ7, H7, I7.unpinned, r7, q7⟩
end
theorem zgs {K : PySem.W.Frag} {a : Addr} {xs : List V} {g : TG} {tb : TS} {D : zh4} {σ : St} {H : Hp} (Pv : Nat → St → Hp → Prop) (h0 : Pv 0 σ H) (hl : ∀ i σ H, i ≤ xs.length → Pv i σ H → SqL K H a xs)
  (hs : ∀ i x σ H, xs[i]? = some x → Pv i σ H → g x σ H fun σ2 H2 => tb { D with nx := Pv (i + 1), ct := Pv (i + 1), bk := D.nx } σ2 H2) (hd : ∀ σ H, Pv xs.length σ H → D.nx σ H) :
  ∃ W : Nat → Nat → St → Hp → Prop, (∃ m, W 0 m σ H) ∧ ∀ i m σ H, W i m σ H →
   ((Itl K a).stop i H ∧ D.nx σ H) ∨ ((Itl K a).go i H ∧ ∃ N : St → Hp → Prop, (∀ σ' H', N σ' H' → ∃ m', m' < m ∧ W (i + 1) m' σ' H') ∧ ∀ x H', (Itl K a).yld i H x H' → g x σ H' fun σ2 H2 => tb { D with nx := N, ct := N, bk := D.nx } σ2 H2) := by
 refine ⟨fun i m σ H => m = xs.length - i ∧ i ≤ xs.length ∧ Pv i σ H, ⟨xs.length, by simp, Nat.zero_le _, h0⟩, ?_⟩
 rintro i m σ H ⟨rfl, hi, p⟩
 have q := hl i σ H hi p
 by_cases hlt : i < xs.length
 ·refine .inr ⟨⟨xs, xs[i], q, by simp [hlt]⟩, Pv (i + 1), fun σ' H' p' => ⟨xs.length - (i + 1), by omega, rfl, hlt, p'⟩, fun x H' y => ?_⟩
  obtain ⟨e, y⟩ := y
  subst e
  exact hs i x σ _ (y xs q) p
 ·have e : i = xs.length := by omega
  subst e
  exact .inl ⟨⟨xs, q, Nat.le_refl _⟩, hd σ H p⟩
theorem zjy {lo : Int} {n : Nat} {g : TG} {tb : TS} {D : zh4} {σ : St} {H : Hp} (Pv : Nat → St → Hp → Prop) (h0 : Pv 0 σ H)
  (hs : ∀ i σ H, i < n → Pv i σ H → g (.int (lo + i)) σ H fun σ2 H2 => tb { D with nx := Pv (i + 1), ct := Pv (i + 1), bk := D.nx } σ2 H2) (hd : ∀ σ H, Pv n σ H → D.nx σ H) :
  ∃ W : Nat → Nat → St → Hp → Prop, (∃ m, W 0 m σ H) ∧ ∀ i m σ H, W i m σ H →
   ((Itr lo n).stop i H ∧ D.nx σ H) ∨ ((Itr lo n).go i H ∧ ∃ N : St → Hp → Prop, (∀ σ' H', N σ' H' → ∃ m', m' < m ∧ W (i + 1) m' σ' H') ∧ ∀ x H', (Itr lo n).yld i H x H' → g x σ H' fun σ2 H2 => tb { D with nx := N, ct := N, bk := D.nx } σ2 H2) := by
 refine ⟨fun i m σ H => m = n - i ∧ i ≤ n ∧ Pv i σ H, ⟨n, by simp, Nat.zero_le _, h0⟩, ?_⟩
 rintro i m σ H ⟨rfl, hi, p⟩
 by_cases hlt : i < n
 ·refine .inr ⟨hlt, Pv (i + 1), fun σ' H' p' => ⟨n - (i + 1), by omega, rfl, hlt, p'⟩, fun x H' y => ?_⟩
  obtain ⟨e, y⟩ := y
  subst e y
  exact hs i σ _ hlt p
 ·have e : i = n := by omega
  subst e
  exact .inl ⟨Nat.le_refl _, hd σ H p⟩
end L2
namespace L2
open PySem PySem.Spec PyProof.Rows
abbrev R2 := V → V → Hp → VK → Prop
def OpR (X : Cx) (f : Value → Value → Sem Value) (r : R2) : Prop :=
 ∀ (pins : List (Addr × Obj)) (s : Shared) (σ : St) (H : Hp) (x y : V) (v u : Value) (Q : VK), Inv X pins σ H s → RelV x v → RelV y u → r x y H Q →
  wpAny (model X.prog X.w) X.A (f v u) (EP X pins σ Q) X.xe s
def UnR (X : Cx) (f : Value → Sem Value) (r : V → Hp → VK → Prop) : Prop :=
 ∀ (pins : List (Addr × Obj)) (s : Shared) (σ : St) (H : Hp) (x : V) (v : Value) (Q : VK), Inv X pins σ H s → RelV x v → r x H Q →
  wpAny (model X.prog X.w) X.A (f v) (EP X pins σ Q) X.xe s
def zd4 (X : Cx) (f : Value) (r : List V → Hp → VK → Prop) : Prop :=
 ∀ (pins : List (Addr × Obj)) (s : Shared) (σ : St) (H : Hp) (xs : List V) (us : List Value) (Q : VK), Inv X pins σ H s → Vals xs us → r xs H Q →
  wpAny (model X.prog X.w) X.A (call f us) (EP X pins σ Q) X.xe s
def tOp (r : R2) (ta tb : TE) : TE := fun σ H Q => ta σ H fun x H1 => tb σ H1 fun y H2 => r x y H2 Q
def tUn (r : V → Hp → VK → Prop) (ta : TE) : TE := fun σ H Q => ta σ H fun x H1 => r x H1 Q
def rI (C : Int → Int → Prop) (g : Int → Int → V) : R2 := fun x y H Q => ∃ i j, x = .int i ∧ y = .int j ∧ C i j ∧ Q (g i j) H
def rI0 (g : Int → Int → V) : R2 := fun x y H Q => ∃ i j, x = .int i ∧ y = .int j ∧ Q (g i j) H
def rU (g : Int → V) : V → Hp → VK → Prop := fun x H Q => ∃ i, x = .int i ∧ Q (g i) H
section
variable {X : Cx} {a b c : Expr} {ta tb tc : TE} {pos : Pos}
theorem ztl (ha : PE X a ta) (hb : PE X b tb) {pins : List (Addr × Obj)} {s : Shared} {σ : St} {H : Hp} {R : V → V → Hp → Prop} (I : Inv X pins σ H s)
  (h : ta σ H fun x H1 => tb σ H1 fun y H2 => R x y H2) {Q : Value → Shared → Prop} {f : Value → Value → Sem Value}
  (hf : ∀ v u s2 x y H2, Inv X pins σ H2 s2 → RelV x v → RelV y u → R x y H2 → wpAny (model X.prog X.w) X.A (f v u) Q X.xe s2) :
  wpAny (model X.prog X.w) X.A (eval a X.env) (fun v s₁ => wpAny (model X.prog X.w) X.A (eval b X.env) (fun u s₂ => wpAny (model X.prog X.w) X.A (f v u) Q X.xe s₂) X.xe s₁) X.xe s := by
 refine thn (ha pins s σ H _ I h) fun v s1 ⟨x, H1, I1, r1, q1⟩ => ?_
 refine thn (hb pins s1 σ H1 _ I1 q1) fun u s2 ⟨y, H2, I2, r2, q2⟩ => ?_
 exact hf v u s2 x y H2 I2 r1 r2 q2
theorem za2 {op : Operator} {r : R2} (ho : OpR X (binaryOp op) r) (ha : PE X a ta) (hb : PE X b tb) : PE X (.BinOp a op b pos) (tOp r ta tb) := by
 intro pins s σ H Q I h
 exact wpAny_BinOp (ztl ha hb I h fun v u s2 x y H2 I2 rx ry q => ho pins s2 σ H2 x y v u Q I2 rx ry q)
theorem zpi {op : UnaryOp} {r : V → Hp → VK → Prop} (ho : UnR X (unaryOp op) r) (ha : PE X a ta) : PE X (.UnaryOp op a pos) (tUn r ta) := by
 intro pins s σ H Q I h
 exact UnaryOp_ (thn (ha pins s σ H _ I h) fun v s1 ⟨x, H1, I1, r1, q1⟩ => ho pins s1 σ H1 x v Q I1 r1 q1)
theorem opI {f : Value → Value → Sem Value} {C : Int → Int → Prop} {g : Int → Int → Int}
  (rule : ∀ (i j : Int) (t u : Tok) (s : Shared) (Q : Value → Shared → Prop) (E : Value → Shared → Prop), C i j → Q (.int (g i j) s.toks) { s with toks := s.toks + 1 } → wpAny (model X.prog X.w) X.A (f (.int i t) (.int j u)) Q E s) :
  OpR X f (rI C fun i j => .int (g i j)) := by
 intro pins s σ H x y v u Q I rx ry h
 obtain ⟨i, j, rfl, rfl, hc, q⟩ := h
 obtain ⟨t, rfl⟩ := rx
 obtain ⟨t', rfl⟩ := ry
 exact rule i j t t' s _ _ hc ⟨.int (g i j), H, I.tok _, ⟨_, rfl⟩, q⟩
theorem zr8 {f : Value → Value → Sem Value} {g : Int → Int → Int}
  (rule : ∀ (i j : Int) (t u : Tok) (s : Shared) (Q : Value → Shared → Prop) (E : Value → Shared → Prop), Q (.int (g i j) s.toks) { s with toks := s.toks + 1 } → wpAny (model X.prog X.w) X.A (f (.int i t) (.int j u)) Q E s) :
  OpR X f (rI0 fun i j => .int (g i j)) := by
 intro pins s σ H x y v u Q I rx ry h
 obtain ⟨i, j, rfl, rfl, q⟩ := h
 obtain ⟨t, rfl⟩ := rx
 obtain ⟨t', rfl⟩ := ry
 exact rule i j t t' s _ _ ⟨.int (g i j), H, I.tok _, ⟨_, rfl⟩, q⟩
theorem zrg {f : Value → Value → Sem Value} {g : Int → Int → Bool}
  (rule : ∀ (i j : Int) (t u : Tok) (s : Shared) (Q : Value → Shared → Prop) (E : Value → Shared → Prop), Q (.bool (g i j)) s → wpAny (model X.prog X.w) X.A (f (.int i t) (.int j u)) Q E s) :
  OpR X f (rI0 fun i j => .bl (g i j)) := by
 intro pins s σ H x y v u Q I rx ry h
 obtain ⟨i, j, rfl, rfl, q⟩ := h
 obtain ⟨t, rfl⟩ := rx
 obtain ⟨t', rfl⟩ := ry
 exact rule i j t t' s _ _ ⟨.bl (g i j), H, I, rfl, q⟩
def zu8 (i j : Int) : Prop := 0 < j ∧ j < 1073741824
def zts (i j : Int) : Prop := 0 ≤ j ∧ j ≤ 1000000 ∧ i.natAbs < 2 ^ 64
def CMul (i j : Int) : Prop := (-(2 ^ 64) < i ∧ i < 2 ^ 64) ∨ (-(2 ^ 64) < j ∧ j < 2 ^ 64)
theorem CMul.ok {i j : Int} (h : CMul i j) : IntMulOk i j := by
 rcases h with ⟨h1, h2⟩ | ⟨h1, h2⟩
 ·exact .of_left (intBits_le_64 h1 h2)
 ·exact .of_right (intBits_le_64 h1 h2)
theorem two_pow_nn (k : Nat) : (0 : Int) ≤ 2 ^ k := by
 rw [two_pow_cast]
 exact Int.natCast_nonneg _
theorem zci : OpR X (binaryOp .Add) (rI0 fun i j => .int (i + j)) := zr8 fun _ _ _ _ _ _ _ q => add_int q
theorem zex : OpR X (binaryOp .Sub) (rI0 fun i j => .int (i - j)) := zr8 fun _ _ _ _ _ _ _ q => sub_int q
theorem zd5 : OpR X (binaryOp .Mult) (rI CMul fun i j => .int (i * j)) := opI fun _ _ _ _ _ _ _ hc q => mul_int q hc.ok
theorem zn0 : OpR X (binaryOp .FloorDiv) (rI zu8 fun i j => .int (i / j)) := opI fun i j _ _ _ _ _ hc q => by
 have h1 : (0 : Int) < j := hc.1
 have h2 : j < 1073741824 := hc.2
 exact floordiv_int (by omega) (by rw [Int.fdiv_eq_ediv_of_nonneg i (by omega)]; exact q) (.inl (PyProof.noPylong_small (by omega)))
theorem zes : OpR X (binaryOp .Mod) (rI (fun _ j => 0 < j) fun i j => .int (i % j)) := opI fun i j _ _ _ _ _ hc q => by
 have h1 : (0 : Int) < j := hc
 exact mod_int' (by omega) (by rw [Int.fmod_eq_emod_of_nonneg i (by omega)]; exact q)
theorem zsz : OpR X (binaryOp .Pow) (rI zts fun i j => .int (i ^ j.toNat)) := opI fun _ _ _ _ _ _ _ hc q => pow_int_small hc.1 hc.2.1 hc.2.2 q
theorem zsn : OpR X (binaryOp .LShift) (rI zts fun i j => .int (i * 2 ^ j.toNat)) := opI fun _ _ _ _ _ _ _ hc q => lshift_int_small hc.1 hc.2.1 hc.2.2 q
theorem zsy : OpR X (binaryOp .RShift) (rI (fun _ j => 0 ≤ j) fun i j => .int (i / 2 ^ j.toNat)) := opI fun i j _ _ _ _ _ hc q =>
 rshift_int hc (by rw [Int.fdiv_eq_ediv_of_nonneg i (two_pow_nn _)]; exact q)
theorem zs8 : OpR X (binaryOp .BitAnd) (rI0 fun i j => .int (Builtin.bitAnd i j)) := zr8 fun _ _ _ _ _ _ _ q => and_int q
theorem zsh : OpR X (binaryOp .BitOr) (rI0 fun i j => .int (Builtin.bitOr i j)) := zr8 fun _ _ _ _ _ _ _ q => or_int q
theorem unI {f : Value → Sem Value} {g : Int → Int}
  (rule : ∀ (i : Int) (t : Tok) (s : Shared) (Q : Value → Shared → Prop) (E : Value → Shared → Prop), Q (.int (g i) s.toks) { s with toks := s.toks + 1 } → wpAny (model X.prog X.w) X.A (f (.int i t)) Q E s) :
  UnR X f (rU fun i => .int (g i)) := by
 intro pins s σ H x v Q I rx h
 obtain ⟨i, rfl, q⟩ := h
 obtain ⟨t, rfl⟩ := rx
 exact rule i t s _ _ ⟨.int (g i), H, I.tok _, ⟨_, rfl⟩, q⟩
theorem zng : UnR X (unaryOp .USub) (rU fun i => .int (-i)) := unI fun _ _ _ _ _ q => neg_int q
end
def zt0 : V → V → Bool
 | .non, .non => true | .non, .int _ => true | .int _, .non => true | .non, .bl _ => true | .bl _, .non => true | .non, .str _ => true | .str _, .non => true
 | .int _, .int _ => true | .bl _, .bl _ => true | .str _, .str _ => true | .byt _, .byt _ => true
 | .int _, .str _ => true | .str _, .int _ => true | .bl _, .str _ => true | .str _, .bl _ => true
 | _, _ => false
def rEq : R2 := fun x y H Q => zt0 x y = true ∧ Q (.bl (decide (x = y))) H
def rNe : R2 := fun x y H Q => zt0 x y = true ∧ Q (.bl (!decide (x = y))) H
theorem zfk {i j : Int} : decide (V.int i = V.int j) = (i == j) := by
 rw [Bool.eq_iff_iff]
 simp
theorem zqy {i j : Bool} : decide (V.bl i = V.bl j) = (i == j) := by
 rw [Bool.eq_iff_iff]
 simp
theorem zn5 {i j : Str} : decide (V.str i = V.str j) = (i == j) := by
 rw [Bool.eq_iff_iff]
 simp
theorem znp {i j : Array UInt8} : decide (V.byt i = V.byt j) = (i.toList == j.toList) := by
 rw [Bool.eq_iff_iff]
 cases i
 cases j
 simp
section
variable {X : Cx} {a b c : Expr} {ta tb tc : TE} {pos : Pos}
theorem zbi {pins : List (Addr × Obj)} {σ : St} {H : Hp} {s : Shared} {Q : VK} {k k' : Bool} (I : Inv X pins σ H s) (q : Q (.bl k) H) (e : k = k') : EP X pins σ Q (.bool k') s := by
 subst e
 exact ⟨.bl k, H, I, rfl, q⟩
theorem zby : OpR X (compareOp .Eq) rEq := by
 intro pins s σ H x y v u Q I rx ry h
 obtain ⟨hs, q⟩ := h
 cases x with
 | non =>
  cases rx
  cases y with
  | non => cases ry; exact PySem.EqNone.eq_none_none (zbi I q (by simp))
  | bl j => cases ry; exact PySem.EqNone.eq_none_bool (zbi I q (by simp))
  | int j => obtain ⟨t', rfl⟩ := ry; exact PySem.EqNone.eq_none_int (zbi I q (by simp))
  | str j => obtain ⟨t', rfl⟩ := ry; exact PySem.EqNone.eq_none_str (zbi I q (by simp))
  | _ => exact absurd (show false = true from hs) Bool.false_ne_true
 | bl i =>
  cases rx
  cases y with
  | non => cases ry; exact PySem.EqNone.eq_bool_none (zbi I q (by simp))
  | bl j => cases ry; exact eq_bool (zbi I q zqy)
  | str j => obtain ⟨t', rfl⟩ := ry; exact PySem.EqMixed.eq_bool_str (zbi I q (by simp))
  | _ => exact absurd (show false = true from hs) Bool.false_ne_true
 | int i =>
  obtain ⟨t, rfl⟩ := rx
  cases y with
  | non => cases ry; exact PySem.EqNone.eq_int_none (zbi I q (by simp))
  | int j => obtain ⟨t', rfl⟩ := ry; exact eq_int (zbi I q zfk)
  | str j => obtain ⟨t', rfl⟩ := ry; exact PySem.EqMixed.eq_int_str (zbi I q (by simp))
  | _ => exact absurd (show false = true from hs) Bool.false_ne_true
 | str i =>
  obtain ⟨t, rfl⟩ := rx
  cases y with
  | non => cases ry; exact PySem.EqNone.eq_str_none (zbi I q (by simp))
  | bl j => cases ry; exact PySem.EqMixed.eq_str_bool (zbi I q (by simp))
  | int j => obtain ⟨t', rfl⟩ := ry; exact PySem.EqMixed.eq_str_int (zbi I q (by simp))
  | str j => obtain ⟨t', rfl⟩ := ry; exact eq_str (zbi I q zn5)
  | _ => exact absurd (show false = true from hs) Bool.false_ne_true
 | byt i =>
  obtain ⟨t, rfl⟩ := rx
  cases y with
  | byt j => obtain ⟨t', rfl⟩ := ry; exact PySem.W.eq_bytes (zbi I q znp)
  | _ => exact absurd (show false = true from hs) Bool.false_ne_true
 | _ => cases y <;> exact absurd (show false = true from hs) Bool.false_ne_true
theorem zml : OpR X (compareOp .NotEq) rNe := by
 intro pins s σ H x y v u Q I rx ry h
 obtain ⟨hs, q⟩ := h
 cases x with
 | non =>
  cases rx
  cases y with
  | non => cases ry; exact PySem.EqNone.ne_none_none (zbi I q (by simp))
  | bl j => cases ry; exact PySem.EqNone.ne_none_bool (zbi I q (by simp))
  | int j => obtain ⟨t', rfl⟩ := ry; exact PySem.EqNone.ne_none_int (zbi I q (by simp))
  | str j => obtain ⟨t', rfl⟩ := ry; exact PySem.EqNone.ne_none_str (zbi I q (by simp))
  | _ => exact absurd (show false = true from hs) Bool.false_ne_true
 | bl i =>
  cases rx
  cases y with
  | non => cases ry; exact PySem.EqNone.ne_bool_none (zbi I q (by simp))
  | bl j => cases ry; exact ne_bool (zbi I q (congrArg not zqy))
  | str j => obtain ⟨t', rfl⟩ := ry; exact PySem.EqMixed.ne_bool_str (zbi I q (by simp))
  | _ => exact absurd (show false = true from hs) Bool.false_ne_true
 | int i =>
  obtain ⟨t, rfl⟩ := rx
  cases y with
  | non => cases ry; exact PySem.EqNone.ne_int_none (zbi I q (by simp))
  | int j => obtain ⟨t', rfl⟩ := ry; exact ne_int (zbi I q (congrArg not zfk))
  | str j => obtain ⟨t', rfl⟩ := ry; exact PySem.EqMixed.ne_int_str (zbi I q (by simp))
  | _ => exact absurd (show false = true from hs) Bool.false_ne_true
 | str i =>
  obtain ⟨t, rfl⟩ := rx
  cases y with
  | non => cases ry; exact PySem.EqNone.ne_str_none (zbi I q (by simp))
  | bl j => cases ry; exact PySem.EqMixed.ne_str_bool (zbi I q (by simp))
  | int j => obtain ⟨t', rfl⟩ := ry; exact PySem.EqMixed.ne_str_int (zbi I q (by simp))
  | str j => obtain ⟨t', rfl⟩ := ry; exact ne_str (zbi I q (congrArg not zn5))
  | _ => exact absurd (show false = true from hs) Bool.false_ne_true
 | byt i =>
  obtain ⟨t, rfl⟩ := rx
  cases y with
  | byt j => obtain ⟨t', rfl⟩ := ry; exact PySem.W.ne_bytes (zbi I q (congrArg not znp))
  | _ => exact absurd (show false = true from hs) Bool.false_ne_true
 | _ => cases y <;> exact absurd (show false = true from hs) Bool.false_ne_true
theorem zmb : OpR X (compareOp .Lt) (rI0 fun i j => .bl (decide (i < j))) := zrg fun _ _ _ _ _ _ _ q => lt_int q
theorem zgv : OpR X (compareOp .LtE) (rI0 fun i j => .bl (decide (i ≤ j))) := zrg fun _ _ _ _ _ _ _ q => le_int q
theorem zhm : OpR X (compareOp .Gt) (rI0 fun i j => .bl (decide (j < i))) := zrg fun _ _ _ _ _ _ _ q => gt_int q
theorem zue : OpR X (compareOp .GtE) (rI0 fun i j => .bl (decide (j ≤ i))) := zrg fun _ _ _ _ _ _ _ q => ge_int q
theorem zqg : OpR X (compareOp .Is) (fun x y H Q => y = .non ∧ Q (.bl (decide (x = .non))) H) := by
 intro pins s σ H x y v u Q I rx ry h
 obtain ⟨rfl, q⟩ := h
 cases ry
 refine is_none_gen (zbi I q ?_)
 cases x <;> first
  | (cases rx; rfl)
  | (obtain ⟨t, rfl⟩ := rx; rfl)
theorem znq : OpR X (compareOp .IsNot) (fun x y H Q => y = .non ∧ Q (.bl (!decide (x = .non))) H) := by
 intro pins s σ H x y v u Q I rx ry h
 obtain ⟨rfl, q⟩ := h
 cases ry
 refine isnot_none_gen (zbi I q ?_)
 cases x <;> first
  | (cases rx; rfl)
  | (obtain ⟨t, rfl⟩ := rx; rfl)
theorem zas (b : Expr) {op : CmpOp} (h : op ≠ .In := by decide) (h2 : op ≠ .NotIn := by decide) : behindInMarks op b = false := by
 have e1 : (op == CmpOp.In) = false := by cases op <;> first | rfl | exact absurd rfl h
 have e2 : (op == CmpOp.NotIn) = false := by cases op <;> first | rfl | exact absurd rfl h2
 cases b <;> simp [behindInMarks, e1, e2]
theorem zck {op : CmpOp} {r : R2} (ho : OpR X (compareOp op) r) (ha : PE X a ta) (hb : PE X b tb) (hm : behindInMarks op b = false) : PE X (.Compare a [op] [b] pos) (tOp r ta tb) := by
 intro pins s σ H Q I h
 exact wpAny_Compare1 (ztl ha hb I h fun v u s2 x y H2 I2 rx ry q => ho pins s2 σ H2 x y v u Q I2 rx ry q) hm
def ztq (t : TE) : TT := fun σ H Q => t σ H fun x H' => ∃ k, x = .bl k ∧ Q k H'
theorem zat {op : CmpOp} {r : R2} (ho : OpR X (compareOp op) r) (ha : PE X a ta) (hb : PE X b tb) (hm : behindInMarks op b = false) : PT X (.Compare a [op] [b] pos) (ztq (tOp r ta tb)) := by
 intro pins s σ H Q I h
 refine wpAny_isTrue_Compare1 (thn (ha pins s σ H _ I h) fun v s1 ⟨x, H1, I1, r1, q1⟩ => thn (hb pins s1 σ H1 _ I1 q1) fun u s2 ⟨y, H2, I2, r2, q2⟩ =>
  thn (ho pins s2 σ H2 x y v u _ I2 r1 r2 q2) fun c s3 ⟨z, H3, I3, r3, k, e, q3⟩ => ?_) hm
 subst e
 cases r3
 exact wpAny_truthy_bool ⟨H3, I3, q3⟩
def zsl (r r' : R2) (ta tb tc : TE) : TE := fun σ H Q => ta σ H fun x H1 => tb σ H1 fun y H2 => r x y H2 fun z H3 => ∃ k, z = .bl k ∧
 (if k = true then tc σ H3 fun w' H4 => r' y w' H4 Q else Q (.bl false) H3)
theorem zlo {op op' : CmpOp} {r r' : R2} (ho : OpR X (compareOp op) r) (ho' : OpR X (compareOp op') r') (ha : PE X a ta) (hb : PE X b tb) (hc : PE X c tc)
  (hm : lastMarks [op, op'] [b, c] = false := by with_unfolding_all rfl) : PE X (.Compare a [op, op'] [b, c] pos) (zsl r r' ta tb tc) := by
 intro pins s σ H Q I h
 refine Compare_chain (thn (ha pins s σ H _ I h) fun v s1 ⟨x, H1, I1, r1, q1⟩ => chain_link (thn (hb pins s1 σ H1 _ I1 q1) fun u s2 ⟨y, H2, I2, r2, q2⟩ =>
  thn (ho pins s2 σ H2 x y v u _ I2 r1 r2 q2) fun d s3 ⟨z, H3, I3, r3, k, e, q3⟩ => ?_)) hm
 subst e
 cases r3
 refine wpAny_truthy_bool ?_
 cases k with
 | false => exact ite_ff ⟨.bl false, H3, I3, rfl, q3⟩
 | true => exact ite_tt (chain_last (thn (hc pins s3 σ H3 _ I3 q3) fun w' s4 ⟨z', H4, I4, r4, q4⟩ => ho' pins s4 σ H4 y z' u w' Q I4 r2 r4 q4))
theorem zic : (sizeLine : Nat) < 2 ^ 63 := by rw [sizeLine_eq]; decide
theorem zfz {x : V} {us : List Value} (r : Vals [x] us) : ∃ u, us = [u] ∧ RelV x u := by
 cases r with
 | cons r1 r2 => cases r2; exact ⟨_, rfl, r1⟩
theorem zsd {x y : V} {us : List Value} (r : Vals [x, y] us) : ∃ u w', us = [u, w'] ∧ RelV x u ∧ RelV y w' := by
 cases r with
 | cons r1 r2 =>
  cases r2 with
  | cons r3 r4 => cases r4; exact ⟨_, _, rfl, r1, r3⟩
theorem zed (hc : X.calm = true) : zd4 X (.builtin "max") (fun xs H Q => ∃ i j, xs = [.int i, .int j] ∧ Q (.int (if j > i then j else i)) H) := by
 intro pins s σ H xs us Q I r h
 obtain ⟨i, j, rfl, q⟩ := h
 obtain ⟨u, w', rfl, ⟨t, rfl⟩, ⟨t', rfl⟩⟩ := zsd r
 refine max_two_ints (I.ok.hd hc) fun h' tk k => ⟨_, H, I.kept k, ?_, q⟩
 by_cases hj : j > i
 ·rw [if_pos hj, if_pos hj]; exact ⟨_, rfl⟩
 ·rw [if_neg hj, if_neg hj]; exact ⟨_, rfl⟩
theorem zj1 : zd4 X (.type "int") (fun xs H Q => (∃ i, xs = [.int i] ∧ Q (.int i) H) ∨ ∃ k, xs = [.bl k] ∧ Q (.int (if k then 1 else 0)) H) := by
 intro pins s σ H xs us Q I r h
 rcases h with ⟨i, rfl, q⟩ | ⟨k, rfl, q⟩
 ·obtain ⟨u, rfl, t, rfl⟩ := zfz r
  exact call_int_int ⟨.int i, H, I, ⟨_, rfl⟩, q⟩
 ·obtain ⟨u, rfl, r1⟩ := zfz r
  cases r1
  exact call_int_bool ⟨.int (if k then 1 else 0), H, I.tok _, ⟨_, rfl⟩, q⟩
end
end L2
namespace L2
open PySem PySem.Spec PyProof.Rows
section
variable {prog : Program} {w : World} {A : Around} {E : Value → Shared → Prop} {s : Shared} {K : PySem.W.Frag} {x dx C f : Addr} {mA : Str → Option Value} {name : Str} {v : Value}
end
section
variable {P : Program} {w : World} {H H' : Hp} {h h' : Heap} {a C dx : Addr} {fs fs' : List (Str × V)}
end
section
variable {X : Cx} {pins : List (Addr × Obj)} {σ : St} {H : Hp} {s : Shared} {a C dx : Addr} {fs : List (Str × V)} {f : Str} {v : V} {A : Around} {E : Value → Shared → Prop}
end
section
variable {X : Cx} {o e value : Expr} {f : Str} {pos pos' tpos : Pos} {ta tv : TE}
end
section
variable {X : Cx} {pins : List (Addr × Obj)} {σ : St} {H : Hp} {s : Shared} {A : Around} {E : Value → Shared → Prop} {Q : Value → Shared → Prop} {c : Value} {b : Bool}
end
end L2
namespace L2
open PySem PySem.Spec PyProof.Rows
structure Room (k : Nat) (A : Around) : Prop where
 hd : A.handled = none
 dp : A.depth + 3 * k + 5 < recursionLimit
 un : A.units + 16 * k + 200 < cLine
theorem Room.mono {j k : Nat} {A : Around} (r : Room k A) (h : j ≤ k) : Room j A := ⟨r.hd, by have := r.dp; omega, by have := r.un; omega⟩
theorem Room.deeper {k : Nat} {A : Around} (r : Room (k + 1) A) (env : Env) : Room k (A.deeper env) :=
 ⟨r.hd, by have := r.dp; show A.depth + 1 + 3 * k + 5 < _; omega, by have := r.un; show A.units + 3 + 16 * k + 200 < _; omega⟩
theorem Room.depth {k : Nat} {A : Around} (r : Room k A) : A.depth < recursionLimit := by have := r.dp; omega
theorem Room.units {k : Nat} {A : Around} (r : Room k A) : A.units + 64 < cLine := by have := r.un; omega
def zu7 : TA := fun _ H Q => Q [] H
def zub (ta : TE) (tr : TA) : TA := fun σ H Q => ta σ H fun x H1 => tr σ H1 fun xs H2 => Q (x :: xs) H2
section
variable {X : Cx} {e : Expr} {es : List Expr} {te : TE} {t : TA} {pos : Pos}
theorem zac : PA X [] zu7 := fun _ _ _ _ H Q I h => Calls.spliced_nil ⟨[], H, I, .nil, h⟩
theorem zaa (ha : PE X e te) (hr : PA X es t) (hs : starEach (e :: es) X.env = (false, eval e X.env) :: starEach es X.env := by rfl) : PA X (e :: es) (zub te t) := by
 intro pos pins s σ H Q I h
 rw [hs]
 show wpAny _ _ (spliced ((false, eval e X.env) :: backTo pos (starEach es X.env))) _ _ s
 refine Calls.spliced_cons (thn (ha pins s σ H _ I h) fun u s1 ⟨x, H1, I1, r1, q1⟩ => ?_)
 exact thn (hr pos pins s1 σ H1 _ I1 q1) fun us s2 ⟨xs, H2, I2, r2, q2⟩ => ⟨x :: xs, H2, I2, .cons r1 r2, q2⟩
def zus (t : TA) : TE := fun σ H Q => t σ H fun xs H1 => xs.length ≤ sizeLine ∧ ∀ p, H1 p = none → Q (.ref p) (upd H1 p (.tup xs))
def zu3 (t : TA) : TE := fun σ H Q => t σ H fun xs H1 => xs.length ≤ sizeLine ∧ ∀ p, H1 p = none → Q (.ref p) (upd H1 p (.lst xs))
theorem zbb {x1} (h : PA X es t) : PE X (.Tuple es x1 pos) (zus t) := by
 intro pins s σ H Q I hq
 refine wpAny_Tuple_spliced (thn (h pos pins s σ H _ I hq) fun us s1 ⟨xs, H1, I1, r, z, q⟩ => ⟨by rw [← r.length]; exact z, ?_⟩)
 have hf : H1 s1.heap.objs.size = none := I1.hok.fresh (Nat.le_refl _)
 refine ⟨.ref s1.heap.objs.size, upd H1 s1.heap.objs.size (.tup xs), I1.laid (t' := s1.toks) (fun b u e => Heap.get?_push_of_some _ e) (Nat.le_refl _) ?_, rfl, q _ hf⟩
 exact ⟨z, us, r, ⟨_, Heap.get?_push_size _ rfl, rfl, _, rfl⟩⟩
theorem zct (h : PA X es t) : PE X (.List es pos) (zu3 t) := by
 intro pins s σ H Q I hq
 refine wpAny_List_spliced (thn (h pos pins s σ H _ I hq) fun us s1 ⟨xs, H1, I1, r, z, q⟩ => ⟨by rw [← r.length]; exact z, ?_⟩)
 have hf : H1 s1.heap.objs.size = none := I1.hok.fresh (Nat.le_refl _)
 refine ⟨.ref s1.heap.objs.size, upd H1 s1.heap.objs.size (.lst xs), I1.laid (t' := s1.toks) (fun b u e => Heap.get?_push_of_some _ e) (Nat.le_refl _) ?_, rfl, q _ hf⟩
 exact ⟨z, us, 0, r, Heap.get?_push_size _ rfl⟩
end
abbrev Sp := List V → Hp → VK → XK → Prop
abbrev CXT := List Env → Hp → Shared → XK → Value → Shared → Prop
structure zqo (P : Program) (w : World) (K : PySem.W.Frag) (mg : Str → Option Value) (base : Heap) (A : Around) (outer : List Env) (s : Shared) (H : Hp) : Prop where
 frames : A.frames = some outer
 mod : Mod K mg base
 bs : ∀ b o, base.get? b = some o → s.heap.get? b = some o ∧ H b = none
 bsz : base.objs.size ≤ s.heap.objs.size
 funs : s.heap.FunFrames base outer
 frf : ∀ b ∈ frs outer, H b = none
 hok : HOk P w H s.heap
 bare : AllBare s.gens
def CE (outer : List Env) (P : Program) (w : World) (H : Hp) (s : Shared) (Q : VK) (u : Value) (s' : Shared) : Prop :=
 ∃ v H', s'.os = s.os ∧ AllBare s'.gens ∧ Un (frs outer) [] H H' s.heap s'.heap ∧ HOk P w H' s'.heap ∧ RelV v u ∧ Q v H'
def CR (CX : CXT) (outer : List Env) (P : Program) (w : World) (H : Hp) (s : Shared) (Q : VK) (E : XK) (r : Result) (s' : Shared) : Prop :=
 match r with
 | .ok (.ret u) => CE outer P w H s Q u s'
 | .ok _ => False
 | .error e => CX outer H s E e s'
structure FnOk (P : Program) (w : World) (K : PySem.W.Frag) (mg : Str → Option Value) (base : Heap) (CX : CXT) (k : Nat) (f : Addr) (fd : FuncData) (ps : List Str) (sp : Sp) : Prop where
 len : ∀ vs H Q E, sp vs H Q E → vs.length = ps.length
 run : ∀ (A : Around) (outer : List Env) (s : Shared) (H : Hp) (args : Args) (us : List Value) (vs : List V) (Q : VK) (E : XK), Room k A → zqo P w K mg base A outer s H → BindsTo s fd args (ps.zip us) → Vals vs us → sp vs H Q E →
  codeAny (model P w) A (.call (.ref f) args) (CR CX outer P w H s Q E) s
section
variable {X : Cx} {pins : List (Addr × Obj)} {σ : St} {H : Hp} {s s' : Shared}
theorem Inv.env0 (I : Inv X pins σ H s) : zqo X.prog X.w X.K X.mg X.base X.A X.stack s H :=
 ⟨I.ok.frames, I.ok.mod, I.bs, Nat.le_trans I.ok.bsz I.sz, I.stack, I.stkFree, I.hok, I.bare⟩
theorem Inv.after {Q : VK} {u : Value} (I : Inv X pins σ H s) (h : CE X.stack X.prog X.w H s Q u s') : EP X pins σ Q u s' := by
 obtain ⟨v, H', os, bare, un, hok, r, q⟩ := h
 obtain ⟨hh, g, d, t, os'⟩ := s'
 obtain rfl : os' = s.os := os
 exact ⟨v, H', I.call (h' := hh) (g' := g) (d' := d) (t' := t) (ch := []) un hok bare (fun b z => absurd z (by simp)), r, q⟩
end
def zuf (sp : Sp) (dvs : List V) (E : XK) (t : TA) : TE := fun σ H Q => t σ H fun vs H1 => sp (vs ++ dvs) H1 Q E
def Binds (K : PySem.W.Frag) (fd : FuncData) (ps : List Str) (ds : List Value) : Prop :=
 ∀ (s : Shared) (us : List Value), K.In s.heap → (us ++ ds).length = ps.length → BindsTo s fd ⟨us, []⟩ (ps.zip (us ++ ds))
theorem Binds.all {K : PySem.W.Frag} {fd : FuncData} {ps : List Str} (h : ∀ us : List Value, us.length = ps.length → bindArgs fd ⟨us, []⟩ = pure (ps.zip us)) : Binds K fd ps [] := fun s us _ hl => by
 rw [List.append_nil] at hl ⊢
 exact .of_eq (h us hl)
def zga (CX : CXT) (X : Cx) (E : XK) : Prop := ∀ (pins : List (Addr × Obj)) (σ : St) (H : Hp) (s : Shared) (e : Value) (s' : Shared), Inv X pins σ H s → CX X.stack H s E e s' → X.xe e s'
section
variable {X : Cx} {CX : CXT} {k : Nat} {f C : Addr} {fd : FuncData} {ps : List Str} {sp : Sp} {dvs : List V} {ds : List Value} {E : XK} {x m : Str} {p pos apos : Pos} {e o : Expr} {es : List Expr} {ta : TE} {t : TA}
theorem znc {pins : List (Addr × Obj)} {σ : St} {H : Hp} {s : Shared} {Q : VK} {us : List Value} {vs : List V} (F : FnOk X.prog X.w X.K X.mg X.base CX k f fd ps sp) (hr : Room k X.A) (hb : Binds X.K fd ps ds) (hd : Vals dvs ds) (hx : zga CX X E)
  (I : Inv X pins σ H s) (r : Vals vs us) (h : sp (vs ++ dvs) H Q E) : wpAny (model X.prog X.w) X.A (call (.ref f) us) (EP X pins σ Q) X.xe s := by
 have r2 : Vals (vs ++ dvs) (us ++ ds) := r.append hd
 have hl : (us ++ ds).length = ps.length := by rw [← r2.length]; exact F.len _ _ _ _ h
 refine wpAny_call (codeAny_mono (F.run X.A X.stack s H ⟨us, []⟩ (us ++ ds) (vs ++ dvs) Q E hr I.env0 (hb s us I.kIn hl) r2 h) fun r s' hq => ?_)
 cases r with
 | error e => exact hx pins σ H s e s' I hq
 | ok fl =>
  cases fl with
  | ret u => exact I.after hq
  | next => exact False.elim hq
  | brk => exact False.elim hq
  | cont => exact False.elim hq
theorem zag (F : FnOk X.prog X.w X.K X.mg X.base CX k f fd ps sp) (hr : Room k X.A) (hg : Gl X x) (hm : X.mg x = some (.ref f)) (hk : PySem.W.keepIn X.K (.ref f) = true) (hb : Binds X.K fd ps ds) (hd : Vals dvs ds) (hx : zga CX X E)
  (ha : PA X (e :: es) t) (hdb : (x == ("__debug__" : Str)) = false := by decide) (he : starEach (e :: es) X.env = (false, eval e X.env) :: starEach es X.env := by rfl) (hpl : (backTo pos (starEach es X.env)).any (·.1) = false := by rfl) :
  PE X (.Call (.Name x p) (e :: es) [] pos) (zuf sp dvs E t) := by
 intro pins s σ H Q I h
 refine wpAny_Call_Name_kw (zfo I hg hm ?_ hdb)
 refine PySem.W.callWith_K (h₀ := X.base) I.ok.mod.kin hk (thn (ha pos pins s σ H _ I h) fun us s1 ⟨vs, H1, I1, r, q⟩ => ⟨I1.kIn, ?_⟩) he hpl
 exact znc F hr hb hd hx I1 r q
end
section
variable {X : Cx} {CX : CXT} {k : Nat} {f C : Addr} {fd : FuncData} {ps ks : List Str} {sp : Sp} {E : XK} {x m : Str} {p pos apos kpos : Pos} {e o : Expr} {es : List Expr} {kws : List Keyword} {te ta : TE} {t tk : TA} {nm : Option Str}
variable {g : List Value → List Value → List Value} {gV : List V → List V → List V}
end
structure zav (N P : List Str) (sc : Scope) : Prop where
 kind : sc.kind = .function
 co : sc.isCoroutine = false
 gen : sc.isGenerator = false
 nd : N.Nodup
 pre : N.take P.length = P
 par : ∀ x ∈ P, sc.names.lookup x = some .local ∨ sc.names.lookup x = some .cell
 nofree : ∀ y ∈ sc.names, y.2 ≠ .free
theorem zjp {kindOf : Str → Option NameKind} {x : Str} : ∀ {binds : List (Str × Value)} {m : Str → Option Value}, (∀ v, (x, v) ∉ binds) → bindL kindOf binds m x = m x
 | [], _, _ => rfl
 | (n, v) :: r, m, h => by
  unfold bindL
  rw [zjp fun w hw => h w (List.mem_cons_of_mem _ hw)]
  split
  ·have : x ≠ n := by rintro rfl; exact h v List.mem_cons_self
   simp [this]
  ·rfl
theorem zjr {kindOf : Str → Option NameKind} {x : Str} : ∀ {binds : List (Str × Value)} {m : Str → Option Value}, (∀ v, (x, v) ∉ binds) → bindC kindOf binds m x = m x
 | [], _, _ => rfl
 | (n, v) :: r, m, h => by
  unfold bindC
  rw [zjr fun w hw => h w (List.mem_cons_of_mem _ hw)]
  split
  ·rfl
  ·have : x ≠ n := by rintro rfl; exact h v List.mem_cons_self
   simp [this]
theorem zj2 {kindOf : Str → Option NameKind} {x : Str} {v : Value} : ∀ {P : List Str} {vs : List Value} {i : Nat} {m : Str → Option Value}, P.Nodup → P[i]? = some x → vs[i]? = some v → kindOf x = some .local →
  bindL kindOf (P.zip vs) m x = some v
 | [], _, _, _, _, h, _, _ => by simp at h
 | _ :: _, [], _, _, _, _, h, _ => by simp at h
 | p :: P, w :: vs, 0, m, nd, h1, h2, hk => by
  simp at h1 h2; subst h1; subst h2
  show bindL kindOf ((p, w) :: P.zip vs) m p = _
  unfold bindL
  rw [zjp fun v hv => (List.nodup_cons.mp nd).1 (List.of_mem_zip hv).1, if_pos hk]
  simp
 | p :: P, w :: vs, i + 1, m, nd, h1, h2, hk => by
  show bindL kindOf ((p, w) :: P.zip vs) m x = _
  unfold bindL
  exact zj2 (i := i) (List.nodup_cons.mp nd).2 (by simpa using h1) (by simpa using h2) hk
theorem zju {kindOf : Str → Option NameKind} {x : Str} {v : Value} : ∀ {P : List Str} {vs : List Value} {i : Nat} {m : Str → Option Value}, P.Nodup → P[i]? = some x → vs[i]? = some v → kindOf x ≠ some .local →
  bindC kindOf (P.zip vs) m x = some v
 | [], _, _, _, _, h, _, _ => by simp at h
 | _ :: _, [], _, _, _, _, h, _ => by simp at h
 | p :: P, w :: vs, 0, m, nd, h1, h2, hk => by
  simp at h1 h2; subst h1; subst h2
  show bindC kindOf ((p, w) :: P.zip vs) m p = _
  unfold bindC
  rw [zjr fun v hv => (List.nodup_cons.mp nd).1 (List.of_mem_zip hv).1, if_neg hk]
  simp
 | p :: P, w :: vs, i + 1, m, nd, h1, h2, hk => by
  show bindC kindOf ((p, w) :: P.zip vs) m x = _
  unfold bindC
  exact zju (i := i) (List.nodup_cons.mp nd).2 (by simpa using h1) (by simpa using h2) hk
def zf1 (N : List Str) (vs : List V) : St := vs.map some ++ List.replicate (N.length - vs.length) none
def zcj (CX : CXT) (P : Program) (w : World) (K : PySem.W.Frag) (mg : Str → Option Value) (base : Heap) (N : List Str) (qual : Str) (scope : Scope) (f : Addr) (cd : Value) (A : Around) (outer : List Env) (s : Shared) (H : Hp) (E : XK) : Cx where
 prog := P
 w := w
 K := K
 mg := mg
 base := base
 A := A.deeper (envOfC qual scope s.heap.objs.size f cd)
 N := N
 s₀ := s
 H₀ := H
 env := envOfC qual scope s.heap.objs.size f cd
 outer := outer
 stack := envOfC qual scope s.heap.objs.size f cd :: outer
 ex := []
 calm := true
 fn := fun _ => true
 pn := []
 xe := fun e s' => wpAny (model P w) (A.deeper (envOfC qual scope s.heap.objs.size f cd)) (leaving (envOfC qual scope s.heap.objs.size f cd) e) (fun _ s'' => CX outer H s E e s'') (fun e' s'' => CX outer H s E e' s'') s'
theorem zlh {sc : Scope} {n : Nat} {x : Str} (h : sc.names.lookup x = some .cell) : ∃ c, (cellsFrom n sc.names []).lookup x = some c := by
 have q := PySem.W.cellsFrom_some sc.names n [] (.inl h)
 exact Option.isSome_iff_exists.mp q
theorem zod {CX : CXT} {P : Program} {w : World} {K : PySem.W.Frag} {mg : Str → Option Value} {base : Heap} {N ps : List Str} {qual : Str} {scope : Scope} {f : Addr} {cd : Value} {A : Around} {outer : List Env} {s s1 : Shared} {H : Hp} {E : XK} {us : List Value} {vs : List V}
  (S : zav N ps scope) (hd : A.handled = none) (e0 : zqo P w K mg base A outer s H) (hl : vs.length = ps.length) (r : Vals vs us)
  (x : InCallC s s.heap.objs.size (bindL (envOfC qual scope s.heap.objs.size f cd).kindOf (ps.zip us) fun _ => none) (cellsFrom (s.heap.objs.size + 1) scope.names []) (bindC (envOfC qual scope s.heap.objs.size f cd).kindOf (ps.zip us) fun _ => none) s1) :
  Inv (zcj CX P w K mg base N qual scope f cd A outer s H E) [] (zf1 N vs) H s1 := by
 have hpl : ps.length ≤ N.length := by have := congrArg List.length S.pre; rw [List.length_take] at this; omega
 obtain ⟨h1, tk, rfl, hk⟩ := x.done
 have noA : ∀ b : Addr, b ∉ (zcj CX P w K mg base N qual scope f cd A outer s H E).ex := fun b z => absurd (show b ∈ ([] : List Addr) from z) (by simp)
 refine ⟨⟨e0.mod, S.kind, rfl, rfl, Nat.le_refl _, fun y z c h1 h2 => ?_, fun y hy => ?_, fun y c _ h => ?_, fun _ => hd, Around.frames_deeper e0.frames, .inr ⟨rfl, rfl⟩, fun b z => absurd z (noA b), e0.bs, e0.bsz, fun b _ _ => noA b, fun b z => absurd z (noA b), e0.funs, e0.frf⟩,
  rfl, e0.bare, Un.kept hk, ⟨_, x.toInCall.ns, fun i y v h1 h2 h3 => ?_⟩, fun y c h => ⟨_, x.cell y c h⟩, e0.hok.fresh (Nat.le_refl _), fun y c h => ?_, fun p hp => absurd (show p ∈ ([] : List (Addr × Obj)) from hp) (by simp), e0.hok.kept hk, ?_⟩
 ·exact name_of_addr x.apart (PySem.mem_of_lookup h1) (PySem.mem_of_lookup h2)
 ·have hy : scope.names.lookup y = some .cell ∨ scope.names.lookup y = some .free := hy
  rcases hy with hy | hy
  ·exact zlh hy
  ·exact absurd rfl (S.nofree _ (PySem.mem_of_lookup hy))
 ·exact Nat.le_of_lt (x.above y c (PySem.mem_of_lookup h))
 ·have hi : i < vs.length := by
   unfold zf1 at h2
   by_cases hi : i < vs.length
   ·exact hi
   ·rw [List.getElem?_append_right (by simpa using hi)] at h2
    rw [List.getElem?_replicate] at h2
    split at h2 <;> cases h2
  have ha : vs[i]? = some v := by
   unfold zf1 at h2
   rw [List.getElem?_append_left (by simpa using hi), List.getElem?_map] at h2
   cases e : vs[i]? with
   | none => rw [e] at h2; cases h2
   | some a => rw [e] at h2; cases h2; rfl
  obtain ⟨u, hu, rv⟩ := r.get ha
  have hp : ps[i]? = some y := by
   rw [← S.pre, List.getElem?_take_of_lt (by omega)]; exact h1
  have ndP : ps.Nodup := by rw [← S.pre]; exact S.nd.sublist (List.take_sublist _ _)
  refine ⟨u, rv, ?_⟩
  rcases S.par y (List.mem_of_getElem? hp) with k | k
  ·exact .inl ⟨k, zj2 ndP hp hu k⟩
  ·obtain ⟨c, e⟩ := zlh (n := s.heap.objs.size + 1) k
   refine .inr ⟨.inl k, c, e, ?_⟩
   have q := x.cell y c e
   rw [zju ndP hp hu (by show scope.names.lookup y ≠ _; rw [k]; decide)] at q
   exact q
 ·exact e0.hok.fresh (Nat.le_of_lt (x.above y c (PySem.mem_of_lookup h)))
 ·unfold zf1
  show _ = N.length
  rw [List.length_append, List.length_map, List.length_replicate]
  omega
theorem zqb {CX : CXT} {P : Program} {w : World} {K : PySem.W.Frag} {mg : Str → Option Value} {base : Heap} {k : Nat} {f : Addr} {name qual : Str} {params : Arguments} {body : List Stmt} {scope : Scope} {dV kV doc pm cdv ct oc : Value} {an od : Option Addr}
  {osl : Array (Option Value)} {N ps : List Str} {sp : Sp} (lk : K.lookup f = some ⟨oc, od, .func (PySem.W.fnOf name qual params body scope dV kV doc pm an cdv ct), osl⟩) (hcd : PySem.W.codeIn K cdv qual = true) (S : zav N ps scope)
  (len : ∀ vs H Q E, sp vs H Q E → vs.length = ps.length)
  (hbody : ∀ (A : Around) (outer : List Env) (s : Shared) (H : Hp) (vs : List V) (Q : VK) (E : XK), Room k (A.deeper (envOfC qual scope s.heap.objs.size f cdv)) → sp vs H Q E →
   ∃ t, PSs (zcj CX P w K mg base N qual scope f cdv A outer s H E) body t ∧ t { nx := fun _ H' => Q .non H', rt := Q } (zf1 N vs) H) :
  FnOk P w K mg base CX (k + 1) f (PySem.W.fnOf name qual params body scope dV kV doc pm an cdv ct) ps sp := by
 refine ⟨len, fun A outer s H args us vs Q E hr e0 hb r hsp => ?_⟩
 have hl := len _ _ _ _ hsp
 have KX : K.In s.heap := e0.mod.kin.keeps fun b o e => (e0.bs b o e).1
 have lim : s.heap.NoLimit := e0.mod.nolimit.keeps fun b o e => (e0.bs b o e).1
 have hkind : ∀ y ∈ ps.zip us, scope.names.lookup y.1 = some .local ∨ (scope.names.lookup y.1 = some .cell ∧ ((cellsFrom (s.heap.objs.size + 1) scope.names []).lookup y.1).isSome = true) := fun ⟨n, v⟩ hy => by
  rcases S.par n (List.of_mem_zip hy).1 with q | q
  ·exact .inl q
  ·exact .inr ⟨q, PySem.W.cellsFrom_some _ _ _ (.inl q)⟩
 refine codeAny_call_function hr.depth (KX _ _ lk) rfl S.co S.gen rfl (PySem.W.codeRec_of KX hcd) (hb _ _ _ _ ?_)
 refine wpAny_newFunctionEnv_cells S.kind hkind fun env he s1 x => ?_
 subst he
 refine ⟨lim.keeps x.toInCall.keep, codeAny_func ?_⟩
 obtain ⟨t, ht, hq⟩ := hbody A outer s H vs Q E (hr.deeper _) hsp
 have I : Inv (zcj CX P w K mg base N qual scope f cdv A outer s H E) [] (zf1 N vs) H s1 := zod S hr.hd e0 hl r x
 refine wpAny_mono (ht [] s1 (zf1 N vs) H _ I hq) (fun fl s' hs => ?_) fun e s' hs => hs
 have fin : ∀ {σ' : St} {H' : Hp} {v : V} {u : Value}, Inv (zcj CX P w K mg base N qual scope f cdv A outer s H E) [] σ' H' s' → RelV v u → Q v H' → CE outer P w H s Q u s' :=
  fun {σ' H' v u} J rv q => ⟨v, H', J.os, J.bare, J.base, J.hok, rv, q⟩
 cases fl with
 | ret u =>
  obtain ⟨v, σ', H', J, rv, q⟩ := hs
  exact fin J rv q
 | next =>
  obtain ⟨σ', H', J, q⟩ := hs
  exact fin (v := V.non) (u := Value.none) J rfl q
 | brk =>
  obtain ⟨_, _, _, q⟩ := hs
  exact False.elim q
 | cont =>
  obtain ⟨_, _, _, q⟩ := hs
  exact False.elim q
end L2
namespace L2
open PySem PySem.Spec PyProof.Rows
section
variable {X : Cx} {x : Str} {p pos : Pos} {e : Expr} {es : List Expr} {t : TA} {id T : String} {r : List V → Hp → VK → Prop}
def tCB (r : List V → Hp → VK → Prop) (t : TA) : TE := fun σ H Q => t σ H fun vs H1 => r vs H1 Q
theorem zaz (hc : zd4 X (.builtin id) r) (hg : Gl X x) (hm : X.mg x = none) (hv : bootBuiltins x = some (.builtin id)) (ha : PA X (e :: es) t) (hn : x ≠ "__name__" := by decide) (hdb : (x == ("__debug__" : Str)) = false := by decide)
  (he : starEach (e :: es) X.env = (false, eval e X.env) :: starEach es X.env := by rfl) (hpl : (backTo pos (starEach es X.env)).any (·.1) = false := by rfl) : PE X (.Call (.Name x p) (e :: es) [] pos) (tCB r t) := by
 intro pins s σ H Q I h
 refine wpAny_Call_Name_kw (zh9 I hg hm hv ?_ hn hdb)
 exact PyProof.Rows.callWith_builtin1 (thn (ha pos pins s σ H _ I h) fun us s1 ⟨vs, H1, I1, r1, q1⟩ => hc pins s1 σ H1 vs us Q I1 r1 q1) he hpl
theorem zcw (hc : zd4 X (.type T) r) (hg : Gl X x) (hm : X.mg x = none) (hv : bootBuiltins x = some (.type T)) (ha : PA X (e :: es) t) (hn : x ≠ "__name__" := by decide) (hdb : (x == ("__debug__" : Str)) = false := by decide)
  (he : starEach (e :: es) X.env = (false, eval e X.env) :: starEach es X.env := by rfl) (hpl : (backTo pos (starEach es X.env)).any (·.1) = false := by rfl) : PE X (.Call (.Name x p) (e :: es) [] pos) (tCB r t) := by
 intro pins s σ H Q I h
 refine wpAny_Call_Name_kw (zh9 I hg hm hv ?_ hn hdb)
 exact PyProof.Rows.callWith_type1 (thn (ha pos pins s σ H _ I h) fun us s1 ⟨vs, H1, I1, r1, q1⟩ => hc pins s1 σ H1 vs us Q I1 r1 q1) he hpl
end
end L2
namespace HT
open PySem PyProof.Rows
section
open PySem.SeqAt
open PySem.AutoSeq1 (wpAny_loadPart')
open PySem.MeetsSeq PySem.MeetsSeq2 PySem.MeetsSeq3
end
section
variable {prog : Program} {w : World} {A : Around} {E : Value → Shared → Prop} {s : Shared}
theorem cat_tup {t b : Addr} {vs ws : List Value} {Q : Value → Shared → Prop} (ht : IsTup s.heap t vs.toArray) (hb : IsTup s.heap b ws.toArray) (hv : vs ≠ [])
  (h1 : ws = [] → Q (.ref t) s) (h2 : ws ≠ [] → Q (.ref s.heap.objs.size) { s with heap := s.heap.push { cls := .type "tuple", data := .seq (vs ++ ws).toArray } })
  (hsz : vs.length + ws.length ≤ sizeLine) : wpAny (model prog w) A (binaryOp .Add (.ref t) (.ref b)) Q E s := by
 obtain ⟨⟨cls, dd, data, sl⟩, ho, hc, n, hd⟩ := id ht
 obtain ⟨⟨cls2, dd2, data2, sl2⟩, ho2, hc2, n2, hd2⟩ := id hb
 simp only at hc hd hc2 hd2
 subst hc hd hc2 hd2
 have e : vs.toArray ++ ws.toArray = (vs ++ ws).toArray := by simp
 by_cases hw : ws = []
 ·exact concat_meets ⟨_, ho, rfl⟩ ⟨_, ho2, rfl⟩ noFill_tuple_add seq_tuple_add PySem.F.slot_tuple_add PySem.F.entry_tuple_add (PySem.F.args_tuple_add_2 _ _)
   (tuple_addW1 t b vs.toArray ws.toArray n n2 dd dd2 sl sl2 (by simpa using hv) (by simp [hw])) ⟨ho, ho2, h1 hw⟩
 ·refine concat_meets ⟨_, ho, rfl⟩ ⟨_, ho2, rfl⟩ noFill_tuple_add seq_tuple_add PySem.F.slot_tuple_add PySem.F.entry_tuple_add (PySem.F.args_tuple_add_2 _ _)
   (tuple_addW2 t b vs.toArray ws.toArray n n2 dd dd2 sl sl2 (by simpa using hv) (by simpa using hw) (by rw [List.size_toArray, List.size_toArray]; exact hsz)) ⟨ho, ho2, ?_⟩
  rw [e]
  exact h2 hw
def sIx (n d : Nat) : Option Int → Nat
 | none => d
 | some v => if v < 0 then (v + (n : Int)).toNat else min v.toNat n
theorem sIx_none (n d : Nat) : sIx n d none = d := rfl
theorem sIx_nat (n d k : Nat) : sIx n d (some (k : Int)) = min k n := by
 show (if (k : Int) < 0 then ((k : Int) + (n : Int)).toNat else min (k : Int).toNat n) = min k n
 rw [if_neg (by omega), Int.toNat_natCast]
theorem zsk (n d : Nat) (hd : d ≤ n) (o : Option Int) : sIx n d o ≤ n := by
 cases o with
 | none => exact hd
 | some v =>
  show (if v < 0 then (v + (n : Int)).toNat else min v.toNat n) ≤ n
  by_cases hv : v < 0
  ·rw [if_pos hv]; omega
  ·rw [if_neg hv]; exact Nat.min_le_right _ _
theorem zn7 (v : Int) (n d : Nat) : (if v < 0 then max (v + (n : Int)) 0 else min v (n : Int)) = ((sIx n d (some v) : Nat) : Int) := by
 show (if v < 0 then max (v + (n : Int)) 0 else min v (n : Int)) = (((if v < 0 then (v + (n : Int)).toNat else min v.toNat n) : Nat) : Int)
 by_cases hv : v < 0
 ·simp only [if_pos hv]; omega
 ·simp only [if_neg hv]; omega
theorem znd (lo hi : Option Int) (n : Nat) : Builtin.Slice.sliceAdjust lo hi 1 (n : Int) = (((sIx n 0 lo : Nat) : Int), ((sIx n n hi : Nat) : Int)) := by
 have h1 : ¬ ((1 : Int) < 0) := by omega
 unfold Builtin.Slice.sliceAdjust
 simp only [h1, if_false]
 refine Prod.ext ?_ ?_
 ·cases lo with
  | none => rfl
  | some v => exact zn7 v n 0
 ·cases hi with
  | none => rfl
  | some v => exact zn7 v n n
theorem znb (i j : Nat) : Builtin.Slice.slicePlaces (i : Int) (j : Int) 1 = j - i := by
 unfold Builtin.Slice.slicePlaces
 have h1 : (1 : Int) > 0 := by omega
 simp only [h1, if_true, Int.ediv_one]
 split <;> omega
theorem zdx {v : Value} {o : Option Int} {Q : Option Int → Shared → Prop} (p : IsPart v o) (h : Q o s) : wpAny (model prog w) A (Builtin.Slice.slicePartIndex v) Q E s := by
 cases p with
 | none => exact slicePart_none h
 | int i t => exact slicePart_int h
theorem zd7 {sl : Addr} {vl vu : Value} {lo hi : Option Int} {n : Nat} {Q : Int × Int × Nat → Shared → Prop} (hs : s.heap.IsSliceOf sl vl vu .none) (pl : IsPart vl lo) (pu : IsPart vu hi)
  (h : Q (((sIx n 0 lo : Nat) : Int), 1, sIx n n hi - sIx n 0 lo) s) : wpAny (model prog w) A (Builtin.Slice.sliceApplied (.ref sl) (pure (n : Int))) Q E s := by
 obtain ⟨os, hos, hcs, hds⟩ := id hs
 unfold Builtin.Slice.sliceApplied Builtin.Slice.sliceFields
 refine wpAny_bind (wpAny_bind (wpAny_field hos hds (x := vl) rfl (wpAny_bind (wpAny_field hos hds (x := vu) rfl (wpAny_bind (wpAny_field hos hds (x := .none) rfl (wpAny_pure ?_)))))))
 refine wpAny_bind (slicePart_none ?_)
 show wpAny _ _ (if ((1 : Int) == 0) = true then _ else _) _ _ s
 rw [if_neg (by decide)]
 refine wpAny_bind (zdx pl (wpAny_bind (zdx pu (wpAny_bind (wpAny_pure ?_)))))
 show wpAny _ _ (match Builtin.Slice.sliceAdjust lo hi 1 (n : Int) with | (lo, hi) => pure (lo, (1 : Int), Builtin.Slice.slicePlaces lo hi 1)) _ _ s
 rw [znd lo hi n]
 show wpAny _ _ (pure (((sIx n 0 lo : Nat) : Int), (1 : Int), Builtin.Slice.slicePlaces ((sIx n 0 lo : Nat) : Int) ((sIx n n hi : Nat) : Int) 1)) _ _ s
 rw [znb]
 exact wpAny_pure h
theorem zpw (xs : Array Value) (i k : Nat) : ((List.range k).filterMap fun (m : Nat) => xs[((i : Int) + (m : Int) * 1).toNat]?).toArray = ((xs.toList.drop i).take k).toArray := by
 have e : (fun (m : Nat) => xs[((i : Int) + (m : Int) * 1).toNat]?) = fun m => xs[i + m]? := by
  funext m
  have : ((i : Int) + (m : Int) * 1).toNat = i + m := by omega
  rw [this]
 rw [e]
 have := pick_run xs i k
 rw [List.filterMap_map] at this
 have e2 : ((fun x => xs[x]?) ∘ fun x => i + x) = fun m => xs[i + m]? := rfl
 rw [e2] at this
 rw [this]
theorem getItem_tuple_cut {t sl : Addr} {items : Array Value} {vl vu : Value} {lo hi : Option Int} {Q : Value → Shared → Prop} (ht : IsTup s.heap t items) (hs : s.heap.IsSliceOf sl vl vu .none) (pl : IsPart vl lo) (pu : IsPart vu hi)
  (hw : ¬ (sIx items.size 0 lo = 0 ∧ sIx items.size items.size hi = items.size))
  (h : Q (.ref s.heap.objs.size) { s with heap := s.heap.push { cls := .type "tuple", data := .seq ((items.toList.drop (sIx items.size 0 lo)).take (sIx items.size items.size hi - sIx items.size 0 lo)).toArray } })
  (hsz : items.size ≤ sizeLine) : wpAny (model prog w) A (getItem (.ref t) (.ref sl)) Q E s := by
 have htake : sizeOk (.seq ((items.toList.drop (sIx items.size 0 lo)).take (sIx items.size items.size hi - sIx items.size 0 lo)).toArray) := by
  show ((items.toList.drop (sIx items.size 0 lo)).take (sIx items.size items.size hi - sIx items.size 0 lo)).toArray.size ≤ sizeLine
  rw [List.size_toArray, List.length_take, List.length_drop, Array.length_toList]
  omega
 have hj : sIx items.size items.size hi ≤ items.size := zsk _ _ (Nat.le_refl _) hi
 obtain ⟨os, hos, hcs, hds⟩ := id hs
 have hTs : s.TypeIs (.ref sl) "slice" := ⟨os, hos, hcs⟩
 unfold getItem
 try with_reducible refine wpAny_holding ?_
 first | refine wpAny_bind (wpAny_pure ?_) | skip
 refine wpAny_bind (wpAny_sequenceKey ht.typeIs (by decide) ?_)
 refine wpAny_bind (wpAny_callSpecial?_slot (name := Str.ofString "__getitem__") ht.typeIs PyProof.Rows.slot_tuple_getitem
  (wpAny_call_entry PyProof.Rows.slot_tuple_getitem ht.typeIs entry_tuple_getitem ?_ (args_tuple_getitem _ _)))
 show wpAny _ _ (Builtin.Tuple.tupleItemsOf (.ref t) >>= _) _ _ s
 refine wpAny_bind (tupleItemsOf_ ht ?_)
 refine wpAny_bind (wpAny_typeOf hTs ?_)
 rw [if_pos (by decide)]
 refine wpAny_bind (zd7 hs pl pu ?_)
 have hno : ¬ ((((sIx items.size 0 lo : Nat) : Int) == 0 && (1 : Int) == 1 && (sIx items.size items.size hi - sIx items.size 0 lo) == items.size) = true) := by
  intro q
  rw [Bool.and_eq_true, Bool.and_eq_true] at q
  have q1 : ((sIx items.size 0 lo : Nat) : Int) = 0 := eq_of_beq q.1.1
  have q2 : sIx items.size items.size hi - sIx items.size 0 lo = items.size := eq_of_beq q.2
  exact hw ⟨by omega, by omega⟩
 show wpAny _ _ (if (((sIx items.size 0 lo : Nat) : Int) == 0 && (1 : Int) == 1 && (sIx items.size items.size hi - sIx items.size 0 lo) == items.size) = true then _ else _) _ _ s
 rw [if_neg hno, zpw]
 first
  | exact wpAny_bind (m := Builtin.Tuple.tupleExact _) (wpAny_newObj_type (wpAny_pure ⟨_, rfl, wpAny_pure h⟩) htake)
  | exact wpAny_bind (m := Builtin.Tuple.tupleExact _) (wpAny_newObj_type (wpAny_bind (wpAny_pure (wpAny_pure ⟨_, rfl, wpAny_pure h⟩))) htake)
  | exact wpAny_bind (wpAny_bind (m := Builtin.Tuple.tupleExact _) (wpAny_newObj_type (wpAny_pure (wpAny_pure ⟨_, rfl, wpAny_pure h⟩)) htake))
  | exact wpAny_bind (wpAny_bind (m := Builtin.Tuple.tupleExact _) (wpAny_newObj_type (wpAny_pure ⟨_, rfl, wpAny_pure h⟩) htake))
end
end HT
namespace L2
open PySem PySem.Spec PyProof.Rows
abbrev TO := St → Hp → (Option Int → Hp → Prop) → Prop
def PO (X : Cx) (e : Option Expr) (t : TO) : Prop :=
 ∀ (pins : List (Addr × Obj)) (s : Shared) (σ : St) (H : Hp) (Q : Option Int → Hp → Prop), Inv X pins σ H s → t σ H Q →
  wpAny (model X.prog X.w) X.A (evalPart e X.env) (fun u s' => ∃ o H', Inv X pins σ H' s' ∧ IsPart u o ∧ Q o H') X.xe s
def zrc : TO := fun _ H Q => Q none H
def zto (t : TE) : TO := fun σ H Q => t σ H fun x H1 => ∃ i, x = .int i ∧ Q (some i) H1
theorem zdv {ns : List Int} : ∀ {us : List Value}, Vals (ns.map V.int) us → IntsAre us ns := by
 induction ns with
 | nil => intro us r; rw [List.map_nil] at r; cases r; exact .nil
 | cons n ns ih =>
  intro us r
  rw [List.map_cons] at r
  cases r with
  | cons r1 r2 =>
   obtain ⟨t, e⟩ := r1
   subst e
   exact .cons n t (ih r2)
section
variable {X : Cx} {e : Expr} {te : TE} {lo hi : Option Expr} {tl th : TO} {pos p2 : Pos}
theorem zgt : PO X none zrc := by
 intro pins s σ H Q I h
 rw [evalPart_none]
 exact wpAny_pure ⟨none, H, I, .none, h⟩
theorem zgp (h : PE X e te) : PO X (some e) (zto te) := by
 intro pins s σ H Q I hw
 rw [evalPart_some]
 refine thn (h pins s σ H _ I hw) fun u s1 ⟨x, H1, I1, r1, q1⟩ => ?_
 obtain ⟨i, rfl, q⟩ := q1
 obtain ⟨t, rfl⟩ := r1
 exact ⟨some i, H1, I1, .int i t, q⟩
def SlR (X : Cx) (r : V → Option Int → Option Int → Hp → VK → Prop) : Prop :=
 ∀ (pins : List (Addr × Obj)) (s : Shared) (σ : St) (H : Hp) (x : V) (v vl vu : Value) (lo hi : Option Int) (sl : Addr) (Q : VK), Inv X pins σ H s → RelV x v → s.heap.IsSliceOf sl vl vu .none → IsPart vl lo → IsPart vu hi → r x lo hi H Q →
  ∃ T id, typeLookup (.type T) "__getitem__" = pure (some (.builtin id)) ∧ s.TypeIs v T ∧ wpAny (model X.prog X.w) X.A (getItem v (.ref sl)) (EP X pins σ Q) X.xe s
def tSl (r : V → Option Int → Option Int → Hp → VK → Prop) (te : TE) (tl th : TO) : TE := fun σ H Q => te σ H fun x H1 => tl σ H1 fun l H2 => th σ H2 fun u H3 => r x l u H3 Q
theorem zez {r : V → Option Int → Option Int → Hp → VK → Prop} (hr : SlR X r) (he : PE X e te) (hl : PO X lo tl) (hu : PO X hi th) : PE X (.Subscript e (.Slice lo hi none p2) pos) (tSl r te tl th) := by
 intro pins s σ H Q I h
 refine Subscript_ (thn (he pins s σ H _ I h) fun v s1 ⟨x, H1, I1, r1, q1⟩ => ?_)
 refine wpAny_Slice (thn (hl pins s1 σ H1 _ I1 q1) fun vl s2 ⟨l, H2, I2, pl, q2⟩ => thn (hu pins s2 σ H2 _ I2 q2) fun vu s3 ⟨u, H3, I3, pu, q3⟩ => ?_)
 rw [evalPart_none]
 refine wpAny_pure ?_
 have I4 : Inv X pins σ H3 { s3 with heap := s3.heap.push { cls := .type "slice", data := .fields #[vl, vu, .none] } } := I3.kept (t' := s3.toks) fun b ob q => Heap.get?_push_of_some _ q
 obtain ⟨T, id, hT, ht, hg⟩ := hr pins { s3 with heap := s3.heap.push { cls := .type "slice", data := .fields #[vl, vu, .none] } } σ H3 x v vl vu l u s3.heap.objs.size Q I4 r1 (Heap.IsSliceOf.new ..) pl pu q3
 show wpAny (model X.prog X.w) X.A (subscriptTail e (.Slice lo hi none p2) v (.ref s3.heap.objs.size)) (EP X pins σ Q) X.xe { s3 with heap := s3.heap.push { cls := .type "slice", data := .fields #[vl, vu, .none] } }
 exact tail_any (ops := [.ref s3.heap.objs.size, v]) ht hT hg (by with_unfolding_all rfl)
def zf5 (xs : List V) (lo hi : Option Int) : List V := (xs.drop (HT.sIx xs.length 0 lo)).take (HT.sIx xs.length xs.length hi - HT.sIx xs.length 0 lo)
theorem zdf (xs : List V) (lo hi : Option Int) : (zf5 xs lo hi).length ≤ xs.length := by
 unfold zf5
 rw [List.length_take, List.length_drop]
 omega
def zuz (K : PySem.W.Frag) : V → Option Int → Option Int → Hp → VK → Prop := fun x lo hi H Q => ∃ a xs, x = .ref a ∧ SqT K H a xs ∧
 ¬ (HT.sIx xs.length 0 lo = 0 ∧ HT.sIx xs.length xs.length hi = xs.length) ∧ ∀ p, H p = none → Q (.ref p) (upd H p (.tup (zf5 xs lo hi)))
theorem zsu : SlR X (zuz X.K) := by
 intro pins s σ H x v vl vu lo hi sl Q I rx hs pl pu h
 obtain ⟨a, xs, rfl, hx, hw, q⟩ := h
 cases rx
 obtain ⟨its, r, ht, hz⟩ := I.tuple hx
 have hlen : its.toArray.size = xs.length := by rw [List.size_toArray]; exact r.length.symm
 refine ⟨"tuple", _, PyProof.Rows.slot_tuple_getitem.lookup, ht.typeIs, ?_⟩
 refine HT.getItem_tuple_cut ht hs pl pu (by rw [hlen]; exact hw) ?_ (by rw [hlen]; exact hz)
 rw [hlen]
 refine ⟨.ref s.heap.objs.size, _, I.laid (t' := s.toks) (o := .tup (zf5 xs lo hi)) (fun b ob q => Heap.get?_push_of_some _ q) (Nat.le_refl _) ?_, rfl, q _ (I.hok.fresh (Nat.le_refl _))⟩
 exact ⟨Nat.le_trans (zdf xs lo hi) hz, _, (r.drop (HT.sIx xs.length 0 lo)).take (HT.sIx xs.length xs.length hi - HT.sIx xs.length 0 lo), IsTup.new _ _⟩
def ztt (K : PySem.W.Frag) : R2 := fun x y H Q => ∃ a b xs ys, x = .ref a ∧ y = .ref b ∧ SqT K H a xs ∧ SqT K H b ys ∧ xs ≠ [] ∧ xs.length + ys.length ≤ sizeLine ∧
 (ys = [] → Q (.ref a) H) ∧ (ys ≠ [] → ∀ p, H p = none → Q (.ref p) (upd H p (.tup (xs ++ ys))))
theorem Vals.nil_iff {xs : List V} {us : List Value} (r : Vals xs us) : us = [] ↔ xs = [] := by
 cases r with
 | nil => simp
 | cons _ _ => simp
theorem zq5 : OpR X (binaryOp .Add) (ztt X.K) := by
 intro pins s σ H x y v u Q I rx ry h
 obtain ⟨a, b, xs, ys, rfl, rfl, ha, hb, hx, hz, q1, q2⟩ := h
 cases rx
 cases ry
 obtain ⟨its, r1, p1, _⟩ := I.tuple ha
 obtain ⟨its2, r2, p2, _⟩ := I.tuple hb
 refine HT.cat_tup p1 p2 (fun z => hx (r1.nil_iff.mp z)) (fun z => ⟨.ref a, H, I, rfl, q1 (r2.nil_iff.mp z)⟩) (fun z => ?_) (by rw [← r1.length, ← r2.length]; exact hz)
 refine ⟨.ref s.heap.objs.size, _, I.laid (t' := s.toks) (o := .tup (xs ++ ys)) (fun b ob q => Heap.get?_push_of_some _ q) (Nat.le_refl _) ?_, rfl, q2 (fun w => z (r2.nil_iff.mpr w)) _ (I.hok.fresh (Nat.le_refl _))⟩
 exact ⟨by rw [List.length_append]; exact hz, _, r1.append r2, IsTup.new _ _⟩
end
end L2
namespace L2
open PySem PySem.Spec PyProof.Rows
def ixN (n : Nat) (i : Int) : Option Nat := if 0 ≤ i then (if i < n then some i.toNat else none) else if -(n : Int) ≤ i then some (i + n).toNat else none
def atI {α : Type} (xs : List α) (i : Int) : Option α := (ixN xs.length i).bind fun j => xs[j]?
theorem zoa {n : Nat} {i : Int} {j : Nat} (h : ixN n i = some j) : seqIndex? i n = some j ∧ j < n ∧ -(n : Int) ≤ i ∧ i < n := by
 unfold ixN at h
 by_cases h0 : 0 ≤ i
 ·rw [if_pos h0] at h
  by_cases h1 : i < n
  ·rw [if_pos h1] at h
   have e : i.toNat = j := Option.some.inj h
   exact ⟨by rw [seqIndex_of h0 h1, e], by omega, by omega, h1⟩
  ·rw [if_neg h1] at h; cases h
 ·rw [if_neg h0] at h
  by_cases h1 : -(n : Int) ≤ i
  ·rw [if_pos h1] at h
   have e : (i + n).toNat = j := Option.some.inj h
   exact ⟨by rw [seqIndex_neg (by omega) h1, e], by omega, h1, by omega⟩
  ·rw [if_neg h1] at h; cases h
theorem zn8 {α : Type} {xs : List α} {i : Int} {v : α} (h : atI xs i = some v) : ∃ j, seqIndex? i xs.length = some j ∧ xs[j]? = some v ∧ j < xs.length ∧ -(xs.length : Int) ≤ i ∧ i < xs.length := by
 unfold atI at h
 cases e : ixN xs.length i with
 | none => rw [e] at h; cases h
 | some j =>
  rw [e] at h
  obtain ⟨h1, h2, h3, h4⟩ := zoa e
  exact ⟨j, h1, h, h2, h3, h4⟩
theorem zdz {α : Type} {xs : List α} {j : Nat} {v : α} (h : xs[j]? = some v) : atI xs (j : Int) = some v := by
 have hj : j < xs.length := (List.getElem?_eq_some_iff.mp h).1
 have e : ixN xs.length (j : Int) = some j := by
  unfold ixN
  rw [if_pos (by omega), if_pos (by omega)]; simp
 unfold atI; rw [e]; exact h
def zsa (b : Expr) : Prop := ∀ o i, subscripted b false o i = operate [o, i] (getItem o i)
def IxR (X : Cx) (r : R2) : Prop :=
 ∀ (value slice : Expr) (pins : List (Addr × Obj)) (s : Shared) (σ : St) (H : Hp) (x y : V) (v u : Value) (Q : VK), Inv X pins σ H s → RelV x v → RelV y u → r x y H Q →
  subscripted slice false v u = operate [v, u] (getItem v u) → wpAny (model X.prog X.w) X.A (subscriptTail value slice v u) (EP X pins σ Q) X.xe s
def MtR (X : Cx) (id : String) (r : V → List V → Hp → VK → Prop) : Prop :=
 ∀ (pins : List (Addr × Obj)) (s : Shared) (σ : St) (H : Hp) (x : V) (xs : List V) (v : Value) (us : List Value) (Q : VK), Inv X pins σ H s → RelV x v → Vals xs us → r x xs H Q →
  wpAny (model X.prog X.w) X.A (call (.builtin id) (v :: us)) (EP X pins σ Q) X.xe s
section
variable {X : Cx} {a b : Expr} {ta tb : TE} {pos : Pos}
theorem zap {r : R2} (hr : IxR X r) (ha : PE X a ta) (hb : PE X b tb) (hs : zsa b) : PE X (.Subscript a b pos) (tOp r ta tb) := by
 intro pins s σ H Q I h
 exact Subscript_ (ztl ha hb I h fun v u s2 x y H2 I2 rx ry q => hr a b pins s2 σ H2 x y v u Q I2 rx ry q (hs _ _))
def ztw (K : PySem.W.Frag) : R2 := fun x y H Q => ∃ p xs i v, x = .ref p ∧ y = .int i ∧ SqL K H p xs ∧ atI xs i = some v ∧ Q v H
def zt2 (K : PySem.W.Frag) : R2 := fun x y H Q => ∃ p xs i v, x = .ref p ∧ y = .int i ∧ SqT K H p xs ∧ atI xs i = some v ∧ Q v H
theorem zr2 : IxR X (ztw X.K) := by
 intro value slice pins s σ H x y v u Q I rx ry h hs
 obtain ⟨p, xs, i, z, rfl, rfl, hq, he, q⟩ := h
 cases rx
 obtain ⟨t, rfl⟩ := ry
 obtain ⟨its, r, pl, hz⟩ := I.list hq
 obtain ⟨j, h1, h2, h3, h4, h5⟩ := zn8 he
 obtain ⟨w, ew, rw'⟩ := r.get h2
 have hl := r.length
 have hn := zic
 have fin : EP X pins σ Q w s := ⟨z, H, I, rw', q⟩
 by_cases h0 : 0 ≤ i
 ·have hj : i.toNat = j := by
   rw [seqIndex_of h0 h5] at h1
   exact Option.some.inj h1
  exact item_listR pl.isList h0 (by omega) (by rw [hj]; simpa using ew) fin hs
 ·have hj : (i + (its.toArray.size : Int)).toNat = j := by
   rw [seqIndex_neg (by omega) h4] at h1
   rw [List.size_toArray, ← hl]
   exact Option.some.inj h1
  exact subscriptTail_builtinR (x := w) pl.isList.typeIs slot_list_getitem.lookup
   (wpAny_getItem_list_neg (Q := fun r s' => r = w ∧ EP X pins σ Q r s') pl.isList (by omega) (by rw [List.size_toArray] <;> omega) (by omega) (by rw [hj]; simpa using ew) ⟨rfl, fin⟩) hs
theorem zkp : IxR X (zt2 X.K) := by
 intro value slice pins s σ H x y v u Q I rx ry h hs
 obtain ⟨p, xs, i, z, rfl, rfl, hq, he, q⟩ := h
 cases rx
 obtain ⟨t, rfl⟩ := ry
 obtain ⟨its, r, pl, hz⟩ := I.tuple hq
 obtain ⟨j, h1, h2, h3, h4, h5⟩ := zn8 he
 obtain ⟨w, ew, rw'⟩ := r.get h2
 have hl := r.length
 have hn := zic
 have fin : EP X pins σ Q w s := ⟨z, H, I, rw', q⟩
 exact subscriptTail_builtinR (x := w) pl.typeIs slot_tuple_getitem.lookup
  (getItem_tuple (j := j) (Q := fun r s' => r = w ∧ EP X pins σ Q r s') pl (by omega) (by omega) (by rw [List.size_toArray, ← hl]; exact h1) (by simpa using ew) ⟨rfl, fin⟩) hs
theorem znk (its : List Value) (n j : Nat) (u : Value) : Obj.mapSeq (·.setIfInBounds j u) { cls := .type "list", data := .seq its.toArray n } = { cls := .type "list", data := .seq (its.set j u).toArray n } := by
 simp [Obj.mapSeq]
theorem Inv.lst {pins : List (Addr × Obj)} {σ : St} {H : Hp} {s : Shared} {p : Addr} {xs : List V} (I : Inv X pins σ H s) (h : H p = some (.lst xs)) :
  ∃ (its : List Value) (n : Nat), Vals xs its ∧ s.heap.get? p = some { cls := .type "list", data := .seq its.toArray n } ∧ xs.length ≤ sizeLine := by
 obtain ⟨z, its, n, r, e⟩ := I.hok p _ h
 exact ⟨its, n, r, e, z⟩
theorem Inv.lstUpd {pins : List (Addr × Obj)} {σ : St} {H : Hp} {s : Shared} {p : Addr} {xs ys : List V} {its its' : List Value} {n n' : Nat} {f : Obj → Obj} (I : Inv X pins σ H s) (h : H p = some (.lst xs))
  (ho : s.heap.get? p = some { cls := .type "list", data := .seq its.toArray n }) (hf : f { cls := .type "list", data := .seq its.toArray n } = { cls := .type "list", data := .seq its'.toArray n' }) (r : Vals ys its') (hz : ys.length ≤ sizeLine) (t : Nat) :
  Inv X pins σ (upd H p (.lst ys)) { s with heap := s.heap.update p f, toks := t } := by
 have e : (s.heap.update p f).get? p = some { cls := .type "list", data := .seq its'.toArray n' } := by
  rw [Heap.get?_update_self f ho (by rw [hf] <;> rfl), hf]
 refine I.write (x := p) (e := p) (by rw [h]; trivial) (.inl rfl) (fun b u hb q => (Heap.get?_update_other _ _ (Ne.symm hb)).trans q) ⟨_, e⟩ ?_
 exact ⟨hz, its', n', r, e⟩
def ztz : V → V → V → Hp → (Hp → Prop) → Prop := fun o i v H Q => ∃ p xs k j, o = .ref p ∧ i = .int k ∧ H p = some (.lst xs) ∧ ixN xs.length k = some j ∧ Q (upd H p (.lst (xs.set j v)))
theorem zqk : zt9 X ztz := by
 intro pins s σ H o i v ov iv u Q I ro ri rv h
 obtain ⟨p, xs, k, j, rfl, rfl, hp, hj, q⟩ := h
 cases ro
 obtain ⟨t, rfl⟩ := ri
 obtain ⟨its, n, r, ho, hz⟩ := I.lst hp
 obtain ⟨h1, h2, h3, h4⟩ := zoa hj
 have hl := r.length
 have hn := zic
 have I' : Inv X pins σ (upd H p (.lst (xs.set j v))) { s with heap := s.heap.update p (Obj.mapSeq (·.setIfInBounds j u)) } :=
  I.lstUpd hp ho (znk its n j u) (r.set rv j) (by rw [List.length_set]; exact hz) s.toks
 by_cases h0 : 0 ≤ k
 ·have hk : k.toNat = j := by
   rw [seqIndex_of h0 h4] at h1
   exact Option.some.inj h1
  exact PySem.W.ki_setAt ho h0 (by omega) (by rw [List.size_toArray, ← hl]; exact h4) (by rw [hk]; exact ⟨_, I', q⟩)
 ·have hk : (k + (its.toArray.size : Int)).toNat = j := by
   rw [seqIndex_neg (by omega) h3] at h1
   rw [List.size_toArray, ← hl]
   exact Option.some.inj h1
  exact PySem.W.ki_setBack ho (by omega) (by rw [List.size_toArray, ← hl]; exact h3) (by omega) (by rw [hk]; exact ⟨_, I', q⟩)
def zgn : V → Bool
 | .non => true
 | .bl _ => true
 | .int _ => true
 | .str _ => true
 | _ => false
def eqV : V → V → Bool
 | .non, .non => true
 | .bl a, .bl b => a == b
 | .bl a, .int b => (if a then 1 else 0) == b
 | .int a, .bl b => a == (if b then 1 else 0)
 | .int a, .int b => a == b
 | .str a, .str b => a == b
 | _, _ => false
theorem zth {A : Around} {s : Shared} {y x : V} {u v : Value} (ry : RelV y u) (rx : RelV x v) (fy : zgn y = true) (fx : zgn x = true) : SeqAt.EqAt A s u v (eqV y x) := by
 cases y with
 | non =>
  cases ry
  cases x with
  | non => cases rx; exact SeqAt.EqAt.same _
  | bl b => cases rx; exact SeqAt.EqAt.none_bool b
  | int b => obtain ⟨t, rfl⟩ := rx; exact SeqAt.EqAt.none_int b t
  | str b => obtain ⟨t, rfl⟩ := rx; exact SeqAt.EqAt.none_str b t
  | _ => exact absurd (show false = true from fx) Bool.false_ne_true
 | bl a =>
  cases ry
  cases x with
  | non => cases rx; exact SeqAt.EqAt.bool_none a
  | bl b => cases rx; exact SeqAt.EqAt.bool_bool a b
  | int b => obtain ⟨t, rfl⟩ := rx; exact SeqAt.EqAt.bool_int a b t
  | str b => obtain ⟨t, rfl⟩ := rx; exact SeqAt.EqAt.bool_str a b t
  | _ => exact absurd (show false = true from fx) Bool.false_ne_true
 | int a =>
  obtain ⟨t', rfl⟩ := ry
  cases x with
  | non => cases rx; exact SeqAt.EqAt.int_none a t'
  | bl b => cases rx; exact SeqAt.EqAt.int_bool a t' b
  | int b => obtain ⟨t, rfl⟩ := rx; exact SeqAt.EqAt.int_int a t' b t
  | str b => obtain ⟨t, rfl⟩ := rx; exact SeqAt.EqAt.int_str a t' b t
  | _ => exact absurd (show false = true from fx) Bool.false_ne_true
 | str a =>
  obtain ⟨t', rfl⟩ := ry
  cases x with
  | non => cases rx; exact SeqAt.EqAt.str_none a t'
  | bl b => cases rx; exact SeqAt.EqAt.str_bool a t' b
  | int b => obtain ⟨t, rfl⟩ := rx; exact SeqAt.EqAt.str_int a t' b t
  | str b => obtain ⟨t, rfl⟩ := rx; exact SeqAt.EqAt.str_str a t' b t
  | _ => exact absurd (show false = true from fx) Bool.false_ne_true
 | _ => exact absurd (show false = true from fy) Bool.false_ne_true
def eqU (x : V) (u : Value) : Bool := match u with
 | .none => eqV .non x
 | .bool b => eqV (.bl b) x
 | .int i _ => eqV (.int i) x
 | .str z _ => eqV (.str z) x
 | _ => false
theorem zql {x y : V} {u : Value} (r : RelV y u) (f : zgn y = true) : eqU x u = eqV y x := by
 cases y with
 | non => cases r; rfl
 | bl b => cases r; rfl
 | int i => obtain ⟨t, rfl⟩ := r; rfl
 | str z => obtain ⟨t, rfl⟩ := r; rfl
 | _ => exact absurd (show false = true from f) Bool.false_ne_true
theorem zkt {x : V} : ∀ {xs : List V} {us : List Value}, Vals xs us → xs.all zgn = true → us.any (eqU x) = xs.any fun y => eqV y x
 | _, _, .nil, _ => rfl
 | y :: xs, u :: us, .cons r t, f => by
  rw [List.all_cons, Bool.and_eq_true] at f
  rw [List.any_cons, List.any_cons, zql r f.1, zkt t f.2]
theorem zjb {A : Around} {s : Shared} {x : V} {v : Value} (rx : RelV x v) (fx : zgn x = true) : ∀ {xs : List V} {us : List Value}, Vals xs us → xs.all zgn = true → ∀ u ∈ us, SeqAt.EqAt A s u v (eqU x u)
 | _, _, .nil, _ => fun u hu => by cases hu
 | y :: xs, u :: us, .cons r t, f => fun u' hu => by
  rw [List.all_cons, Bool.and_eq_true] at f
  rcases List.mem_cons.mp hu with rfl | hu
  ·rw [zql r f.1]; exact zth r rx f.1 fx
  ·exact zjb rx fx t f.2 u' hu
def inV (x : V) (xs : List V) : Bool := xs.any fun y => eqV y x
def rIn (K : PySem.W.Frag) (neg : Bool) : R2 := fun x y H Q => ∃ p xs, y = .ref p ∧ (SqL K H p xs ∨ SqT K H p xs) ∧ zgn x = true ∧ xs.all zgn = true ∧ Q (.bl (if neg then !inV x xs else inV x xs)) H
theorem zkq : OpR X (compareOp .NotIn) (rIn X.K true) := by
 intro pins s σ H x y v u Q I rx ry h
 obtain ⟨p, xs, rfl, hq, fx, fs, q⟩ := h
 cases ry
 rcases hq with hq | hq
 ·obtain ⟨its, r, pl, hz⟩ := I.list hq
  refine SeqAt.notIn_listAt (eqU x) pl.isList (fun w hw => zjb rx fx r fs w (by simpa using hw)) ⟨.bl _, H, I, rfl, ?_⟩
  rw [show its.toArray.any (eqU x) = its.any (eqU x) by simp, zkt r fs]
  exact q
 ·obtain ⟨its, r, pl, hz⟩ := I.tuple hq
  refine SeqAt.notIn_tupleAt (eqU x) pl (fun w hw => zjb rx fx r fs w (by simpa using hw)) ⟨.bl _, H, I, rfl, ?_⟩
  rw [show its.toArray.any (eqU x) = its.any (eqU x) by simp, zkt r fs]
  exact q
theorem zk1 : zd4 X (.builtin "len") (fun xs H Q => ∃ p ys, xs = [.ref p] ∧ (SqL X.K H p ys ∨ SqT X.K H p ys) ∧ Q (.int ys.length) H) := by
 intro pins s σ H xs us Q I r h
 obtain ⟨p, ys, rfl, hq, q⟩ := h
 obtain ⟨u, rfl, rx⟩ := zfz r
 cases rx
 have hn := zic
 rcases hq with hq | hq
 ·obtain ⟨its, r', pl, hz⟩ := I.list hq
  have hlen := r'.length
  exact Calls.call_len_list pl.isList (by simp only [List.size_toArray] <;> omega) ⟨.int ys.length, H, I.tok _, ⟨s.toks + 1, by rw [List.size_toArray, hlen]⟩, q⟩
 ·obtain ⟨its, r', pl, hz⟩ := I.tuple hq
  have hlen := r'.length
  exact len_tuple pl (by simp only [List.size_toArray] <;> omega) ⟨.int ys.length, H, I.tok _, ⟨s.toks + 1, by rw [List.size_toArray, hlen]⟩, q⟩
theorem zcz : zd4 X (.type "tuple") (fun xs H Q => ∃ p ys, xs = [.ref p] ∧ ((SqL X.K H p ys ∧ ∀ l, H l = none → Q (.ref l) (upd H l (.tup ys))) ∨ (SqT X.K H p ys ∧ Q (.ref p) H))) := by
 intro pins s σ H xs us Q I r h
 obtain ⟨p, ys, rfl, h⟩ := h
 obtain ⟨u, rfl, rx⟩ := zfz r
 cases rx
 rcases h with ⟨hq, q⟩ | ⟨hq, q⟩
 ·obtain ⟨its, r', pl, hz⟩ := I.list hq
  have hlen := r'.length
  refine call_tuple_list pl.isList (fun h' kp => ?_) (by simp only [List.size_toArray] <;> omega)
  have I1 : Inv X pins σ H { s with heap := h' } := I.kept (t' := s.toks) kp
  have I2 : Inv X pins σ (upd H h'.objs.size (.tup ys)) { s with heap := h'.push { cls := .type "tuple", data := .seq its.toArray } } :=
   I1.laid (t' := s.toks) (fun b o e => Heap.get?_push_of_some _ e) (Nat.le_refl _) (show ObjOk X.prog X.w _ _ _ (.tup ys) from ⟨hz, its, r', IsTup.new _ _⟩)
  exact ⟨.ref h'.objs.size, _, I2, rfl, q _ (I1.hok.fresh (Nat.le_refl _))⟩
 ·obtain ⟨its, r', pl, hz⟩ := I.tuple hq
  exact call_tuple_same pl ⟨.ref p, H, I, rfl, q⟩
def tyV (K : PySem.W.Frag) (T : String) (x : V) (H : Hp) : Prop := match x with
 | .str _ => T = "str"
 | .int _ => T = "int"
 | .ref p => (T = "list" ∧ ∃ xs, SqL K H p xs) ∨ (T = "tuple" ∧ ∃ o, K.lookup p = some o ∧ o.cls = .type "tuple" ∧ o.dict = none) ∨
   (T = "dict" ∧ ((∃ kvs, H p = some (.dK kvs)) ∨ ∃ kvs, H p = some (.dT kvs))) ∨ (T = "set" ∧ ∃ S n, H p = some (.set S n))
 | _ => False
theorem zsv {pins : List (Addr × Obj)} {σ : St} {H : Hp} {s : Shared} {T : String} {x : V} {v : Value} (I : Inv X pins σ H s) (r : RelV x v) (ty : tyV X.K T x H) :
  s.TypeIs v T ∧ ∀ a, v = .ref a → ∃ ob, s.heap.get? a = some ob ∧ ob.dict = none := by
 cases x with
 | str z =>
  obtain ⟨t, rfl⟩ := r
  cases (show T = "str" from ty)
  exact ⟨typeIs_str s z t, fun _ e => nomatch e⟩
 | int i =>
  obtain ⟨t, rfl⟩ := r
  cases (show T = "int" from ty)
  exact ⟨typeIs_int s i t, fun _ e => nomatch e⟩
 | ref p =>
  cases r
  rcases ty with ⟨rfl, xs, hq⟩ | ⟨rfl, o, hk, hc, hd⟩ | ⟨rfl, hk⟩ | ⟨rfl, S, n, hk⟩
  ·obtain ⟨its, _, pl, _⟩ := I.list hq
   refine ⟨pl.isList.typeIs, fun a e => ?_⟩
   cases e
   obtain ⟨o, n, e, c, hd, _⟩ := pl
   exact ⟨o, e, hd⟩
  ·refine ⟨⟨o, I.kIn p o hk, hc⟩, fun a e => ?_⟩
   cases e
   exact ⟨o, I.kIn _ o hk, hd⟩
  ·have z : ∃ o, s.heap.get? p = some o ∧ o.ExactDict := by
    rcases hk with ⟨kvs, hk⟩ | ⟨kvs, hk⟩
    ·obtain ⟨_, _, _, _, o, _, _, e, ex, _⟩ := I.hok p _ hk
     exact ⟨o, e, ex⟩
    ·obtain ⟨_, _, _, _, o, _, _, e, ex, _⟩ := I.hok p _ hk
     exact ⟨o, e, ex⟩
   obtain ⟨o, e, ex⟩ := z
   refine ⟨⟨o, e, ex.1⟩, fun a e2 => ?_⟩
   cases e2
   exact ⟨o, e, ex.2.1⟩
  ·obtain ⟨o, _, _, _, e, ex, _⟩ := I.hok p _ hk
   refine ⟨⟨o, e, ex.1⟩, fun a e2 => ?_⟩
   cases e2
   exact ⟨o, e, ex.2.1⟩
 | _ => exact False.elim ty
def tBM (K : PySem.W.Frag) (T : String) (r : V → List V → Hp → VK → Prop) (to : TE) (t : TA) : TE := fun σ H Q => to σ H fun x H1 => tyV K T x H1 ∧ t σ H1 fun xs H2 => r x xs H2 Q
variable {o e : Expr} {es : List Expr} {to : TE} {t : TA} {name : Str} {apos cpos : Pos} {T id : String} {r : V → List V → Hp → VK → Prop}
theorem zul (pa : PlainAttrs T) (slot : Slot T name id) (hty : typeOf (.builtin id) = pure (.type "method_descriptor")) (hm : MtR X id r) (ho : PE X o to) (ha : PA X (e :: es) t)
  (hbase : attributeBase o name X.env (eval o X.env) = eval o X.env := by rfl)
  (hfew : ((backTo cpos (starEach (e :: es) X.env)).all (fun x => !x.1) && (backToKw cpos (keywordEach [] X.env)).all (fun x => x.1.isSome)
   && decide ((e :: es).length + ([] : List Keyword).length + (if ([] : List Keyword).isEmpty then 0 else 1) < 30)) = true := by rfl)
  (hline : (apos.endLine == cpos.line) = true := by rfl) (hs : starEach (e :: es) X.env = (false, eval e X.env) :: starEach es X.env := by rfl) (hplain : (backTo cpos (starEach es X.env)).any (·.1) = false := by rfl) :
  PE X (.Call (.Attribute o name apos) (e :: es) [] cpos) (tBM X.K T r to t) := by
 intro pins s σ H Q I h
 refine wpAny_Call_method_late hbase hfew hline rfl (thn (ho pins s σ H _ I h) fun v s1 ⟨x, H1, I1, r1, ty, q1⟩ => ?_)
 obtain ⟨h1, h2⟩ := zsv I1 r1 ty
 refine ⟨T, id, pa, slot, hty, h1, h2, ?_⟩
 have hA := ha cpos pins s1 σ H1 _ I1 q1
 rw [hs] at hA ⊢
 refine Calls.callWith_builtin (by show (false || (backTo cpos (starEach es X.env)).any (·.1)) = false; rw [hplain] <;> rfl) (Calls.evalArgs_plain ?_)
 exact thn hA fun us s2 ⟨vs, H2, I2, r2, q2⟩ => hm pins s2 σ H2 x vs v us Q I2 r1 r2 q2
end
end L2
namespace L2
open PySem PySem.Spec PyProof.Rows
def MtM (X : Cx) (id : String) (r : V → List V → Hp → VK → Prop) : Prop :=
 ∀ (pins : List (Addr × Obj)) (s : Shared) (σ : St) (H : Hp) (x : V) (xs : List V) (v : Value) (us : List Value) (Q : VK), Inv X pins σ H s → RelV x v → Vals xs us → r x xs H Q →
  wpAny (model X.prog X.w) X.A (call (.builtin id) (v :: us)) (EP X pins σ Q) X.xe s
theorem Vals.one : ∀ {x : V} {us : List Value}, Vals [x] us → ∃ u, us = [u] ∧ RelV x u
 | _, _, .cons r .nil => ⟨_, rfl, r⟩
theorem Vals.reverse {xs : List V} {us : List Value} (h : Vals xs us) : Vals xs.reverse us.reverse := by
 induction h with
 | nil => exact .nil
 | cons r t ih => rw [List.reverse_cons, List.reverse_cons]; exact Vals.append ih (.cons r .nil)
section
variable {X : Cx} {pins : List (Addr × Obj)} {σ : St} {H : Hp} {s : Shared} {l b : Addr} {xs ys zs : List V}
theorem Inv.lset {its its' : List Value} {n : Nat} {f : Array Value → Array Value} {t' : Nat} (I : Inv X pins σ H s) (hH : H l = some (.lst xs))
  (e : s.heap.get? l = some { cls := .type "list", data := .seq its.toArray n }) (hf : f its.toArray = its'.toArray) (hv : Vals ys its') (hz : ys.length ≤ sizeLine) :
  Inv X pins σ (upd H l (.lst ys)) { s with heap := s.heap.update l (Obj.mapSeq f), toks := t' } := by
 have q := PySem.IsL.update e f
 rw [hf] at q
 refine I.write (x := l) (e := l) (by rw [hH]; exact trivial) (.inl rfl) (fun b' u hb hu => (Heap.get?_update_other s.heap (Obj.mapSeq f) (Ne.symm hb)).trans hu) ⟨_, q⟩ ?_
 exact ⟨hz, its', _, hv, q⟩
theorem Inv.lnew {its : List Value} {t' : Nat} (I : Inv X pins σ H s) (hv : Vals ys its) (hz : ys.length ≤ sizeLine) :
  Inv X pins σ (upd H s.heap.objs.size (.lst ys)) { s with heap := s.heap.push { cls := .type "list", data := .seq its.toArray }, toks := t' } :=
 I.laid (fun _ _ q => Heap.get?_push_of_some _ q) (Nat.le_refl _) ⟨hz, its, 0, hv, Heap.get?_push_size _ rfl⟩
theorem Inv.fresh (I : Inv X pins σ H s) : H s.heap.objs.size = none := I.hok.fresh (Nat.le_refl _)
theorem Inv.lstM (I : Inv X pins σ H s) (hH : H l = some (.lst xs)) : xs.length ≤ sizeLine ∧ ∃ (its : List Value) (n : Nat), Vals xs its ∧ xs.length = its.length ∧ s.heap.get? l = some { cls := .type "list", data := .seq its.toArray n } := by
 obtain ⟨z, its, n, r, e⟩ := I.hok l _ hH
 exact ⟨z, its, n, r, r.length, e⟩
end
section
variable {X : Cx}
def zrs : V → List V → Hp → VK → Prop := fun x vs H Q => ∃ l xs y, x = .ref l ∧ vs = [y] ∧ H l = some (.lst xs) ∧ xs.length < sizeLine ∧ Q .non (upd H l (.lst (xs ++ [y])))
theorem zfu : MtM X "list.append" zrs := by
 intro pins s σ H x vs v us Q I rx rv h
 obtain ⟨l, xs, y, rfl, rfl, hH, hz, q⟩ := h
 cases rx
 obtain ⟨u, rfl, ru⟩ := rv.one
 obtain ⟨z, its, n, r, hl, e⟩ := I.lstM hH
 refine call_meets F.slot_list_append ⟨_, e, rfl⟩ F.entry_list_append (F.args_list_append_2 _ _) (PySem.list_append l its.toArray n u (by rw [List.size_toArray]; omega)) ⟨e, ?_⟩
 refine ⟨.non, _, I.lset (its' := its ++ [u]) hH e (by simp) (r.append (.cons ru .nil)) ?_, rfl, q⟩
 rw [List.length_append, List.length_singleton]
 omega
def zuy : R2 := fun x y H Q => ∃ l b xs zs, x = .ref l ∧ y = .ref b ∧ H l = some (.lst xs) ∧ H b = some (.lst zs) ∧ xs.length + zs.length ≤ sizeLine ∧ ∀ p, H p = none → Q (.ref p) (upd H p (.lst (xs ++ zs)))
theorem zs5 : OpR X (binaryOp .Add) zuy := by
 intro pins s σ H x y v u Q I rx ry h
 obtain ⟨l, b, xs, zs, rfl, rfl, hH, hB, hz, q⟩ := h
 cases rx
 cases ry
 obtain ⟨z, its, n, r, hl, e⟩ := I.lstM hH
 obtain ⟨z2, its2, n2, r2, hl2, e2⟩ := I.lstM hB
 refine PySem.P.add_list e e2 ?_ (by rw [List.size_toArray, List.size_toArray]; omega)
 have ea : its.toArray ++ its2.toArray = (its ++ its2).toArray := by simp
 rw [ea]
 exact ⟨.ref _, _, I.lnew (t' := s.toks) (r.append r2) (by rw [List.length_append]; omega), rfl, q _ I.fresh⟩
end
section
variable {prog : Program} {w : World} {A : Around} {E : Value → Shared → Prop} {s : Shared}
set_option maxRecDepth 100000 in
end
section
variable {X : Cx}
end
end L2
namespace Att
open PySem PySem.W PySem.Calls PyProof.Rows
theorem zh0 {P : Params} {h : Heap} : ∀ (ns : List Int) (vs : List Value), WellAll P h vs (ns.map WData.int) → IntsAre vs ns := by
 intro ns
 induction ns with
 | nil =>
  intro vs w
  rw [List.map_nil] at w
  cases w
  exact .nil
 | cons n ns ih =>
  intro vs w
  rw [List.map_cons] at w
  cases w with
  | cons a b =>
   cases a
   exact .cons _ _ (ih _ b)
theorem zon {l : OpenLaw} {n : Nat} (hn : l.most = some n) {P : Params} {h : Heap} {args : List WData} {vals : List Value}
  (hpre : l.row.toRowW.claim.pre args = true) (hwl : WellAll P h vals args) :
  ∃ a vs ns, vals = [Value.ref a] ∧ args = [WData.list (ns.map WData.int)] ∧ h.get? a = some { cls := .type "list", data := .seq vs.toArray } ∧ IntsAre vs ns ∧ ns.length ≤ n := by
 have hsh : WShape.hasAll [] args [.list .int] = true := (pre_splitW hpre).1
 have hc : l.pre.holds [] { args := args } = true := (pre_splitW hpre).2
 obtain ⟨d, r, rfl, h1, h2⟩ := hasAllW_cons hsh
 obtain rfl := hasAllW_nil h2
 obtain ⟨xs, rfl, h3⟩ := hasW_list h1
 obtain ⟨ns, rfl⟩ := items_int h3
 have hlen : ns.length ≤ n := by
  unfold OpenLaw.pre at hc
  have h4 : (WTm.not (.lt (.lit (.int (n : Int))) (.len (.arg 0)))).holds [] { args := [.list (ns.map .int)] } = true := by
   have h4 := (holds_andW hc).1
   rw [hn] at h4
   exact h4
  have h5 := condW_of h4 (w_not (w_lt w_lit (w_len_list (w_arg rfl))))
  rw [List.length_map] at h5
  refine Nat.le_of_not_lt fun q => ?_
  have q' : (n : Int) < ((ns.length : Nat) : Int) := by omega
  first
   | (rw [decide_eq_true q'] at h5; exact absurd h5 (by decide))
   | (simp at h5; omega)
 cases hwl with
 | cons w1 w2 =>
  cases w2
  cases w1 with
  | list ho hall => exact ⟨_, _, ns, rfl, rfl, ho, zh0 ns _ hall, hlen⟩
theorem zoc (l : OpenLaw) (args : List WData) : l.row.toRowW.claim.post args (.bool true) args = true :=
 postW_of (r := l.row.toRowW) (X := (true == true))
  (show WShape.has [] (.bool true) .bool = true by first | rfl | decide | simp [WShape.has, WShape.arms, WShape.armsAll])
  (show (WTm.eq .res (.lit (.bool true))).value [] { args := args, res := some (.bool true), after := args } = some (.bool (true == true)) from w_eq_bool (w_res rfl) w_lit) rfl
theorem attach_call {l : OpenLaw} {n : Nat} {q : Program} {loose : List Str} {XP : (Str → Option Value) → Heap → Prop} {YP : World → Heap → Prop} {d : DefRec}
  (hn : l.most = some n) (hdf : d.params.defaults = [])
  (call : ∀ (w : World) (s₀ s₁ : Shared) (mg mb : Str → Option Value) (fa : Addr) (o : Obj) (pm cd doc : Value) (a : Addr) (vs : List Value) (ns : List Int),
   Ground q loose [] XP w s₀ mg mb s₁.heap → YP w s₁.heap →
   s₁.heap.get? fa = some o → o.data = .func (docDef d.name d.params d.body d.scope pm cd doc) → s₁.heap.CodeRec cd d.name → mg d.name = some (.ref fa) →
   s₁.heap.get? a = some { cls := .type "list", data := .seq vs.toArray } → IntsAre vs ns → ns.length ≤ n → s₁.gens = #[] →
   codeAny (model l.prog w) callerA (.call (.ref fa) ⟨[.ref a], []⟩) (fun r s' => r = .ok (.ret (.bool true)) ∧ OldK s₁.heap s'.heap ∧ s'.os = s₁.os ∧ AllBare s'.gens) s₁) :
  WalkO q loose XP YP l.row.toRowW d [] (fun f vs => PySem.call f vs) := by
 intro w s₀ s₁ mg mb G Y fa o pm cd doc dV kV ho hd hcd hD hmg hg args vals as hpre hlay hrd hwl hlo
 obtain rfl : dV = .none := Dflts.none hD hdf
 obtain rfl : kV = .none := Dflts.noKw hD
 obtain ⟨a, vs, ns, rfl, rfl, hobj, hints, hlen⟩ := zon hn hpre hwl
 refine enter_call (codeAny_mono (call w s₀ s₁ mg mb fa o pm cd doc a vs ns G Y ho (fd_plain hd) hcd hmg hobj hints hlen hg) fun r s' hq => ?_)
 obtain ⟨rfl, h2, h3, h4⟩ := hq
 exact ⟨.inl ⟨.bool true, .bool true, [], rfl, fun _ => rfl, .bool true, zoc l _, fun _ => ⟨List.Pairwise.nil, fun _ hm => (nomatch hm)⟩⟩, h2, h3, h4⟩
section
variable {prog : Program} {w : World} {A : Around} {E : Value → Shared → Prop} {s : Shared} {K : Frag}
end
end Att
namespace L2
open PySem PySem.Spec PyProof.Rows
theorem zhc : ∀ {vs : List Value} {ns : List Int}, IntsAre vs ns → Vals (ns.map V.int) vs
 | _, _, .nil => .nil
 | _, _, .cons n t h => .cons ⟨t, rfl⟩ (zhc h)
end L2
namespace L2
open PySem PySem.Spec PyProof.Rows
end L2
namespace L2
open PySem PySem.Spec PyProof.Rows
def zaj (s : Stmt) : Arguments := match s with
 | .FunctionDef _ a _ _ _ _ _ _ _ _ => a
 | _ => { posonlyargs := [], args := [], vararg := none, kwonlyargs := [], kw_defaults := [], kwarg := none, defaults := [] }
def zah (s : Stmt) : List Stmt := match s with
 | .FunctionDef _ _ b _ _ _ _ _ _ _ => b
 | _ => []
def zab (s : Stmt) : Scope := match s with
 | .FunctionDef _ _ _ _ _ _ sc _ _ _ => sc
 | _ => { kind := .function, names := [], isGenerator := false, isCoroutine := false }
abbrev CX0 : CXT := fun _ _ _ _ _ _ => False
abbrev E0 : XK := fun _ _ _ => False
theorem zal {X : Cx} : zga CX0 X E0 := fun _ _ _ _ _ _ _ h => h.elim
structure Fun (K : PySem.W.Frag) (x qual : Str) (st : Stmt) (f : Addr) (fd : FuncData) : Prop where
 ex : ∃ (oc : Value) (od : Option Addr) (kV doc pm : Value) (an : Option Addr) (cdv ct : Value) (osl : Array (Option Value)),
  fd = PySem.W.fnOf x qual (zaj st) (zah st) (zab st) .none kV doc pm an cdv ct ∧ K.lookup f = some ⟨oc, od, .func fd, osl⟩ ∧ PySem.W.codeIn K cdv qual = true
 kp : PySem.W.keepIn K (.ref f) = true
section
variable {P : Program} {w : World} {K : PySem.W.Frag} {mg : Str → Option Value} {base : Heap}
theorem Fun.ok {x qual : Str} {st : Stmt} {f : Addr} {fd : FuncData} {N ps : List Str} {k : Nat} {sp : Sp} (F : Fun K x qual st f fd) (S : zav N ps (zab st)) (len : ∀ vs H Q E, sp vs H Q E → vs.length = ps.length)
  (hbody : ∀ (cdv : Value) (A : Around) (outer : List Env) (s : Shared) (H : Hp) (vs : List V) (Q : VK) (E : XK), Room k (A.deeper (envOfC qual (zab st) s.heap.objs.size f cdv)) → sp vs H Q E →
   ∃ t, PSs (zcj CX0 P w K mg base N qual (zab st) f cdv A outer s H E).nox (zah st) t ∧ t { nx := fun _ H' => Q .non H', rt := Q } (zf1 N vs) H) : FnOk P w K mg base CX0 (k + 1) f fd ps sp := by
 obtain ⟨oc, od, kV, doc, pm, an, cdv, ct, osl, rfl, lk, hcd⟩ := F.ex
 refine zqb lk hcd S len fun A outer s H vs Q E hr hsp => ?_
 obtain ⟨t, h, q⟩ := hbody cdv A outer s H vs Q E hr hsp
 exact ⟨t, h.nox, q⟩
theorem Fun.binds {x qual : Str} {st : Stmt} {f : Addr} {fd : FuncData} {ps : List Str} (F : Fun K x qual st f fd)
  (h : ∀ (kV doc pm : Value) (an : Option Addr) (cdv ct : Value) (us : List Value), us.length = ps.length → bindArgs (PySem.W.fnOf x qual (zaj st) (zah st) (zab st) .none kV doc pm an cdv ct) ⟨us, []⟩ = pure (ps.zip us)) : Binds K fd ps [] := by
 obtain ⟨oc, od, kV, doc, pm, an, cdv, ct, osl, rfl, lk, hcd⟩ := F.ex
 exact .all (h kV doc pm an cdv ct)
theorem za5 {x qual : Str} {st : Stmt} {f : Addr} {oc : Value} {od an : Option Addr} {osl : Array (Option Value)} {kV doc pm cdv ct : Value} (l : K.lookup f = some ⟨oc, od, .func (PySem.W.fnOf x qual (zaj st) (zah st) (zab st) .none kV doc pm an cdv ct), osl⟩)
  (c : PySem.W.codeIn K cdv qual = true) (k : PySem.W.keepIn K (.ref f) = true) : Fun K x qual st f (PySem.W.fnOf x qual (zaj st) (zah st) (zab st) .none kV doc pm an cdv ct) := ⟨⟨oc, od, kV, doc, pm, an, cdv, ct, osl, rfl, l, c⟩, k⟩
end
theorem zcy {n : Nat} (h : n ≤ 1000) : n < sizeLine := Nat.lt_of_le_of_lt h (by decide)
section
variable {X : Cx}
theorem pv (i : Nat) {x : Str} {pos : Pos} (hN : X.N[i]? = some x := by rfl) (hv : Vis X.env.scope x := by first | exact Or.inl rfl | exact Or.inr (Or.inl rfl) | exact Or.inr (Or.inr rfl)) (hd : (x == ("__debug__" : Str)) = false := by decide)
  (hcd : (x == ("__classdict__" : Str)) = false := by decide) : PE X (.Name x pos) (zt8 i) := znj hN hv hd hcd
end
theorem zee {A B : Prop} (h : B) : if false = true then A else B := by
 rw [if_neg Bool.false_ne_true]
 exact h
theorem zoo {A B : Prop} (h : A) : if true = true then A else B := by
 rw [if_pos rfl]
 exact h
theorem zcs {c A B : Prop} [Decidable c] (h1 : c → A) (h2 : ¬ c → B) : if c then A else B := by
 by_cases h : c
 ·rw [if_pos h]
  exact h1 h
 ·rw [if_neg h]
  exact h2 h
theorem zin {c A B : Prop} [Decidable c] (hc : c) (h : B) : if (!decide c) = true then A else B := by
 rw [decide_eq_true hc]
 exact zee h
end L2
set_option maxRecDepth 100000
set_option maxHeartbeats 4000000
namespace L2
open PySem PySem.Spec PyProof.Rows
def zec (c : Addr) : Heap → Prop := fun h => ∃ (o : Obj) (vs : Array Value) (q : Str) (t : Nat), h.get? c = some o ∧ o.data = .fields vs ∧ vs[1]? = some (.str q t)
def zdk (H : Hp) (P : Addr) : Prop := ∃ ps : Array Value, H P = some (.tbl ps) ∧ TriplesOk ps.toList ∧ ∀ pos : Pos, codeAmong pos ps.toList = none ∨ ∃ c : Addr, codeAmong pos ps.toList = some (.ref c) ∧ H c = some (.ext (zec c))
def Kp (H H' : Hp) (b : Addr) : HO → Prop
 | .tbl _ => (∃ ps, H' b = some (.tbl ps)) ∧ (zdk H b → zdk H' b)
 | o => H' b = some o
def Same (H H' : Hp) : Prop := ∀ b o, H b = some o → Kp H H' b o
theorem Kp.of {H H' : Hp} {b : Addr} {o : HO} (h : H b = some o) (e : H' b = some o) (hc : ∀ c, H c = some (.ext (zec c)) → H' c = some (.ext (zec c))) : Kp H H' b o := by
 cases o
 case tbl ps =>
  refine ⟨⟨ps, e⟩, fun ⟨qs, hq, tr, hp⟩ => ?_⟩
  rw [h] at hq
  cases hq
  exact ⟨_, e, tr, fun pos => (hp pos).imp id fun ⟨c, z1, z2⟩ => ⟨c, z1, hc c z2⟩⟩
 all_goals exact e
theorem zgq {H H' : Hp} (h : ∀ b o, H b = some o → H' b = some o) : Same H H' := fun b o e => Kp.of e (h b o e) fun c z => h c _ z
theorem Same.refl (H : Hp) : Same H H := zgq fun _ _ h => h
theorem Same.trans {H H1 H2 : Hp} (a : Same H H1) (b : Same H1 H2) : Same H H2 := fun c o h => by
 have z := a c o h
 cases o
 case tbl ps =>
  obtain ⟨⟨qs, hq⟩, k⟩ := z
  obtain ⟨q2, k2⟩ := b c _ hq
  exact ⟨q2, fun t => k2 (k t)⟩
 all_goals exact b c _ z
theorem Kp.some {H H' : Hp} {b : Addr} {o : HO} (k : Kp H H' b o) : ∃ u, H' b = some u := by
 cases o
 case tbl ps => exact ⟨_, k.1.choose_spec⟩
 all_goals exact ⟨_, k⟩
theorem Same.free {H H' : Hp} (e : Same H H') {l : Addr} (h : H' l = Option.none) : H l = Option.none := by
 cases q : H l with
 | none => rfl
 | some o =>
  obtain ⟨u, z⟩ := (e l o q).some
  rw [z] at h
  cases h
theorem Same.tab {H H' : Hp} {P : Addr} (e : Same H H') (t : zdk H P) : zdk H' P := by
 obtain ⟨ps, h, _⟩ := id t
 exact (e _ _ h).2 t
theorem zi6 {pos pos' : Pos} {c : Value} (l : List Value) (h : TriplesOk l) : codeAmong pos (l ++ [rawInt pos'.line, rawInt pos'.col, c]) = codeAmong pos l ∨ codeAmong pos (l ++ [rawInt pos'.line, rawInt pos'.col, c]) = some c := by
 fun_induction TriplesOk l with
 | case1 =>
  by_cases hc : ((pos'.line : Int) == (pos.line : Int) && (pos'.col : Int) == (pos.col : Int)) = true
  ·exact .inr (by simp only [List.nil_append, codeAmong, rawInt]; rw [if_pos hc])
  ·exact .inl (by simp only [List.nil_append, codeAmong, rawInt]; rw [if_neg hc])
 | case2 a t b u x rest ih =>
  simp only [List.cons_append, codeAmong]
  split
  ·exact .inl rfl
  ·exact ih h
 | case3 => exact h.elim
end L2
set_option maxRecDepth 100000
set_option maxHeartbeats 4000000
namespace L2
open PySem PySem.Spec PyProof.Rows
theorem zjs {α β : Type} (g : α → β → β) {f : α → β → Sem (ForInStep β)} : ∀ (l : List α) (b : β), (∀ x ∈ l, ∀ c, f x c = pure (ForInStep.yield (g x c))) →
  forIn l b f = (pure (l.foldl (fun c x => g x c) b) : Sem β)
 | [], b, _ => by simp only [List.forIn_nil, List.foldl_nil]
 | x :: r, b, h => by
  rw [List.forIn_cons, h x List.mem_cons_self b, pure_bind]
  exact zjs g r (g x b) fun y hy c => h y (List.mem_cons_of_mem _ hy) c
def ze3 (sc : Scope) (env : Env) : List (Str × Addr) :=
 sc.names.foldl (fun cs y => if (y.2 == NameKind.free) = true then (y.1, (env.cells.lookup y.1).getD 0) :: cs else cs) []
theorem zn1 {sc : Scope} {env : Env} (h : ∀ y ∈ sc.names, y.2 = .free → ∃ c, env.cells.lookup y.1 = some c) : closureFor sc env = pure (ze3 sc env) := by
 simp only [closureFor]
 rw [zjs (fun (y : Str × NameKind) (cs : List (Str × Addr)) => if (y.2 == NameKind.free) = true then (y.1, (env.cells.lookup y.1).getD 0) :: cs else cs) sc.names [] (fun y hy c => by
  obtain ⟨n, k⟩ := y
  by_cases hk : k = .free
  ·obtain ⟨a, ha⟩ := h _ hy hk
   subst hk
   simp only [cellOf, ha, beq_self_eq_true, if_true, pure_bind, Option.getD_some]
  ·have z : (k == NameKind.free) = false := by simpa using hk
   simp only [z, Bool.false_eq_true, if_false])]
 rfl
theorem zjn {α β : Type} {P : β → Prop} {g : α → List β → List β} : ∀ (l : List α) (b : List β), (∀ p ∈ b, P p) → (∀ x ∈ l, ∀ c, (∀ p ∈ c, P p) → ∀ p ∈ g x c, P p) → ∀ p ∈ l.foldl (fun c x => g x c) b, P p
 | [], b, hb, _ => hb
 | x :: r, b, hb, h => zjn r (g x b) (h x List.mem_cons_self b hb) fun y hy => h y (List.mem_cons_of_mem _ hy)
theorem zqv {sc : Scope} {env : Env} (h : ∀ y ∈ sc.names, y.2 = .free → ∃ c, env.cells.lookup y.1 = some c) : ∀ p ∈ ze3 sc env, env.cells.lookup p.1 = some p.2 := by
 refine zjn (P := fun p : Str × Addr => env.cells.lookup p.1 = some p.2) sc.names [] (fun _ z => nomatch z) fun y hy c hc p hp => ?_
 by_cases hk : y.2 = .free
 ·have z : (y.2 == NameKind.free) = true := by simpa using hk
  rw [if_pos z] at hp
  rcases List.mem_cons.mp hp with e | hp
  ·obtain ⟨a, ha⟩ := h y hy hk
   rw [e]
   show env.cells.lookup y.1 = some ((env.cells.lookup y.1).getD 0)
   rw [ha]
   rfl
  ·exact hc p hp
 ·have z : ¬ (y.2 == NameKind.free) = true := by simpa using hk
  rw [if_neg z] at hp
  exact hc p hp
theorem ziv {α β : Type} {q : β} {g : α → List β → List β} (hg : ∀ x c, q ∈ c → q ∈ g x c) : ∀ (l : List α) (b : List β), q ∈ b → q ∈ l.foldl (fun c x => g x c) b
 | [], _, hb => hb
 | x :: r, b, hb => ziv hg r (g x b) (hg x b hb)
theorem zqw {sc : Scope} {env : Env} {x : Str} {c : Addr} (hx : (x, NameKind.free) ∈ sc.names) (hc : env.cells.lookup x = some c) : (x, c) ∈ ze3 sc env := by
 have kp : ∀ (y : Str × NameKind) (cs : List (Str × Addr)), (x, c) ∈ cs → (x, c) ∈ (if (y.2 == NameKind.free) = true then (y.1, (env.cells.lookup y.1).getD 0) :: cs else cs) := fun y cs h => by
  by_cases z : (y.2 == NameKind.free) = true
  ·rw [if_pos z]
   exact List.mem_cons_of_mem _ h
  ·rw [if_neg z]
   exact h
 unfold ze3
 obtain ⟨l1, l2, e⟩ := List.append_of_mem hx
 rw [e, List.foldl_append, List.foldl_cons]
 refine ziv (g := fun (y : Str × NameKind) (cs : List (Str × Addr)) => if (y.2 == NameKind.free) = true then (y.1, (env.cells.lookup y.1).getD 0) :: cs else cs) kp l2 _ ?_
 rw [if_pos (by simp)]
 rw [hc]
 exact List.mem_cons_self
theorem ze4 {β : Type} {x : Str} {b : β} : ∀ {l : List (Str × β)}, (x, b) ∈ l → ∃ c, l.lookup x = some c
 | [], h => nomatch h
 | (y, d) :: r, h => by
  by_cases e : x = y
  ·subst e
   exact ⟨d, by rw [List.lookup_cons_self]⟩
  ·have z : (x == y) = false := by simpa using e
   rcases List.mem_cons.mp h with q | q
   ·cases q
    exact absurd rfl e
   ·obtain ⟨c, hc⟩ := ze4 q
    exact ⟨c, by rw [List.lookup_cons, z]; exact hc⟩
theorem za4 {sc : Scope} {env : Env} (h : ∀ y ∈ sc.names, y.2 = .free → ∃ c, env.cells.lookup y.1 = some c) {x : Str} {c : Addr} (e : (ze3 sc env).lookup x = some c) : env.cells.lookup x = some c :=
 zqv h _ (PySem.mem_of_lookup e)
theorem zb9 {sc : Scope} {env : Env} (h : ∀ y ∈ sc.names, y.2 = .free → ∃ c, env.cells.lookup y.1 = some c) {x : Str} {c : Addr} (hx : (x, NameKind.free) ∈ sc.names) (hc : env.cells.lookup x = some c) : (ze3 sc env).lookup x = some c := by
 obtain ⟨d, hd⟩ := ze4 (zqw hx hc)
 have := za4 h hd
 rw [hc] at this
 cases this
 exact hd
def zm7 (sc sc0 : Scope) : Scope :=
 { sc with names := sc.names.map fun (n, k) => if (k == .free && sc0.kind == .function && sc0.names.lookup n == some .cell) then (n, .cell) else (n, k) }
def zo8 (sc0 sc : Scope) (XN N' : List Str) (n : Nat) (kp : List Nat) : Bool :=
 decide (sc.kind = .function) && sc.names.all (fun y => decide (y.2 ≠ .cell)) && sc.names.all (fun y => decide (y.2 = .local → sc.names.lookup y.1 = some .local)) &&
 sc.names.all (fun y => decide (y.2 = .free → sc0.names.lookup y.1 = some .cell)) && decide (N'.length = n + kp.length) &&
 (List.range kp.length).all (fun i => match N'[n + i]?, kp[i]? with
  | some x, some j => decide (XN[j]? = some x ∧ (x, NameKind.free) ∈ sc.names ∧ ((zm7 sc sc0).names.lookup x = some .cell ∨ (zm7 sc sc0).names.lookup x = some .free))
  | _, _ => false)
theorem zi2 {sc0 sc : Scope} {XN N' : List Str} {n : Nat} {kp : List Nat} (h : zo8 sc0 sc XN N' n kp = true) :
  sc.kind = .function ∧ (∀ y ∈ sc.names, y.2 ≠ .cell) ∧ (∀ y ∈ sc.names, y.2 = .local → sc.names.lookup y.1 = some .local) ∧ (∀ y ∈ sc.names, y.2 = .free → sc0.names.lookup y.1 = some .cell) ∧ N'.length = n + kp.length ∧
  ∀ (i : Nat) (x : Str), N'[n + i]? = some x → ∃ j, kp[i]? = some j ∧ XN[j]? = some x ∧ (x, NameKind.free) ∈ sc.names ∧ ((zm7 sc sc0).names.lookup x = some .cell ∨ (zm7 sc sc0).names.lookup x = some .free) := by
 unfold zo8 at h
 simp only [Bool.and_eq_true, List.all_eq_true, decide_eq_true_eq] at h
 obtain ⟨⟨⟨⟨⟨h1, h2⟩, h3⟩, h4⟩, h5⟩, h6⟩ := h
 refine ⟨h1, h2, h3, h4, h5, fun i x hx => ?_⟩
 have hi : i < kp.length := by
  have := (List.getElem?_eq_some_iff.mp hx).1
  omega
 have q := h6 i (List.mem_range.mpr hi)
 rw [hx, List.getElem?_eq_getElem hi] at q
 exact ⟨kp[i], List.getElem?_eq_getElem hi, of_decide_eq_true q⟩
abbrev NoX : Value → Shared → Prop := fun _ _ => False
def blk (X : Cx) (N' : List Str) (sc : Scope) (C : Addr) (fp : List Addr) (pins : List (Addr × Obj)) (s : Shared) (H : Hp) : Cx :=
 { X with N := N', s₀ := s, H₀ := H, env := compEnvC sc (ze3 sc X.env) C X.env, outer := X.stack, stack := X.stack, ex := fp, fn := fun _ => false, pn := X.pn ++ pins, xe := NoX }
abbrev zsg (cs : List Expr) (env : Env) : Sem Bool := forIn cs true fun c r => if r = true then do let ok ← isTrue c env (eval c env); pure (ForInStep.yield ok) else pure (ForInStep.yield r)
def PTs (X : Cx) (cs : List Expr) (t : TT) : Prop :=
 ∀ (pins : List (Addr × Obj)) (s : Shared) (σ : St) (H : Hp) (Q : Bool → Hp → Prop), Inv X pins σ H s → t σ H Q → wpAny (model X.prog X.w) X.A (zsg cs X.env) (TP X pins σ Q) X.xe s
def zur : TT := fun _ H Q => Q true H
theorem znv {X : Cx} : PTs X [] zur := fun _ _ _ H _ I h => wpAny_tests_nil ⟨H, I, h⟩
theorem zd0 {X : Cx} {c : Expr} {t : TT} (hc : PT X c t) : PTs X [c] t := fun pins s σ H Q I h => wpAny_tests_one (hc pins s σ H Q I h)
theorem zra {prog : Program} {w : World} {A : Around} {R : Result → Shared → Prop} {elt tg iter : Expr} {cs : List Expr} {sc : Scope} {pos : Pos} {it acc : Value} {env : Env} (J : Nat → Shared → Prop)
  (turn : ∀ n s, J n s → wpAny (model prog w) A (pyNext it) (fun r s1 => match r with
   | none => R (.ok .next) s1
   | some v => wpAny (model prog w) A (letOwnedTupleGo tg it v) (fun _ s2 => wpAny (model prog w) A (assign tg env v) (fun _ s3 => wpAny (model prog w) A (zsg cs env) (fun ok s4 =>
     if ok = true then wpAny (model prog w) A (eval elt env) (fun x s5 => wpAny (model prog w) A (call (.builtin "list.append") [acc, x]) (fun _ s6 => ∃ m, m < n ∧ J m s6) NoX s5) NoX s4
     else ∃ m, m < n ∧ J m s4) NoX s3) NoX s2) NoX s1) NoX s)
  (n : Nat) (s : Shared) (h : J n s) : codeAny (model prog w) A (.compLoop (.ListComp elt [⟨tg, iter, cs, 0⟩] sc pos) 0 it acc env) R s := by
 refine codeAny_loop rfl J (fun n s hJ => ?_) n h
 show wpAny _ A ((compTurn (.ListComp elt [⟨tg, iter, cs, 0⟩] sc pos) 0 it acc env).onRaise (fun x => do noteFrame x env; theTreesLotGoes x)) _ _ s
 refine wpAny_noted ?_
 rw [compTurn_list]
 have no : ∀ {E : Value → Shared → Prop} (e : Value) (z : Shared), NoX e z → E e z := fun _ _ f => f.elim
 refine wpAny_bind (wpAny_standAt (wpAny_bind (wpAny_mono (turn n s hJ) (fun r s1 h1 => ?_) no)))
 cases r with
 | none => exact wpAny_pure h1
 | some v =>
  refine wpAny_bind (wpAny_mono h1 (fun _ s2 h2 => ?_) no)
  refine wpAny_bind (wpAny_mono h2 (fun _ s3 h3 => ?_) no)
  refine wpAny_bind (wpAny_mono h3 (fun ok s4 h4 => ?_) no)
  cases ok with
  | false => exact wpAny_pure ⟨rfl, h4⟩
  | true =>
   exact wpAny_bind (wpAny_bind (wpAny_mono h4 (fun x s5 h5 => wpAny_bind (wpAny_mono h5 (fun _ s6 h6 => wpAny_pure (wpAny_pure ⟨rfl, h6⟩)) no)) no))
def zqn (J : It) (g : TG) (tc : TT) (te : TE) (σ0 : St) (H1 : Hp) (Q : VK) : Prop := ∃ W : Nat → Nat → List V → St → Hp → Prop,
  (∃ m, W 0 m [] σ0 H1) ∧ ∀ i m ys σ' H', W i m ys σ' H' → ys.length ≤ sizeLine ∧
    ((J.stop i H' ∧ ∀ p, H' p = none → Q (.ref p) (upd H' p (.lst ys))) ∨
     (J.go i H' ∧ ∃ N : List V → St → Hp → Prop, (∀ ys' σ2 H2, N ys' σ2 H2 → ∃ m', m' < m ∧ W (i + 1) m' ys' σ2 H2) ∧ ∀ x H2, J.yld i H' x H2 → g x σ' H2 fun σ3 H3 => tc σ3 H3 fun b H4 =>
       if b = true then te σ3 H4 fun v H5 => N (ys ++ [v]) σ3 H5 else N ys σ3 H4))
def tLc (n : Nat) (kp : List Nat) (wi : TI) (g : TG) (tc : TT) (te : TE) : TE := fun σ H Q => wi σ H fun J H1 => zqn J g tc te (List.replicate n none ++ kp.map fun j => (σ[j]?).join) H1 Q
theorem zqq {lo : Int} {k : Nat} {σ0 : St} {H : Hp} {g : TG} {tc : TT} {te : TE} {Q : VK} (Pv : Nat → List V → St → Hp → Prop) (h0 : Pv 0 [] σ0 H) (hz : ∀ i ys σ H, i ≤ k → Pv i ys σ H → ys.length ≤ sizeLine)
  (hs : ∀ i ys σ H, i < k → Pv i ys σ H → g (.int (lo + i)) σ H fun σ3 H3 => tc σ3 H3 fun b H4 => if b = true then te σ3 H4 fun v H5 => Pv (i + 1) (ys ++ [v]) σ3 H5 else Pv (i + 1) ys σ3 H4)
  (hd : ∀ ys σ H, Pv k ys σ H → ∀ p, H p = none → Q (.ref p) (upd H p (.lst ys))) :
  zqn (Itr lo k) g tc te σ0 H Q := by
 refine ⟨fun i m ys σ H => m = k - i ∧ i ≤ k ∧ Pv i ys σ H, ⟨k, by simp, Nat.zero_le _, h0⟩, ?_⟩
 rintro i m ys σ H ⟨rfl, hi, p⟩
 refine ⟨hz i ys σ H hi p, ?_⟩
 by_cases hlt : i < k
 ·refine .inr ⟨hlt, Pv (i + 1), fun ys' σ' H' p' => ⟨k - (i + 1), by omega, rfl, hlt, p'⟩, fun x H' y => ?_⟩
  obtain ⟨e1, e2⟩ := y
  subst e1
  subst e2
  exact hs i ys σ _ hlt p
 ·have e : i = k := by omega
  subst e
  exact .inl ⟨Nat.le_refl _, hd ys σ H p⟩
theorem zh8 {K : PySem.W.Frag} {a : Addr} {xs : List V} {σ0 : St} {H : Hp} {g : TG} {tc : TT} {te : TE} {Q : VK} (Pv : Nat → List V → St → Hp → Prop) (h0 : Pv 0 [] σ0 H) (hz : ∀ i ys σ H, i ≤ xs.length → Pv i ys σ H → ys.length ≤ sizeLine)
  (hl : ∀ i ys σ H, i ≤ xs.length → Pv i ys σ H → SqL K H a xs)
  (hs : ∀ i x ys σ H, xs[i]? = some x → Pv i ys σ H → g x σ H fun σ3 H3 => tc σ3 H3 fun b H4 => if b = true then te σ3 H4 fun v H5 => Pv (i + 1) (ys ++ [v]) σ3 H5 else Pv (i + 1) ys σ3 H4)
  (hd : ∀ ys σ H, Pv xs.length ys σ H → ∀ p, H p = none → Q (.ref p) (upd H p (.lst ys))) :
  zqn (Itl K a) g tc te σ0 H Q := by
 refine ⟨fun i m ys σ H => m = xs.length - i ∧ i ≤ xs.length ∧ Pv i ys σ H, ⟨xs.length, by simp, Nat.zero_le _, h0⟩, ?_⟩
 rintro i m ys σ H ⟨rfl, hi, p⟩
 refine ⟨hz i ys σ H hi p, ?_⟩
 have q := hl i ys σ H hi p
 by_cases hlt : i < xs.length
 ·refine .inr ⟨⟨xs, xs[i], q, by simp [hlt]⟩, Pv (i + 1), fun ys' σ' H' p' => ⟨xs.length - (i + 1), by omega, rfl, hlt, p'⟩, fun x H' y => ?_⟩
  obtain ⟨e, y⟩ := y
  subst e
  exact hs i x ys σ _ (y xs q) p
 ·have e : i = xs.length := by omega
  subst e
  exact .inl ⟨⟨xs, q, Nat.le_refl _⟩, hd ys σ H p⟩
theorem zkz {K : PySem.W.Frag} {a : Addr} {xs : List V} {σ0 : St} {H : Hp} {g : TG} {tc : TT} {te : TE} {Q : VK} (Pv : Nat → List V → St → Hp → Prop) (h0 : Pv 0 [] σ0 H) (hz : ∀ i ys σ H, i ≤ xs.length → Pv i ys σ H → ys.length ≤ sizeLine)
  (hl : ∀ i ys σ H, i ≤ xs.length → Pv i ys σ H → SqT K H a xs)
  (hs : ∀ i x ys σ H, xs[i]? = some x → Pv i ys σ H → g x σ H fun σ3 H3 => tc σ3 H3 fun b H4 => if b = true then te σ3 H4 fun v H5 => Pv (i + 1) (ys ++ [v]) σ3 H5 else Pv (i + 1) ys σ3 H4)
  (hd : ∀ ys σ H, Pv xs.length ys σ H → ∀ p, H p = none → Q (.ref p) (upd H p (.lst ys))) :
  zqn (Itt K a) g tc te σ0 H Q := by
 refine ⟨fun i m ys σ H => m = xs.length - i ∧ i ≤ xs.length ∧ Pv i ys σ H, ⟨xs.length, by simp, Nat.zero_le _, h0⟩, ?_⟩
 rintro i m ys σ H ⟨rfl, hi, p⟩
 refine ⟨hz i ys σ H hi p, ?_⟩
 have q := hl i ys σ H hi p
 by_cases hlt : i < xs.length
 ·refine .inr ⟨⟨xs, xs[i], q, by simp [hlt]⟩, Pv (i + 1), fun ys' σ' H' p' => ⟨xs.length - (i + 1), by omega, rfl, hlt, p'⟩, fun x H' y => ?_⟩
  obtain ⟨e, y⟩ := y
  subst e
  exact hs i x ys σ _ (y xs q) p
 ·have e : i = xs.length := by omega
  subst e
  exact .inl ⟨⟨xs, q, Nat.le_refl _⟩, hd ys σ H p⟩
section
variable {X : Cx} {tg iter elt : Expr} {cs : List Expr} {sc sc0 : Scope} {pos : Pos} {wi : TI} {g : TG} {tc : TT} {te : TE} {XN N' : List Str} {n : Nat} {kp : List Nat}
theorem zst {pins : List (Addr × Obj)} {σ : St} {H : Hp} {s : Shared} {fp : List Addr} {C : Addr} (I : Inv X pins σ H s) (hk : sc.kind = .function) (hcell : ∀ y ∈ sc.names, y.2 ≠ .cell)
  (hfr : ∀ y ∈ sc.names, y.2 = .free → ∃ c, X.env.cells.lookup y.1 = some c) (hf : ∀ b ∈ fp, zjf X pins H b) (hl : ∀ b ∈ fp, b < s.heap.objs.size) (hC : s.heap.objs.size ≤ C) : (blk X N' sc C fp pins s H).Ok where
 mod := I.ok.mod
 kind := hk
 glob := I.ok.glob
 blt := I.ok.blt
 above := hC
 inj := fun x y c h1 h2 => I.ok.inj x y c (za4 hfr h1) (za4 hfr h2)
 has := fun x hx => by
  have q : ∃ k, (x, k) ∈ sc.names ∧ k = .free := by
   have hx' : (zm7 sc X.env.scope).names.lookup x = some .cell ∨ (zm7 sc X.env.scope).names.lookup x = some .free := hx
   have go : ∀ k, (zm7 sc X.env.scope).names.lookup x = some k → (k = .cell ∨ k = .free) → (x, NameKind.free) ∈ sc.names := fun k e hk' => by
    have hm := PySem.mem_of_lookup e
    obtain ⟨⟨y, ky⟩, hy, ey⟩ := List.mem_map.mp hm
    dsimp only at ey
    split at ey
    ·rename_i hc
     cases ey
     have z : ky = .free := by
      simp only [Bool.and_eq_true] at hc
      simpa using hc.1.1
     subst z
     exact hy
    ·cases ey
     rcases hk' with z | z
     ·exact absurd z (hcell _ hy)
     ·subst z
      exact hy
   rcases hx' with e | e
   ·exact ⟨_, go _ e (.inl rfl), rfl⟩
   ·exact ⟨_, go _ e (.inr rfl), rfl⟩
  obtain ⟨k, hm, rfl⟩ := q
  obtain ⟨c, hc⟩ := hfr _ hm rfl
  exact ⟨c, zb9 hfr hm hc⟩
 cab := fun x c h => absurd h (by simp [blk])
 hd := I.ok.hd
 frames := I.ok.frames
 stk := .inl rfl
 exf := fun b hb => ⟨Nat.ne_of_lt (Nat.lt_of_lt_of_le (hl b hb) hC), fun x c e => (hf b hb).2.2.2.2.1 x c (za4 hfr e)⟩
 bs := I.bs
 bsz := Nat.le_trans I.ok.bsz I.sz
 noex := fun b o e hb => by
  rcases (hf b hb).2.2.2.1 with z | z
  ·exact I.ok.noex b o e z
  ·exact absurd (Nat.lt_of_lt_of_le (Heap.lt_size e) (Nat.le_trans I.ok.bsz z)) (Nat.lt_irrefl _)
 exfs := fun b hb z => by
  rcases List.mem_cons.mp (I.stkSub b z) with q | q
  ·exact (hf b hb).2.1 q
  ·exact (hf b hb).2.2.1 q
 funs := I.stack
 frf := I.stkFree
end
end L2
set_option maxRecDepth 100000
set_option maxHeartbeats 4000000
namespace L2
open PySem PySem.Spec PyProof.Rows
section
variable {X : Cx} {tg iter elt : Expr} {cs : List Expr} {sc sc0 : Scope} {pos : Pos} {wi : TI} {g : TG} {tc : TT} {te : TE} {XN N' : List Str} {n : Nat} {kp : List Nat}
theorem zom {pins : List (Addr × Obj)} {σ : St} {H : Hp} {s : Shared} {fp : List Addr} {C : Addr} {h1 : Heap} {tk : Nat} {m : Str → Option Value} (I : Inv X pins σ H s) (h0 : X.env.scope = sc0) (hN : X.N = XN) (ok : zo8 sc0 sc XN N' n kp = true)
  (hf : ∀ b ∈ fp, zjf X pins H b) (hl : ∀ b ∈ fp, b < s.heap.objs.size) (hC : s.heap.objs.size ≤ C) (old : ∀ b o, s.heap.get? b = some o → h1.get? b = some o) (ns : h1.Ns C m) :
  Inv (blk X N' sc C fp pins s H) [] (List.replicate n none ++ kp.map fun j => (σ[j]?).join) H { s with heap := h1, toks := tk } := by
 obtain ⟨o1, o2, o3, o4, o5, o6⟩ := zi2 ok
 subst h0
 subst hN
 have hfr : ∀ y ∈ sc.names, y.2 = .free → ∃ c, X.env.cells.lookup y.1 = some c := fun y hy e => I.ok.has y.1 (.inl (o4 y hy e))
 have below : ∀ b, b < s.heap.objs.size → b ≠ C := fun b hb => Nat.ne_of_lt (Nat.lt_of_lt_of_le hb hC)
 refine ⟨zst I o1 o2 hfr hf hl hC, rfl, I.bare, Un.kept old, ⟨m, ns, fun i x v e1 e2 e3 => ?_⟩, fun x c e => ?_, I.hok.fresh hC, fun x c e => ?_, fun p hp => ?_, I.hok.kept old, ?_⟩
 ·have hi : n ≤ i := by
   by_cases z : n ≤ i
   ·exact z
   ·rw [List.getElem?_append_left (by rw [List.length_replicate]; omega), List.getElem?_replicate] at e2
    split at e2 <;> cases e2
  obtain ⟨j, rfl⟩ : ∃ j, i = n + j := ⟨i - n, by omega⟩
  obtain ⟨q, hq, hx, hm, hkd⟩ := o6 j x e1
  rw [List.getElem?_append_right (by rw [List.length_replicate]; omega), List.length_replicate, Nat.add_sub_cancel_left, List.getElem?_map, hq] at e2
  have e4 : (σ[q]?).join = some v := Option.some.inj e2
  have e2' : σ[q]? = some (some v) := by
   cases z : σ[q]? with
   | none => rw [z] at e4; cases e4
   | some w => rw [z] at e4; cases e4; rfl
  obtain ⟨c, hc⟩ := hfr _ hm rfl
  have kx : X.env.kindOf x = some .cell := o4 _ hm rfl
  obtain ⟨m', hn', hl'⟩ := I.loc
  obtain ⟨u, r, lk⟩ := hl' q x v hx e2' (.inr (.inl kx))
  refine ⟨u, r, .inr ⟨hkd, c, zb9 hfr hm hc, ?_⟩⟩
  rcases lk with ⟨k, _⟩ | ⟨_, c', hc', hv⟩
  ·rw [kx] at k
   cases k
  ·rw [hc] at hc'
   cases hc'
   exact hv.keeps old
 ·obtain ⟨v, hv⟩ := I.cell x c (za4 hfr e)
  exact ⟨v, hv.keeps old⟩
 ·exact I.freeC x c (za4 hfr e)
 ·have hp' : p ∈ X.pn ++ pins := by
   have : p ∈ (X.pn ++ pins) ++ ([] : List (Addr × Obj)) := hp
   rw [List.append_nil] at this
   exact this
  obtain ⟨q1, q2, q3, q4, q5⟩ := I.pin p hp'
  refine ⟨old _ _ q1, q2, below _ (Heap.lt_size q1), fun z => ?_, q5⟩
  rcases List.mem_cons.mp (I.stkSub _ z) with r | r
  ·exact q3 r
  ·exact q4 r
 ·show (List.replicate n none ++ kp.map fun j => (σ[j]?).join).length = N'.length
  rw [List.length_append, List.length_replicate, List.length_map, o5]
theorem zqi {pins : List (Addr × Obj)} {s : Shared} {σ : St} {H : Hp} {Q : VK} {use : Option (Value → Sem Unit)} {Qf : Value → Shared → Prop} (hc : X.calm = true) (hi : PI X tg iter wi) (h0 : X.env.scope = sc0) (hN : X.N = XN) (ok : zo8 sc0 sc XN N' n kp = true)
  (hg : ∀ C fp pins s H, PG (blk X N' sc C fp pins s H) tg g) (ht : ∀ C fp pins s H, PTs (blk X N' sc C fp pins s H) cs tc) (he : ∀ C fp pins s H, PE (blk X N' sc C fp pins s H) elt te) (hs : ∀ x, foldedSetIterable iter X.env x = pure x)
  (I : Inv X pins σ H s) (h : tLc n kp wi g tc te σ H Q)
  (fin : ∀ D C ys H' s', Inv X pins σ (upd H' D (.lst ys)) s' → (∃ m, s'.heap.Ns C m) → zjf X pins (upd H' D (.lst ys)) C → Q (.ref D) (upd H' D (.lst ys)) → compPost (model X.prog X.w) X.A X.xe use Qf (.ref D) C (.ok .next) s') {pos' : Pos} :
  wpAny (model X.prog X.w) X.A (comprehension (.ListComp elt [⟨tg, iter, cs, 0⟩] sc pos) sc X.env pos' (newList []) false (firstIter [⟨tg, iter, cs, 0⟩] X.env) use) Qf X.xe s := by
 obtain ⟨o1, o2, o3, o4, o5, o6⟩ := zi2 ok
 have hfr : ∀ y ∈ sc.names, y.2 = .free → ∃ c, X.env.cells.lookup y.1 = some c := fun y hy e => I.ok.has y.1 (.inl (by rw [Env.kindOf, h0]; exact o4 y hy e))
 refine wpAny_comprehension_free (use := use) rfl hs (zn1 hfr) o1 o3 (thn (hi pins s σ H _ I h) fun v s1 h1 => thn h1 fun itv s2 h2 => ?_)
 obtain ⟨it, fp, tn, J, H2, rfl, I2, T, st2, f2, W, ⟨m0, w0⟩, turn⟩ := h2
 have hl : ∀ b ∈ fp, b < s2.heap.objs.size := fun b hb => by
  obtain ⟨o, e, _⟩ := T.obj 0 _ st2 b hb
  exact Heap.lt_size e
 refine wpAny_newObj_type (wpAny_newFunctionEnv o2 (by intro y hy; simp at hy) (fun h1 ns1 sb1 => ?_) o1)
 dsimp only at ns1 sb1 ⊢
 generalize hG : s2.heap.push { cls := .type "list", dict := none, data := .seq ([] : List Value).toArray } = G at ns1 sb1 ⊢
 have hGs : G.objs.size = s2.heap.objs.size + 1 := by rw [← hG, Heap.size_push]
 have hCl : s2.heap.objs.size ≤ G.objs.size := by omega
 have hDC : s2.heap.objs.size ≠ G.objs.size := by omega
 have old : ∀ b o, s2.heap.get? b = some o → h1.get? b = some o := fun b o e => by
  have lt := Heap.lt_size e
  exact sb1.extBut b o (Nat.ne_of_lt (Nat.lt_of_lt_of_le lt hCl)) (Heap.get?_push_of_some _ (hG ▸ Heap.get?_push_of_some _ e))
 have hD1 : h1.get? s2.heap.objs.size = some { cls := .type "list", data := .seq ([] : List Value).toArray 0 } :=
  sb1.extBut _ _ hDC (Heap.get?_push_of_some _ (hG ▸ Heap.get?_push_size _ rfl))
 have nD2 : H2 s2.heap.objs.size = none := I2.hok.fresh (Nat.le_refl _)
 have nC2 : H2 G.objs.size = none := I2.hok.fresh hCl
 have loop : ∀ s3 : Shared, s3 = { s2 with heap := h1, toks := s2.toks + ([] : List (Str × Value)).length } →
   codeAny (model X.prog X.w) X.A (.compLoop (.ListComp elt [⟨tg, iter, cs, 0⟩] sc pos) 0 (.ref it) (.ref s2.heap.objs.size) (compEnvC sc (ze3 sc X.env) G.objs.size X.env))
    (compPost (model X.prog X.w) X.A X.xe use Qf (.ref s2.heap.objs.size) G.objs.size) s3 := by
  rintro s3 rfl
  have I3 := zom (fp := fp) (C := G.objs.size) (h1 := h1) (tk := s2.toks + ([] : List (Str × Value)).length) I2 h0 hN ok f2 hl hCl old ns1
  have stat : ∀ {H' : Hp} {o : Obj}, (∀ b ∈ fp, H' b = none) → ∀ b ∈ fp, zjf (blk X N' sc G.objs.size fp pins s2 H2) [(s2.heap.objs.size, o)] H' b := fun hn b hb => by
   have lt := hl b hb
   refine ⟨hn b hb, Nat.ne_of_lt (Nat.lt_of_lt_of_le lt hCl), I3.ok.exfs b hb, .inl hb, (I3.ok.exf b hb).2, fun p hp => ?_⟩
   rcases List.mem_append.mp hp with z | z
   ·exact (f2 b hb).2.2.2.2.2 p z
   ·have e : p.1 = s2.heap.objs.size := by rw [List.mem_singleton.mp z]
    rw [e]
    exact Nat.ne_of_gt lt
  have pinD : ∀ {σ' : St} {H' : Hp} {s' : Shared} {o : Obj}, Inv (blk X N' sc G.objs.size fp pins s2 H2) [] σ' H' s' → s'.heap.get? s2.heap.objs.size = some o → (∀ v, o.data ≠ .cell v) → H' s2.heap.objs.size = none →
    Inv (blk X N' sc G.objs.size fp pins s2 H2) [(s2.heap.objs.size, o)] σ' H' s' := fun {σ' H' s' o} J' e hd hn => J'.pins_of fun p hp => by
   rw [List.mem_singleton.mp hp]
   exact ⟨e, hn, hDC, fun z => by
    rcases List.mem_cons.mp (I2.stkSub _ z) with r | r
    ·exact absurd I2.lt (by rw [← r]; exact Nat.lt_irrefl _)
    ·exact I2.nofs (Nat.le_refl _) r, hd⟩
  refine zra (fun k s' => ∃ (i : Nat) (ys : List V) (its : List Value) (c : Nat) (σ' : St) (H' : Hp), Inv (blk X N' sc G.objs.size fp pins s2 H2) [] σ' H' s' ∧ tn i s'.heap ∧ (∀ b ∈ fp, H' b = none) ∧
   s'.heap.get? s2.heap.objs.size = some { cls := .type "list", data := .seq its.toArray c } ∧ Vals ys its ∧ H' s2.heap.objs.size = none ∧ W i k ys σ' H') ?_ m0 _
   ⟨0, [], [], 0, _, H2, I3, T.keep _ _ _ st2 fun b _ o e => old b o e, fun b hb => (f2 b hb).1, hD1, .nil, nD2, w0⟩
  rintro k s' ⟨i, ys, its, c, σ', H', I', st', fr', hD', hv, nD, w'⟩
  obtain ⟨hz, cases⟩ := turn i k ys σ' H' w'
  have I'' := pinD I' hD' (fun v => by intro z; cases z) nD
  rcases cases with ⟨stop, q⟩ | ⟨go, N, hN2, step⟩
  ·refine thn (T.done (blk X N' sc G.objs.size fp pins s2 H2) rfl rfl rfl hc i _ s' σ' H' NoX I'' (stat fr') st' stop) fun r s4 ⟨hr, I4⟩ => ?_
   subst hr
   obtain ⟨e4, n4, _⟩ := I4.pin (s2.heap.objs.size, { cls := .type "list", data := .seq its.toArray c }) (List.mem_append_right _ (List.mem_singleton.mpr rfl))
   have u4 : Un (frs X.stack) fp H2 H' s2.heap s4.heap := I4.base
   have nC4 : H' G.objs.size = none := I4.free
   obtain ⟨m4, ns4, _⟩ := I4.loc
   have neD : ∀ b o, s2.heap.get? b = some o → b ≠ s2.heap.objs.size := fun b o e => Nat.ne_of_lt (Heap.lt_size e)
   have u5 : Un (frs X.stack) fp H2 (upd H' s2.heap.objs.size (.lst ys)) s2.heap s4.heap :=
    ⟨u4.keep, u4.slot, fun b o e nb hx => by rw [zan (neD b o e)]; exact u4.free b o e nb hx, u4.there, fun b xs e => by rw [zan (zaq e nD2)]; exact u4.tups b xs e,
     fun b o u e => by rw [zan (zaq e nD2)]; exact u4.frzs b o u e, fun b ps e => by rw [zan (zaq e nD2)]; exact u4.tbls b ps e⟩
   have hok5 : HOk X.prog X.w (upd H' s2.heap.objs.size (.lst ys)) s4.heap := fun a o e => by
    by_cases ea : a = s2.heap.objs.size
    ·subst ea
     rw [zaf] at e
     cases e
     exact ⟨hz, its, c, hv, e4⟩
    ·rw [zan ea] at e
     exact (I4.hok a o e).stay (fun _ _ _ q => q) (fun b q => by rw [zan (zaq q nD)]; exact q) fun b xs q => by rw [zan (zaq q nD)]; exact q
   have I5 : Inv X pins σ (upd H' s2.heap.objs.size (.lst ys)) s4 := I2.call' I4.os u5 hok5 I4.bare fun b hb => ⟨(f2 b hb).2.2.2.1, (f2 b hb).2.1, (f2 b hb).2.2.2.2.1, (f2 b hb).2.2.2.2.2⟩
   refine fin _ _ ys H' s4 I5 ⟨m4, ns4⟩ (I2.fpOk hCl ?_) (q _ nD)
   rw [zan (Ne.symm hDC)]
   exact nC4
  ·refine thn (T.item (blk X N' sc G.objs.size fp pins s2 H2) rfl rfl rfl hc i _ s' σ' H' NoX I'' (stat fr') st' go) fun r s4 ⟨u, hr, h4⟩ => ?_
   subst hr
   refine thn h4 fun _ s5 ⟨x, H5, I5, r5, y5, st5, fr5⟩ => ?_
   have I5' := I5.pinned (stat fr5) (T.obj _ _ st5)
   refine thn (hg _ _ _ _ _ _ s5 σ' H5 x u _ I5' r5 (step x H5 y5)) fun _ s6 ⟨σ6, H6, I6, q6⟩ => ?_
   refine thn (ht _ _ _ _ _ _ s6 σ6 H6 _ I6 q6) fun b s7 ⟨H7, I7, q7⟩ => ?_
   have back : ∀ {s8 : Shared} {H8 : Hp} (m' : Nat), Inv (blk X N' sc G.objs.size fp pins s2 H2) ([(s2.heap.objs.size, { cls := .type "list", data := .seq its.toArray c })] ++ zhe fp s5.heap) σ6 H8 s8 →
     tn (i + 1) s8.heap ∧ (∀ b ∈ fp, H8 b = none) ∧ s8.heap.get? s2.heap.objs.size = some { cls := .type "list", data := .seq its.toArray c } ∧ H8 s2.heap.objs.size = none := fun {s8 H8} m' I8 => by
    have pn : ∀ p ∈ [(s2.heap.objs.size, ({ cls := .type "list", data := .seq its.toArray c } : Obj))] ++ zhe fp s5.heap, s8.heap.get? p.1 = some p.2 ∧ H8 p.1 = none := fun p hp =>
     let ⟨a, b, _⟩ := I8.pin p (List.mem_append_right _ hp); ⟨a, b⟩
    refine ⟨T.keep _ _ _ st5 fun b hb o e => (pn (b, o) (List.mem_append_right _ (zeh hb e))).1, fun b hb => ?_, pn _ (List.mem_append_left _ (List.mem_singleton.mpr rfl))⟩
    obtain ⟨o, e, _⟩ := T.obj _ _ st5 b hb
    exact (pn (b, o) (List.mem_append_right _ (zeh hb e))).2
   have bare : ∀ {s8 : Shared} {H8 : Hp} {pl : List (Addr × Obj)}, Inv (blk X N' sc G.objs.size fp pins s2 H2) pl σ6 H8 s8 → Inv (blk X N' sc G.objs.size fp pins s2 H2) [] σ6 H8 s8 := fun I8 => I8.pins_of fun p hp => nomatch hp
   cases b with
   | false =>
    rw [if_neg Bool.false_ne_true] at q7 ⊢
    obtain ⟨m', lt, w7⟩ := hN2 _ _ _ q7
    obtain ⟨b1, b2, b3, b4⟩ := back m' I7
    exact ⟨m', lt, i + 1, ys, its, c, σ6, H7, bare I7, b1, b2, b3, hv, b4, w7⟩
   | true =>
    rw [if_pos rfl] at q7 ⊢
    refine thn (he _ _ _ _ _ _ s7 σ6 H7 _ I7 q7) fun y s8 ⟨yv, H8, I8, r8, q8⟩ => ?_
    obtain ⟨m', lt, w8⟩ := hN2 _ _ _ q8
    obtain ⟨b1, b2, b3, b4⟩ := back m' I8
    have hlen := hv.length
    refine append_at (hsz := by rw [List.size_toArray, ← hlen]; exact hz) b3 fun h9 sb9 e9 => ?_
    have I9 : Inv (blk X N' sc G.objs.size fp pins s2 H2) [] σ6 H8 { s8 with heap := h9 } := (bare I8).turned (t' := s8.toks) (it := s2.heap.objs.size) (fun b o hb e => sb9.extBut b o hb e) b4 hDC (.inr (Nat.le_refl _))
     (fun x c e z => by
      obtain ⟨v, hv⟩ := I2.cell x c (za4 hfr e)
      exact absurd hv.lt (by rw [z]; exact Nat.lt_irrefl _))
     fun p hp z => by
      have hp' : p ∈ X.pn ++ pins := by
       have : p ∈ (X.pn ++ pins) ++ ([] : List (Addr × Obj)) := hp
       rw [List.append_nil] at this
       exact this
      exact absurd (Heap.lt_size (I2.pin p hp').1) (by rw [z]; exact Nat.lt_irrefl _)
    refine ⟨m', lt, i + 1, ys ++ [yv], its ++ [y], c + 1, σ6, H8, I9, T.keep _ _ _ b1 fun b hb o e => sb9.extBut b o (Nat.ne_of_lt (hl b hb)) e, b2, ?_, hv.append (.cons r8 .nil), b4, w8⟩
    rw [e9]
    simp
 exact codeAny_compStart_list (loop _ rfl) (T.self _ 0 _ _ _ (T.keep _ _ _ st2 fun b _ o e => old b o e) (loop _ rfl))
theorem zi3 (hc : X.calm = true) (hi : PI X tg iter wi) (h0 : X.env.scope = sc0) (hN : X.N = XN) (ok : zo8 sc0 sc XN N' n kp = true)
  (hg : ∀ C fp pins s H, PG (blk X N' sc C fp pins s H) tg g) (ht : ∀ C fp pins s H, PTs (blk X N' sc C fp pins s H) cs tc) (he : ∀ C fp pins s H, PE (blk X N' sc C fp pins s H) elt te)
  (hs : ∀ x, foldedSetIterable iter X.env x = pure x := by intro _; rfl) : PE X (.ListComp elt [⟨tg, iter, cs, 0⟩] sc pos) (tLc n kp wi g tc te) := by
 intro pins s σ H Q I h
 rw [eval_ListComp]
 refine zqi hc hi h0 hN ok hg ht he hs I h fun D C ys H' s' I' ns fp q => ?_
 obtain ⟨m, hm⟩ := ns
 refine ⟨m, hm, fun h' sb => ⟨.ref D, _, ?_, rfl, q⟩⟩
 obtain ⟨f1, f2, f3, f4, f5, f6⟩ := fp
 exact I'.turned (t' := s'.toks) (it := C) (fun b o hb e => sb.extBut b o hb e) f1 f2 f4 f5 f6
end
end L2
set_option maxRecDepth 100000
set_option maxHeartbeats 4000000
namespace L2
open PySem PySem.Spec PyProof.Rows
section
variable {X : Cx} {tg iter elt : Expr} {cs : List Expr} {sc sc0 : Scope} {pos : Pos} {wi : TI} {g : TG} {tc : TT} {te : TE} {XN N' : List Str} {n : Nat} {kp : List Nat}
theorem zis {i : Nat} {y : Str} {py spos : Pos} (hNd : X.N.Nodup) (hiy : X.N[i]? = some y) (hy : X.env.scope.names.lookup y = some .local) (hsw : swapsWith (.ListComp elt [⟨tg, iter, cs, 0⟩] sc pos) (some (.Name y py)) spos.line X.env = pure true)
  (hc : X.calm = true) (hi : PI X tg iter wi) (h0 : X.env.scope = sc0) (hN : X.N = XN) (ok : zo8 sc0 sc XN N' n kp = true)
  (hg : ∀ C fp pins s H, PG (blk X N' sc C fp pins s H) tg g) (ht : ∀ C fp pins s H, PTs (blk X N' sc C fp pins s H) cs tc) (he : ∀ C fp pins s H, PE (blk X N' sc C fp pins s H) elt te)
  (hs : ∀ x, foldedSetIterable iter X.env x = pure x := by intro _; rfl) : PS X (.Assign [.Name y py] (.ListComp elt [⟨tg, iter, cs, 0⟩] sc pos) spos) (ztf (tLc n kp wi g tc te) (znr i)) := by
 intro pins s σ H D I h
 rw [exec_Assign_Name_used _ _ _ _ hsw]
 refine wpAny_bind (wpAny_standAt (wpAny_bind ?_))
 have fin : wpAny (model X.prog X.w) X.A (comprehension (.ListComp elt [⟨tg, iter, cs, 0⟩] sc pos) sc X.env (firstIterPos [⟨tg, iter, cs, 0⟩] pos) (newList []) false (firstIter [⟨tg, iter, cs, 0⟩] X.env) (some (assign (.Name y py) X.env)))
   (fun _ s' => SP X pins D .next s') X.xe s := by
  refine zqi (Q := fun x H1 => znr i x σ H1 D.nx) hc hi h0 hN ok hg ht he hs I h fun D' C ys H' s' I' ns fp q => ?_
  obtain ⟨m, hm⟩ := ns
  obtain ⟨f1, f2, f3, f4, f5, f6⟩ := fp
  obtain ⟨o, es, ep, ho, rest⟩ := id hm
  have nc : ∀ v, o.data ≠ .cell v := fun v z => by
   rw [rest.1] at z
   cases z
  have I'' : Inv X (pins ++ [(C, o)]) σ (upd H' D' (.lst ys)) s' := I'.pins_of fun p hp => by
   rcases List.mem_append.mp hp with z | z
   ·exact I'.pin p (List.mem_append_right _ z)
   ·rw [List.mem_singleton.mp z]
    exact ⟨ho, f1, f2, f3, nc⟩
  show wpAny (model X.prog X.w) X.A (assign (.Name y py) X.env (.ref D')) _ X.xe s'
  refine thn (za6 hNd hiy (.inl hy) (.inr hy) _ s' σ _ (.ref D') (.ref D') D.nx I'' rfl q) fun _ s'' ⟨σ3, H3, I3, q3⟩ => ?_
  obtain ⟨p1, p2, _⟩ := I3.pin (C, o) (List.mem_append_right _ (List.mem_append_right _ (List.mem_singleton.mpr rfl)))
  refine ⟨m, ⟨o, es, ep, p1, rest⟩, fun h' sb => ⟨σ3, H3, ?_, q3⟩⟩
  exact I3.unpinned.turned (t' := s''.toks) (it := C) (fun b o hb e => sb.extBut b o hb e) p2 f2 f4 f5 f6
 show wpAny (model X.prog X.w) X.A (comprehension _ _ _ _ _ _ _ _ >>= _) _ _ s
 exact wpAny_bind (thn fin fun _ s' q => wpAny_pure (wpAny_pure q))
end
section
variable {X : Cx}
theorem zoe (bs : List Bool) : ((List.range bs.length).all fun i => (bs[i]?).getD true) = bs.all id := by
 rw [Bool.eq_iff_iff, List.all_eq_true, List.all_eq_true]
 refine ⟨fun h b hb => ?_, fun h i hi => ?_⟩
 ·obtain ⟨i, hi, rfl⟩ := List.getElem_of_mem hb
  have := h i (List.mem_range.mpr hi)
  rw [List.getElem?_eq_getElem hi] at this
  exact this
 ·have hi' := List.mem_range.mp hi
  show (bs[i]?).getD true = true
  rw [List.getElem?_eq_getElem hi']
  exact h _ (List.getElem_mem hi')
theorem zk7 (hc : X.calm = true) : zd4 X (.builtin "all") (fun xs H Q => ∃ (p : Addr) (bs : List Bool), xs = [.ref p] ∧ SqL X.K H p (bs.map V.bl) ∧ Q (.bl (bs.all id)) H) := by
 intro pins s σ H xs us Q I r h
 obtain ⟨p, bs, rfl, hq, q⟩ := h
 obtain ⟨u, rfl, rx⟩ := zfz r
 cases rx
 obtain ⟨its, rv, pl, hz⟩ := I.list hq
 have hl := pl.isList
 have hlt : p < s.heap.objs.size := by obtain ⟨_, e, _⟩ := hl; exact Heap.lt_size e
 refine call_all_walk (wpAny_pyIter_list hl ?_)
 refine ⟨s.heap.objs.size, [s.heap.objs.size, p], [s.heap.objs.size], its.toArray.size, _, _, fun i => (bs[i]?).getD true, rfl, Walks.list (A := X.A.in1) (I.ok.hd hc) _ p (Nat.ne_of_lt hlt) its.toArray,
  ⟨⟨_, Heap.get?_push_size _ rfl, rfl, rfl⟩, hl.push _⟩, fun i v s' Q' E' hP hQ => ?_, fun h' tk hk => ?_⟩
 ·have e : its[i]? = some v := by simpa using hP
  have hlen := rv.length
  rw [List.length_map] at hlen
  have hi : i < bs.length := by
   have := (List.getElem?_eq_some_iff.mp e).1
   omega
  obtain ⟨u, hu, ru⟩ := rv.get (i := i) (x := .bl bs[i]) (by rw [List.getElem?_map, List.getElem?_eq_getElem hi]; rfl)
  rw [e] at hu
  cases hu
  cases (show v = Value.bool bs[i] from ru)
  dsimp only at hQ
  rw [List.getElem?_eq_getElem hi] at hQ
  exact wpAny_truthy_bool hQ
 ·have hlen := rv.length
  rw [List.length_map] at hlen
  have e : ((List.range its.toArray.size).all fun i => (bs[i]?).getD true) = bs.all id := by
   rw [List.size_toArray, ← hlen]
   exact zoe bs
  rw [e]
  refine ⟨.bl _, H, I.kept (t' := tk) fun b o eb => hk b o (fun hm => ?_) (Heap.get?_push_of_some _ eb), rfl, q⟩
  rw [List.mem_singleton.mp hm] at eb
  exact Nat.lt_irrefl _ (Heap.lt_size eb)
end
end L2
set_option maxRecDepth 100000
set_option maxHeartbeats 4000000
namespace L2
open PySem PySem.Spec PyProof.Rows
section
variable {prog : Program} {w : World} {A : Around} {E : Value → Shared → Prop} {s : Shared}
open AutoSeq1 (wpAny_loadPart') in
end
section
variable {X : Cx} {pins : List (Addr × Obj)} {σ : St} {H : Hp} {s : Shared}
end
end L2
set_option maxRecDepth 100000
set_option maxHeartbeats 4000000
namespace L2
open PySem PySem.Spec PyProof.Rows
section
variable {X : Cx}
theorem zn3 {P : Nat → Value → Prop} {f : Nat → V} (hP : ∀ i v, P i v → RelV (f i) v) : ∀ (n k : Nat) (l : List Value), l.length = n → (∀ j v, l[j]? = some v → P (k + j) v) → Vals ((List.range' k n).map f) l
 | 0, k, [], _, _ => .nil
 | n + 1, k, v :: r, hl, h => by
  rw [List.range'_succ, List.map_cons]
  refine .cons (hP _ _ (h 0 v rfl)) (zn3 hP n (k + 1) r (by simpa using hl) fun j v' e => ?_)
  have := h (j + 1) v' (by simpa using e)
  rw [show k + 1 + j = k + (j + 1) by omega]
  exact this
 | 0, _, _ :: _, hl, _ => by simp at hl
 | n + 1, _, [], hl, _ => by simp at hl
theorem zjg (hc : X.calm = true) : zd4 X (.type "list") (fun xs H Q => ∃ (p : Addr) (lo hi : Int), xs = [.ref p] ∧ H p = some (.rng lo hi) ∧ -(2 ^ 62) ≤ lo ∧ lo < 2 ^ 62 ∧ -(2 ^ 62) ≤ hi ∧ hi < 2 ^ 62 ∧ (hi - lo).toNat ≤ 1000 ∧ ∀ l, H l = none → Q (.ref l) (upd H l (.lst ((List.range' 0 (hi - lo).toNat).map fun i : Nat => V.int (lo + i))))) := by
 intro pins s σ H xs us Q I r h
 obtain ⟨p, lo, hi, rfl, hp, b1, b2, b3, b4, hz, q⟩ := h
 obtain ⟨u, rfl, rx⟩ := zfz r
 cases rx
 obtain ⟨t, u, v, e⟩ := (show ObjOk X.prog X.w H s.heap p (.rng lo hi) from I.hok p _ hp)
 have hn : Builtin.Range.rangeSize lo hi 1 = (((hi - lo).toNat : Nat) : Int) := by
  rw [rangeSize_one]
  split <;> omega
 refine call_list_range (I.ok.hd hc) e (small_one b1 b2 b3 b4) hn (Nat.le_trans hz (by decide)) fun g tk acc c kk eg hi' => ?_
 obtain ⟨sz, it⟩ := hi'
 have vv : Vals ((List.range' 0 (hi - lo).toNat).map fun i : Nat => V.int (lo + i)) acc.toList := by
  refine zn3 (P := fun i v => ∃ t, v = .int (lo + i * 1) t) (fun i v hv => ?_) _ 0 acc.toList (by simpa using sz) fun j v ej => ?_
  ·obtain ⟨t, rfl⟩ := hv
   exact ⟨t, by rw [Int.mul_one]⟩
  ·have := it j v (by simpa using ej)
   rw [Nat.zero_add]
   exact this
 refine ⟨.ref s.heap.objs.size, _, I.laid (t' := tk) kk (Nat.le_refl _) (show ObjOk X.prog X.w _ _ _ (.lst _) from ⟨?_, acc.toList, c, vv, eg⟩), rfl, q _ (I.hok.fresh (Nat.le_refl _))⟩
 rw [List.length_map, List.length_range']
 exact Nat.le_of_lt (zcy hz)
open AutoSeq1 (wpAny_loadPart') in
theorem zda (hc : X.calm = true) : zd4 X (.builtin "sum") (fun xs H Q => ∃ (p : Addr) (ns : List Int), xs = [.ref p] ∧ SqL X.K H p (ns.map V.int) ∧ Q (.int ns.sum) H) := by
 intro pins s σ H xs us Q I r h
 obtain ⟨p, ns, rfl, hq, q⟩ := h
 obtain ⟨u, rfl, rx⟩ := zfz r
 cases rx
 obtain ⟨its, rv, pl, hz'⟩ := I.list hq
 have ia := zdv rv
 obtain ⟨ps, hx⟩ := ia.allInts.items
 have hl' : s.heap.IsList p (intItems ps) := hx ▸ pl.isList
 refine sum_intListG (I.ok.hd hc) hl' fun g tk t' hk => ?_
 have e1 : ns = ps.toList.map (·.1) := by
  rw [← nums_intItems, ← hx]
  exact (show numsOf its.toArray.toList = ns from ia.numsOf).symm
 have e2 : preSum (numAt ps) ps.size = ns.sum := by
  rw [preSum_eq, List.take_of_length_le (by simp), e1]
 rw [e2]
 exact ⟨.int _, H, I.kept (t' := tk) hk, ⟨t', rfl⟩, q⟩
end
section
variable {X : Cx} {K : PySem.W.Frag}
theorem ixT (h : X.K = K := by rfl) : IxR X (zt2 K) := h ▸ zkp
theorem ixL (h : X.K = K := by rfl) : IxR X (ztw K) := h ▸ zr2
theorem zfx (h : X.K = K := by rfl) : zd4 X (.builtin "len") (fun xs H Q => ∃ p ys, xs = [.ref p] ∧ (SqL K H p ys ∨ SqT K H p ys) ∧ Q (.int ys.length) H) := h ▸ zk1
end
mutual
def Dn (H : Hp) : PyData → V → Prop
 | .none, v => v = .non
 | .bool b, v => v = .bl b
 | .int i, v => v = .int i
 | .str x, v => v = .str x
 | .list ds, v => ∃ a xs, v = .ref a ∧ H a = some (.lst xs) ∧ DnL H ds xs
 | .tuple ds, v => ∃ a xs, v = .ref a ∧ H a = some (.tup xs) ∧ DnL H ds xs
 | .dict kvs, v => kvs = [] ∧ ∃ a, v = .ref a ∧ H a = some (.dK [])
def DnL (H : Hp) : List PyData → List V → Prop
 | [], xs => xs = []
 | d :: ds, xs => ∃ x r, xs = x :: r ∧ Dn H d x ∧ DnL H ds r
end
mutual
theorem Dn.same {H H' : Hp} (h : Same H H') : ∀ (d : PyData) (v : V), Dn H d v → Dn H' d v
 | .none, _, q => q
 | .bool _, _, q => q
 | .int _, _, q => q
 | .str _, _, q => q
 | .list ds, _, ⟨a, xs, e, q, r⟩ => ⟨a, xs, e, h _ _ q, DnL.same h ds xs r⟩
 | .tuple ds, _, ⟨a, xs, e, q, r⟩ => ⟨a, xs, e, h _ _ q, DnL.same h ds xs r⟩
 | .dict _, _, ⟨e, a, q, r⟩ => ⟨e, a, q, h _ _ r⟩
theorem DnL.same {H H' : Hp} (h : Same H H') : ∀ (ds : List PyData) (xs : List V), DnL H ds xs → DnL H' ds xs
 | [], _, q => q
 | d :: ds, _, ⟨x, r, e, q, z⟩ => ⟨x, r, e, Dn.same h d x q, DnL.same h ds r z⟩
end
theorem DnL.length {H : Hp} : ∀ {ds : List PyData} {xs : List V}, DnL H ds xs → ds.length = xs.length
 | [], _, q => by cases (show _ = [] from q); rfl
 | d :: ds, _, ⟨x, r, e, _, z⟩ => by rw [e, List.length_cons, List.length_cons, DnL.length z]
theorem DnL.get {H : Hp} : ∀ {ds : List PyData} {xs : List V} {i : Nat} {x : V}, DnL H ds xs → xs[i]? = some x → ∃ d, ds[i]? = some d ∧ Dn H d x
 | [], _, i, x, q, e => by rw [(show _ = [] from q)] at e; simp at e
 | d :: ds, _, 0, x, ⟨y, r, e, q, z⟩, h => by rw [e] at h; cases h; exact ⟨d, rfl, q⟩
 | d :: ds, _, i + 1, x, ⟨y, r, e, q, z⟩, h => by
  rw [e] at h
  obtain ⟨d', h1, h2⟩ := DnL.get (i := i) z (by simpa using h)
  exact ⟨d', by simpa using h1, h2⟩
theorem DnL.get' {H : Hp} : ∀ {ds : List PyData} {xs : List V} {i : Nat} {d : PyData}, DnL H ds xs → ds[i]? = some d → ∃ x, xs[i]? = some x ∧ Dn H d x
 | [], _, i, x, q, e => by simp at e
 | d :: ds, _, 0, x, ⟨y, r, e, q, z⟩, h => by cases h; exact ⟨y, by rw [e]; rfl, q⟩
 | d :: ds, _, i + 1, x, ⟨y, r, e, q, z⟩, h => by
  obtain ⟨d', h1, h2⟩ := DnL.get' (i := i) z (by simpa using h)
  exact ⟨d', by rw [e]; simpa using h1, h2⟩
theorem DnL.append {H : Hp} : ∀ {ds es : List PyData} {xs ys : List V}, DnL H ds xs → DnL H es ys → DnL H (ds ++ es) (xs ++ ys)
 | [], es, xs, ys, q, r => by rw [(show xs = [] from q)]; exact r
 | d :: ds, es, _, ys, ⟨x, t, e, q, z⟩, r => ⟨x, t ++ ys, by rw [e]; rfl, q, DnL.append z r⟩
mutual
theorem Dn.reads {X : Cx} {pins : List (Addr × Obj)} {σ : St} {H : Hp} {s : Shared} (I : Inv X pins σ H s) : ∀ (d : PyData) (v : V) (u : Value), Dn H d v → d.canLay0 = true → RelV v u → ∃ as, Reads s.heap u d as
 | .none, v, u, q, _, r => by cases (show v = .non from q); cases (show u = Value.none from r); exact ⟨_, .none⟩
 | .bool b, v, u, q, _, r => by cases (show v = .bl b from q); cases (show u = Value.bool b from r); exact ⟨_, .bool b⟩
 | .int i, v, u, q, _, r => by cases (show v = .int i from q); obtain ⟨t, rfl⟩ := (show ∃ t, u = Value.int i t from r); exact ⟨_, .int i t⟩
 | .str x, v, u, q, _, r => by cases (show v = .str x from q); obtain ⟨t, rfl⟩ := (show ∃ t, u = Value.str x t from r); exact ⟨_, .str x t⟩
 | .list ds, _, u, ⟨a, xs, rfl, q, z⟩, c, r => by
  cases (show u = Value.ref a from r)
  obtain ⟨_, its, n, rv, e⟩ := (show ObjOk X.prog X.w H s.heap a (.lst xs) from I.hok a _ q)
  obtain ⟨as, ra⟩ := DnL.reads I ds xs its z (by simpa [PyData.canLay0] using c) rv
  exact ⟨_, .list e rfl rfl (by simpa using ra)⟩
 | .tuple ds, _, u, ⟨a, xs, rfl, q, z⟩, c, r => by
  cases (show u = Value.ref a from r)
  obtain ⟨_, its, rv, o, e, hc, n, hd⟩ := (show ObjOk X.prog X.w H s.heap a (.tup xs) from I.hok a _ q)
  obtain ⟨as, ra⟩ := DnL.reads I ds xs its z (by simpa [PyData.canLay0] using c) rv
  exact ⟨_, .tuple e hc hd (by simpa using ra)⟩
 | .dict k, v, u, _, c, _ => by simp [PyData.canLay0] at c
theorem DnL.reads {X : Cx} {pins : List (Addr × Obj)} {σ : St} {H : Hp} {s : Shared} (I : Inv X pins σ H s) : ∀ (ds : List PyData) (xs : List V) (us : List Value), DnL H ds xs → PyData.canLayAll0 ds = true → Vals xs us → ∃ as, ReadsAll s.heap us ds as
 | [], xs, us, q, _, r => by
  cases (show xs = [] from q)
  cases r
  exact ⟨_, .nil⟩
 | d :: ds, _, us, ⟨x, t, rfl, q, z⟩, c, r => by
  cases r with
  | cons rx rt =>
   have c' : PyData.canLay0 d = true ∧ PyData.canLayAll0 ds = true := by simpa [PyData.canLayAll0] using c
   obtain ⟨a1, r1⟩ := Dn.reads I d x _ q c'.1 rx
   obtain ⟨a2, r2⟩ := DnL.reads I ds t _ z c'.2 rt
   exact ⟨_, .cons r1 r2⟩
end
theorem zmo {X : Cx} (hu : X.A.units + 64 < cLine) : OpR X (compareOp .NotEq) (fun x y H Q => ∃ d e : PyData, Dn H d x ∧ Dn H e y ∧ SeqAt.shaped d = true ∧ SeqAt.shaped e = true ∧ Q (.bl (!PyData.eqv d e)) H) := by
 intro pins s σ H x y v u Q I rx ry h
 obtain ⟨d, e, hd, he, sd, se, q⟩ := h
 obtain ⟨as, ra⟩ := Dn.reads I d x v hd (SeqAt.canLay_of_shaped sd) rx
 obtain ⟨bs, rb⟩ := Dn.reads I e y u he (SeqAt.canLay_of_shaped se) ry
 exact ne_dataH ra rb sd se hu ⟨.bl _, H, I, rfl, q⟩
mutual
theorem zq0 : ∀ d : PyData, d.canLay0 = true → PyData.eqv d d = true
 | .none, _ => by simp [PyData.eqv]
 | .bool _, _ => by simp [PyData.eqv]
 | .int _, _ => by simp [PyData.eqv]
 | .str _, _ => by simp [PyData.eqv]
 | .list ds, c => by simpa [PyData.eqv] using ze2 ds (by simpa [PyData.canLay0] using c)
 | .tuple ds, c => by simpa [PyData.eqv] using ze2 ds (by simpa [PyData.canLay0] using c)
 | .dict _, c => by simp [PyData.canLay0] at c
theorem ze2 : ∀ ds : List PyData, PyData.canLayAll0 ds = true → PyData.eqvAll ds ds = true
 | [], _ => by simp [PyData.eqvAll]
 | d :: ds, c => by
  have c' : PyData.canLay0 d = true ∧ PyData.canLayAll0 ds = true := by simpa [PyData.canLayAll0] using c
  simp [PyData.eqvAll, zq0 d c'.1, ze2 ds c'.2]
end
end L2
set_option maxRecDepth 100000
set_option maxHeartbeats 4000000
namespace Wd
open PySem L2
def isW : PyData → Bool
 | .int _ => true
 | _ => false
def within (d : PyData) (lo hi : Int) : Bool := match d with
 | .int i => decide (lo ≤ i) && decide (i ≤ hi)
 | _ => false
def zh6 (d : PyData) : Bool := match d with
 | .tuple ds => decide (0 < ds.length)
 | _ => false
def zbt (many : Int) : List PyData → Int → Bool
 | [], _ => true
 | .int i :: ds, last => decide (last + 1 ≤ i) && decide (i ≤ many - 1) && zbt many ds i
 | _ :: _, _ => false
def zva (many : Int) : PyData → PyData → Bool
 | .int up, .tuple ks => zbt many ks up
 | _, _ => false
def zuj (h : PyData) : PyData → Bool
 | .tuple ks => within h 1 ks.length
 | _ => false
def zvb (l : PyData) : PyData → Bool
 | .int hi => within l 0 hi
 | _ => false
def zc4 (many : Int) (d : PyData) : Bool := match d with
 | .tuple [u, l, h, k] => within u 0 (many - 1) && (zh6 k && (zva many u k && (zuj h k && zvb l h)))
 | _ => false
def zmy : PyData → PyData
 | .tuple (x :: _) => x
 | _ => .none
def ze5 : PyData → Bool
 | .tuple [_, n] => isW n
 | _ => false
def zli (many : Int) (d : PyData) : Bool := match d with
 | .tuple ds => decide (0 < ds.length) && ds.all ze5 && zbt many (ds.map zmy) (-1)
 | _ => false
def neI : PyData → PyData → Bool
 | .int i, .int j => !decide (i = j)
 | _, _ => false
def zmk (many : Int) (s : Str) (x y : PyData) : Bool := if s = ("most" : Str) then isW x && zli many y else if s = ("needs" : Str) ∨ s = ("bans" : Str) then within x 0 (many - 1) && (within y 0 (many - 1) && neI x y) else false
def ztv (many : Int) (x y : PyData) : PyData → Bool
 | .str s => zmk many s x y
 | _ => false
def zf0 (many : Int) (d : PyData) : Bool := match d with
 | .tuple [k, x, y] => ztv many x y k
 | _ => false
def toI : PyData → Int
 | .int i => i
 | _ => 0
def zix : PyData → List Int
 | .tuple [_, _, _, .tuple ks] => ks.map toI
 | _ => []
structure GoodB (many : Int) (bs : List PyData) : Prop where
 each : ∀ b ∈ bs, zc4 many b = true
 kids : (bs.flatMap zix).Perm ((List.range' 0 (many - 1).toNat).map fun i : Nat => (1 : Int) + i)
theorem zak {H : Hp} {p : Addr} (h : H p = none) (o : HO) : Same H (upd H p o) := zgq fun b u q => by rw [zan (zaq q h)]; exact q
theorem small {n : Nat} (h : n ≤ 1000) : n ≤ sizeLine := Nat.le_of_lt (zcy h)
theorem zdj {H : Hp} {i : Int} {v : V} (h : Dn H (.int i) v) : v = .int i := h
theorem zcu {H : Hp} {ds : List PyData} {v : V} (h : Dn H (.tuple ds) v) : ∃ a xs, v = .ref a ∧ H a = some (.tup xs) ∧ DnL H ds xs := h
theorem zkg {d : PyData} (h : isW d = true) : ∃ i, d = .int i := by
 cases d <;> first | exact ⟨_, rfl⟩ | cases h
theorem sqT {K : PySem.W.Frag} {H : Hp} {a : Addr} {xs : List V} (h : H a = some (.tup xs)) : SqT K H a xs := .inl (.inl h)
theorem at0 {x : V} {r : List V} : atI (x :: r) 0 = some x := zdz (j := 0) rfl
theorem at1 {x y : V} {r : List V} : atI (x :: y :: r) 1 = some y := zdz (j := 1) rfl
theorem at2 {x y z : V} {r : List V} : atI (x :: y :: z :: r) 2 = some z := zdz (j := 2) rfl
theorem at3 {x y z w : V} {r : List V} : atI (x :: y :: z :: w :: r) 3 = some w := zdz (j := 3) rfl
theorem zdt {d : PyData} {lo hi : Int} (h : within d lo hi = true) : ∃ i, d = .int i ∧ lo ≤ i ∧ i ≤ hi := by
 cases d with
 | int i =>
  have z : (decide (lo ≤ i) && decide (i ≤ hi)) = true := h
  simp only [Bool.and_eq_true, decide_eq_true_eq] at z
  exact ⟨i, rfl, z.1, z.2⟩
 | _ => cases h
theorem zlj {d : PyData} (h : zh6 d = true) : ∃ ds, d = .tuple ds ∧ 0 < ds.length := by
 cases d with
 | tuple ds => exact ⟨ds, rfl, of_decide_eq_true h⟩
 | _ => cases h
theorem zmj {H : Hp} : ∀ {ns : List Int} {xs : List V}, DnL H (ns.map PyData.int) xs → xs = ns.map V.int
 | [], xs, h => h
 | n :: r, _, ⟨x, t, rfl, hx, ht⟩ => by rw [zmj ht, zdj hx]; rfl
theorem zgj {H : Hp} : ∀ (ns : List Int), DnL H (ns.map PyData.int) (ns.map V.int)
 | [] => rfl
 | n :: r => ⟨_, _, rfl, rfl, zgj r⟩
end Wd
set_option maxRecDepth 100000
set_option maxHeartbeats 4000000
namespace Ow
open PySem L2 Wd
structure WoodAt (H : Hp) (wd : Addr) (many : Int) (xs ys : List V) : Prop where
 ex : ∃ tb tc, H wd = some (.tup [.int many, .ref tb, .ref tc]) ∧ H tb = some (.tup xs) ∧ H tc = some (.tup ys)
def zs7 : Sp := fun vs H Q _ => ∃ (wd : Addr) (many : Int) (xs ys : List V), vs = [.ref wd] ∧ WoodAt H wd many xs ys ∧ Q (.int ((xs.length : Int) + (ys.length : Int))) H
def zrm : Sp := fun vs H Q _ => ∃ (wd : Addr) (many : Int) (xs ys : List V) (t : Nat) (v : V), vs = [.ref wd, .int t] ∧ WoodAt H wd many xs ys ∧ (xs ++ ys)[t]? = some v ∧ Q v H
theorem zkx {α β : Type} {f : α → List β} {ds : List α} {i : Nat} {d : α} (h : ds[i]? = some d) : (ds.take (i + 1)).flatMap f = (ds.take i).flatMap f ++ f d := by
 obtain ⟨hi, e⟩ := List.getElem?_eq_some_iff.mp h
 rw [List.take_succ_eq_append_getElem hi, List.flatMap_append, e]
 simp
def zbs : Nat → PyData → Bool
 | _, .int _ => true
 | _, .str s => PyData.strOk s
 | n + 1, .tuple ds => decide (ds.length ≤ 1000) && ds.all (zbs n)
 | _, _ => false
theorem zpg {many one x : Int} (h1 : 1 < many) (h9 : many ≤ 9) (o0 : 0 ≤ one) (o1 : one < many) (x0 : 0 ≤ x) (x1 : x < many - 1) : 0 ≤ (one + 1 + x) % many ∧ (one + 1 + x) % many < many ∧ one ≠ (one + 1 + x) % many := by
 have e : many = 2 ∨ many = 3 ∨ many = 4 ∨ many = 5 ∨ many = 6 ∨ many = 7 ∨ many = 8 ∨ many = 9 := by omega
 rcases e with rfl | rfl | rfl | rfl | rfl | rfl | rfl | rfl <;> omega
theorem zmw : PyData.strOk ("most" : Str) = true := by decide +kernel
theorem zhl : PyData.strOk ("needs" : Str) = true := by decide +kernel
theorem znl : PyData.strOk ("bans" : Str) = true := by decide +kernel
structure zh5 (H : Hp) (i : Nat) (ps : List PyData) (xs : List V) : Prop where
 dn : DnL H ps xs
 ok : ps.all ze5 = true
 flat : ps.all (zbs 1) = true
 ris : zbt (i : Int) (ps.map zmy) (-1) = true
 few : ps.length ≤ i
theorem zd3 {m m' : Int} (h : m ≤ m') : ∀ {ks : List PyData} {u : Int}, zbt m ks u = true → zbt m' ks u = true
 | [], _, _ => rfl
 | .int i :: ks, u, z => by
  have z' : (decide (u + 1 ≤ i) && decide (i ≤ m - 1) && zbt m ks i) = true := z
  show (decide (u + 1 ≤ i) && decide (i ≤ m' - 1) && zbt m' ks i) = true
  simp only [Bool.and_eq_true, decide_eq_true_eq] at z' ⊢
  exact ⟨⟨z'.1.1, by omega⟩, zd3 h z'.2⟩
 | .none :: _, _, z => by cases z
 | .bool _ :: _, _, z => by cases z
 | .str _ :: _, _, z => by cases z
 | .list _ :: _, _, z => by cases z
 | .tuple _ :: _, _, z => by cases z
 | .dict _ :: _, _, z => by cases z
theorem zfe {m j : Int} (h : j < m) : ∀ {ks : List PyData} {u : Int}, zbt j ks u = true → u < j → zbt m (ks ++ [.int j]) u = true
 | [], u, _, hu => by
  show (decide (u + 1 ≤ j) && decide (j ≤ m - 1) && true) = true
  rw [decide_eq_true (by omega), decide_eq_true (by omega)]
  rfl
 | .int i :: ks, u, z, hu => by
  have z' : (decide (u + 1 ≤ i) && decide (i ≤ j - 1) && zbt j ks i) = true := z
  show (decide (u + 1 ≤ i) && decide (i ≤ m - 1) && zbt m (ks ++ [.int j]) i) = true
  simp only [Bool.and_eq_true, decide_eq_true_eq] at z' ⊢
  exact ⟨⟨z'.1.1, by omega⟩, zfe h z'.2 (by omega)⟩
 | .none :: _, _, z, _ => by cases z
 | .bool _ :: _, _, z, _ => by cases z
 | .str _ :: _, _, z, _ => by cases z
 | .list _ :: _, _, z, _ => by cases z
 | .tuple _ :: _, _, z, _ => by cases z
 | .dict _ :: _, _, z, _ => by cases z
theorem DnL.keepT {H H' : Hp} {f : PyData → Bool} (k : ∀ d v, f d = true → Dn H d v → Dn H' d v) : ∀ (ds : List PyData) (xs : List V), ds.all f = true → DnL H ds xs → DnL H' ds xs
 | [], _, _, q => q
 | d :: ds, _, c, ⟨x, r, e, q, z⟩ => by
  rw [List.all_cons, Bool.and_eq_true] at c
  exact ⟨x, r, e, k d x c.1 q, DnL.keepT k ds r c.2 z⟩
theorem Dn.keepT {H H' : Hp} (h : ∀ b xs, H b = some (.tup xs) → H' b = some (.tup xs)) : ∀ (n : Nat) (d : PyData) (v : V), zbs n d = true → Dn H d v → Dn H' d v
 | _, .int _, _, _, q => q
 | _, .str _, _, _, q => q
 | n + 1, .tuple ds, _, c, ⟨p, xs, e, q, z⟩ => ⟨p, xs, e, h _ _ q, DnL.keepT (Dn.keepT h n) ds xs ((Bool.and_eq_true _ _).mp c).2 z⟩
 | 0, .tuple ds, _, c, _ => by cases c
 | 0, .none, _, c, _ => by cases c
 | n + 1, .none, _, c, _ => by cases c
 | 0, .bool _, _, c, _ => by cases c
 | n + 1, .bool _, _, c, _ => by cases c
 | 0, .list _, _, c, _ => by cases c
 | n + 1, .list _, _, c, _ => by cases c
 | 0, .dict _, _, c, _ => by cases c
 | n + 1, .dict _, _, c, _ => by cases c
theorem zlr {H : Hp} {p : Addr} {xs ys : List V} (h : H p = some (.lst xs)) : ∀ b zs, H b = some (.tup zs) → upd H p (.lst ys) b = some (.tup zs) := fun b zs q => by
 rw [zan (zl6 q h (by intro z; cases z))]
 exact q
structure Grp where
 t : Addr
 up : Int
 l : Addr
 kids : List Int
structure GAt (H0 H : Hp) (g : Addr) (gs : List Grp) : Prop where
 at_ : H g = some (.lst (gs.map fun x => V.ref x.t))
 new : H0 g = none
 tup : ∀ x ∈ gs, H x.t = some (.tup [.int x.up, .ref x.l])
 lst : ∀ x ∈ gs, H x.l = some (.lst (x.kids.map V.int)) ∧ H0 x.l = none ∧ g ≠ x.l
 nd : (gs.map (·.l)).Nodup
structure GOk (k : Int) (gs : List Grp) : Prop where
 each : ∀ x ∈ gs, 0 ≤ x.up ∧ x.kids ≠ [] ∧ zbt k (x.kids.map PyData.int) x.up = true
 perm : (gs.flatMap (·.kids)).Perm ((List.range' 0 (k - 1).toNat).map fun i : Nat => (1 : Int) + i)
theorem GOk.few {k : Int} {gs : List Grp} (G : GOk k gs) : gs.length ≤ (k - 1).toNat := by
 have e := G.perm.length_eq
 rw [List.length_map, List.length_range'] at e
 rw [← e]
 have go : ∀ l : List Grp, (∀ x ∈ l, x.kids ≠ []) → l.length ≤ (l.flatMap (·.kids)).length := by
  intro l
  induction l with
  | nil => intro _; exact Nat.le_refl _
  | cons x r ih =>
   intro h
   rw [List.flatMap_cons, List.length_append, List.length_cons]
   have h1 := List.length_pos_iff.mpr (h x List.mem_cons_self)
   have h2 := ih fun y hy => h y (List.mem_cons_of_mem _ hy)
   omega
 exact go gs fun x hx => (G.each x hx).2.1
theorem zih (k : Nat) : ((List.range' 0 k).map fun i : Nat => (1 : Int) + i) ++ [((k : Int) + 1)] = (List.range' 0 (k + 1)).map fun i : Nat => (1 : Int) + i := by
 rw [List.range'_concat, List.map_append]
 simp
 omega
theorem GOk.new {k : Nat} {gs : List Grp} {t l : Addr} {u : Int} (G : GOk ((k : Int) + 1) gs) (u0 : 0 ≤ u) (u1 : u < (k : Int) + 1) : GOk ((k : Int) + 2) (gs ++ [⟨t, u, l, [(k : Int) + 1]⟩]) where
 each := fun x hx => by
  rcases List.mem_append.mp hx with z | z
  ·obtain ⟨a, b, c⟩ := G.each x z
   exact ⟨a, b, zd3 (by omega) c⟩
  ·rw [List.mem_singleton.mp z]
   refine ⟨u0, by simp, ?_⟩
   show (decide (u + 1 ≤ (k : Int) + 1) && decide ((k : Int) + 1 ≤ (k : Int) + 2 - 1) && true) = true
   rw [decide_eq_true (by omega), decide_eq_true (by omega)]
   rfl
 perm := by
  rw [List.flatMap_append]
  have e : ((k : Int) + 2 - 1).toNat = k + 1 := by omega
  have e' : ((k : Int) + 1 - 1).toNat = k := by omega
  have p := G.perm
  rw [e'] at p
  rw [e, ← zih]
  exact p.append (by simp)
theorem GOk.put {k : Nat} {pre post : List Grp} {x : Grp} (G : GOk ((k : Int) + 1) (pre ++ x :: post)) : GOk ((k : Int) + 2) (pre ++ ⟨x.t, x.up, x.l, x.kids ++ [(k : Int) + 1]⟩ :: post) where
 each := fun y hy => by
  have old : ∀ z ∈ pre ++ x :: post, 0 ≤ z.up ∧ z.kids ≠ [] ∧ zbt ((k : Int) + 2) (z.kids.map PyData.int) z.up = true := fun z hz => by
   obtain ⟨a, b, c⟩ := G.each z hz
   exact ⟨a, b, zd3 (by omega) c⟩
  rcases List.mem_append.mp hy with z | z
  ·exact old y (List.mem_append_left _ z)
  ·rcases List.mem_cons.mp z with z | z
   ·subst z
    obtain ⟨a, b, c⟩ := G.each x (by simp)
    refine ⟨a, by simp, ?_⟩
    show zbt ((k : Int) + 2) ((x.kids ++ [(k : Int) + 1]).map PyData.int) x.up = true
    rw [List.map_append]
    refine zfe (by omega) c ?_
    cases hk : x.kids with
    | nil => exact absurd hk b
    | cons n r =>
     rw [hk] at c
     have c' : (decide (x.up + 1 ≤ n) && decide (n ≤ (k : Int) + 1 - 1) && zbt ((k : Int) + 1) (r.map PyData.int) n) = true := c
     simp only [Bool.and_eq_true, decide_eq_true_eq] at c'
     omega
   ·exact old y (by simp [z])
 perm := by
  have e : ((k : Int) + 2 - 1).toNat = k + 1 := by omega
  have e' : ((k : Int) + 1 - 1).toNat = k := by omega
  have p := G.perm
  rw [e'] at p
  rw [e, ← zih]
  refine List.Perm.trans ?_ (p.append (List.Perm.refl [((k : Int) + 1)]))
  rw [List.flatMap_append, List.flatMap_append, List.flatMap_cons, List.flatMap_cons, List.append_assoc, List.append_assoc, List.append_assoc]
  exact (List.Perm.refl _).append ((List.Perm.refl _).append List.perm_append_comm)
theorem GAt.put {H0 H : Hp} {g : Addr} {pre post : List Grp} {x : Grp} {k : Int} (G : GAt H0 H g (pre ++ x :: post)) : GAt H0 (upd H x.l (.lst (x.kids.map V.int ++ [.int k]))) g (pre ++ ⟨x.t, x.up, x.l, x.kids ++ [k]⟩ :: post) := by
 have hx : x ∈ pre ++ x :: post := by simp
 obtain ⟨a, b, c⟩ := G.lst x hx
 have nd := G.nd
 rw [List.map_append, List.map_cons] at nd
 obtain ⟨_, n2, n3⟩ := List.nodup_append.mp nd
 have oth : ∀ y, y ∈ pre ∨ y ∈ post → y.l ≠ x.l := fun y hy e => by
  rcases hy with hy | hy
  ·exact n3 y.l (List.mem_map.mpr ⟨y, hy, rfl⟩) x.l (by simp) e
  ·exact (List.nodup_cons.mp n2).1 (by rw [← e]; exact List.mem_map.mpr ⟨y, hy, rfl⟩)
 have mem : ∀ y ∈ pre ++ (⟨x.t, x.up, x.l, x.kids ++ [k]⟩ : Grp) :: post, (y ∈ pre ∨ y ∈ post) ∨ y = ⟨x.t, x.up, x.l, x.kids ++ [k]⟩ := fun y hy => by
  rcases List.mem_append.mp hy with z | z
  ·exact .inl (.inl z)
  ·rcases List.mem_cons.mp z with z | z
   ·exact .inr z
   ·exact .inl (.inr z)
 have old : ∀ y, y ∈ pre ∨ y ∈ post → y ∈ pre ++ x :: post := fun y hy => by
  rcases hy with z | z <;> simp [z]
 refine ⟨?_, G.new, fun y hy => ?_, fun y hy => ?_, ?_⟩
 ·rw [zan c, G.at_, List.map_append, List.map_append, List.map_cons, List.map_cons]
 ·rcases mem y hy with z | rfl
  ·rw [zan (zl6 (G.tup y (old y z)) a (by intro q; cases q))]
   exact G.tup y (old y z)
  ·show upd H x.l _ x.t = _
   rw [zan (zl6 (G.tup x hx) a (by intro q; cases q))]
   exact G.tup x hx
 ·rcases mem y hy with z | rfl
  ·obtain ⟨a', b', c'⟩ := G.lst y (old y z)
   refine ⟨?_, b', c'⟩
   rw [zan (oth y z)]
   exact a'
  ·refine ⟨?_, b, c⟩
   show upd H x.l _ x.l = _
   rw [zaf, List.map_append]
   rfl
 ·have e : (pre ++ (⟨x.t, x.up, x.l, x.kids ++ [k]⟩ : Grp) :: post).map (·.l) = (pre ++ x :: post).map (·.l) := by
   rw [List.map_append, List.map_append, List.map_cons, List.map_cons]
  rw [e]
  exact G.nd
theorem GAt.same {H0 H H' : Hp} {g : Addr} {gs : List Grp} (G : GAt H0 H g gs) (s : Same H H') : GAt H0 H' g gs :=
 ⟨s _ _ G.at_, G.new, fun x hx => s _ _ (G.tup x hx), fun x hx => ⟨s _ _ (G.lst x hx).1, (G.lst x hx).2⟩, G.nd⟩
def zf9 (u lo hi : Int) (kids : List Int) : PyData := .tuple [.int u, .int lo, .int hi, .tuple (kids.map PyData.int)]
theorem zm1 {m u lo hi : Int} {kids : List Int} (u0 : 0 ≤ u) (ne : kids ≠ []) (r : zbt m (kids.map PyData.int) u = true) (l0 : 0 ≤ lo) (l1 : lo ≤ hi) (h0 : 1 ≤ hi) (h1 : hi ≤ kids.length) : zc4 m (zf9 u lo hi kids) = true := by
 have u1 : u ≤ m - 1 := by
  cases hk : kids with
  | nil => exact absurd hk ne
  | cons n t =>
   rw [hk] at r
   have c' : (decide (u + 1 ≤ n) && decide (n ≤ m - 1) && zbt m (t.map PyData.int) n) = true := r
   simp only [Bool.and_eq_true, decide_eq_true_eq] at c'
   omega
 show (within (.int u) 0 (m - 1) && (zh6 (.tuple (kids.map PyData.int)) && (zbt m (kids.map PyData.int) u && (within (.int hi) 1 ((kids.map PyData.int).length : Nat) && within (.int lo) 0 hi)))) = true
 have e1 : within (.int u) 0 (m - 1) = true := by
  show (decide (0 ≤ u) && decide (u ≤ m - 1)) = true
  rw [decide_eq_true u0, decide_eq_true u1]
  rfl
 have e2 : zh6 (.tuple (kids.map PyData.int)) = true := by
  refine decide_eq_true ?_
  rw [List.length_map]
  exact List.length_pos_iff.mpr ne
 have e3 : within (.int hi) 1 ((kids.map PyData.int).length : Nat) = true := by
  show (decide (1 ≤ hi) && decide (hi ≤ ((kids.map PyData.int).length : Nat))) = true
  rw [List.length_map, decide_eq_true h0, decide_eq_true h1]
  rfl
 have e4 : within (.int lo) 0 hi = true := by
  show (decide (0 ≤ lo) && decide (lo ≤ hi)) = true
  rw [decide_eq_true l0, decide_eq_true l1]
  rfl
 rw [e1, e2, r, e3, e4]
 rfl
theorem zni (kids : List Int) : (kids.map PyData.int).all (zbs 1) = true := by
 rw [List.all_eq_true]
 intro x hx
 obtain ⟨i, _, rfl⟩ := List.mem_map.mp hx
 rfl
theorem zib (u lo hi : Int) (kids : List Int) (h : kids.length ≤ 1000) : zbs 3 (zf9 u lo hi kids) = true := by
 show (true && (true && (true && (true && ((decide ((kids.map PyData.int).length ≤ 1000) && (kids.map PyData.int).all (zbs 1)) && true))))) = true
 rw [zni, List.length_map, decide_eq_true h]
 rfl
theorem zfa (u lo hi : Int) (kids : List Int) : zix (zf9 u lo hi kids) = kids := by
 show (kids.map PyData.int).map toI = kids
 rw [List.map_map]
 have : (toI ∘ PyData.int) = id := rfl
 rw [this, List.map_id]
end Ow
namespace Wd
inductive Tie where
 | bough (u : Nat) (lo hi : Int) (ks : List Nat)
 | needs (a b : Nat)
 | bans (a b : Nat)
 | most (top : Int) (ps : List (Nat × Int))
def cnt (ks : List Nat) (s : Nat) : Nat := (ks.filter fun k => s.testBit k).length
def zff (ps : List (Nat × Int)) (f : Nat × Int → Bool) : Int := ((ps.filter f).map (·.2)).sum
def Tie.keep : Tie → Nat → Bool
 | .bough u lo hi ks, s => if s.testBit u = true then decide (lo ≤ (cnt ks s : Int)) && decide ((cnt ks s : Int) ≤ hi) else decide (cnt ks s = 0)
 | .needs a b, s => !s.testBit a || s.testBit b
 | .bans a b, s => !s.testBit a || !s.testBit b
 | .most top ps, s => decide (zff ps (fun p => s.testBit p.1) ≤ top)
structure Tie.BoughOk (m u : Nat) (lo hi : Int) (ks : List Nat) : Prop where
 um : u < m
 ks0 : ks ≠ []
 up : ∀ k ∈ ks, u < k ∧ k < m
 ris : ks.Pairwise (· < ·)
 few : ks.length ≤ m
 lo0 : 0 ≤ lo
 lohi : lo ≤ hi
 hi1 : 1 ≤ hi
 hik : hi ≤ ks.length
theorem Tie.BoughOk.nd {m u : Nat} {lo hi : Int} {ks : List Nat} (h : Tie.BoughOk m u lo hi ks) : ks.Nodup := h.ris.imp fun a => Nat.ne_of_lt a
def Tie.Ok (m : Nat) : Tie → Prop
 | .bough u lo hi ks => Tie.BoughOk m u lo hi ks
 | .needs a b => a < m ∧ b < m ∧ a ≠ b
 | .bans a b => a < m ∧ b < m ∧ a ≠ b
 | .most _ ps => ps ≠ [] ∧ (∀ p ∈ ps, p.1 < m) ∧ (ps.map (·.1)).Pairwise (· < ·) ∧ ps.length ≤ m
def InS (y n s : Nat) : Prop := (∀ k, y.testBit k = true → s.testBit k = true) ∧ ∀ k, n.testBit k = true → s.testBit k = false
def zea (ps : List (Nat × Int)) (y n : Nat) : Int := zff ps fun p => y.testBit p.1 || (decide (p.2 < 0) && !n.testBit p.1)
def zd9 (ps : List (Nat × Int)) (y n : Nat) : Int := zff ps fun p => y.testBit p.1 || (decide (0 < p.2) && !n.testBit p.1)
def Tie.sb : Tie → Nat → Nat → Bool
 | .needs a b, y, n => y.testBit a && n.testBit b
 | .bans a b, y, n => y.testBit a && y.testBit b
 | .most top ps, y, n => decide (top < zea ps y n)
 | .bough u lo hi ks, y, n => !(!n.testBit u && (decide ((cnt ks y : Int) ≤ hi) && decide (lo ≤ (ks.length : Int) - cnt ks n))) && !(!y.testBit u && decide (cnt ks y = 0))
def Tie.sk : Tie → Nat → Nat → Bool
 | .needs a b, y, n => n.testBit a || y.testBit b
 | .bans a b, y, n => n.testBit a || n.testBit b
 | .most top ps, y, n => decide (zd9 ps y n ≤ top)
 | .bough u lo hi ks, y, n => (n.testBit u || (decide (lo ≤ (cnt ks y : Int)) && decide ((ks.length : Int) - cnt ks n ≤ hi))) && (y.testBit u || decide ((ks.length : Int) - cnt ks n = 0))
theorem zr1 {u : Nat} {lo hi : Int} {ks : List Nat} {s : Nat} (h : s.testBit u = true) : (Tie.bough u lo hi ks).keep s = (decide (lo ≤ (cnt ks s : Int)) && decide ((cnt ks s : Int) ≤ hi)) := by
 simp only [Tie.keep, h, if_true]
theorem zrn {u : Nat} {lo hi : Int} {ks : List Nat} {s : Nat} (h : ¬ s.testBit u = true) : (Tie.bough u lo hi ks).keep s = decide (cnt ks s = 0) := by
 simp only [Tie.keep, if_neg h]
theorem zjt (p : Nat × Int) (r : List (Nat × Int)) (f : Nat × Int → Bool) : zff (p :: r) f = (if f p = true then p.2 else 0) + zff r f := by
 unfold zff
 by_cases h : f p = true
 ·rw [List.filter_cons_of_pos h, if_pos h]; simp
 ·rw [List.filter_cons_of_neg h, if_neg h]; simp
theorem zj3 {f g : Nat × Int → Bool} : ∀ {ps : List (Nat × Int)}, (∀ p ∈ ps, (if f p = true then p.2 else 0) ≤ (if g p = true then p.2 else 0)) → zff ps f ≤ zff ps g
 | [], _ => Int.le_refl _
 | p :: r, h => by
  rw [zjt, zjt]
  have h1 := h p List.mem_cons_self
  have h2 := zj3 (ps := r) fun q hq => h q (List.mem_cons_of_mem _ hq)
  omega
theorem zj9 {f g : Nat × Int → Bool} {ps : List (Nat × Int)} (h : ∀ p ∈ ps, f p = g p) : zff ps f = zff ps g := by
 unfold zff
 rw [List.filter_congr h]
theorem zc3 (k : Nat) (r : List Nat) (s : Nat) : cnt (k :: r) s = (if s.testBit k = true then 1 else 0) + cnt r s := by
 unfold cnt
 by_cases h : s.testBit k = true
 ·rw [List.filter_cons_of_pos (p := fun k => s.testBit k) h, if_pos h, List.length_cons]; omega
 ·rw [List.filter_cons_of_neg (p := fun k => s.testBit k) h, if_neg h]; omega
theorem zfm {ks : List Nat} {s t : Nat} (h : ∀ k ∈ ks, s.testBit k = t.testBit k) : cnt ks s = cnt ks t := by
 unfold cnt
 rw [List.filter_congr h]
theorem zi8 {s t : Nat} : ∀ {ks : List Nat}, (∀ k ∈ ks, s.testBit k = true → t.testBit k = true) → cnt ks s ≤ cnt ks t
 | [], _ => Nat.le_refl _
 | k :: r, h => by
  rw [zc3, zc3]
  have h2 := zi8 (ks := r) fun q hq => h q (List.mem_cons_of_mem _ hq)
  have h1 := h k List.mem_cons_self
  by_cases c : s.testBit k = true
  ·rw [if_pos c, if_pos (h1 c)]; omega
  ·rw [if_neg c]; omega
theorem zft {s n : Nat} : ∀ {ks : List Nat}, (∀ k ∈ ks, n.testBit k = true → s.testBit k = false) → cnt ks s + cnt ks n ≤ ks.length
 | [], _ => Nat.le_refl _
 | k :: r, h => by
  rw [zc3, zc3, List.length_cons]
  have h2 := zft (ks := r) fun q hq => h q (List.mem_cons_of_mem _ hq)
  have h1 := h k List.mem_cons_self
  by_cases c : n.testBit k = true
  ·rw [h1 c, if_pos c]; simp; omega
  ·rw [if_neg c]; split <;> omega
def zb2 : List Nat → Nat
 | [] => 0
 | k :: r => zb2 r ||| 2 ^ k
theorem zg4 (j : Nat) : ∀ l : List Nat, (zb2 l).testBit j = decide (j ∈ l)
 | [] => by simp [zb2]
 | k :: r => by
  rw [zb2, Nat.testBit_or, zg4 j r, Nat.testBit_two_pow]
  by_cases h : k = j
  ·subst h; simp
  ·have h' : j ≠ k := fun z => h z.symm
   simp [h, h']
theorem zjq {ps : List (Nat × Int)} (h : (ps.map (·.1)).Nodup) {p q : Nat × Int} (hp : p ∈ ps) (hq : q ∈ ps) (e : p.1 = q.1) : p = q := by
 induction ps with
 | nil => cases hp
 | cons x r ih =>
  rw [List.map_cons, List.nodup_cons] at h
  rcases List.mem_cons.mp hp with e1 | hp
  ·rcases List.mem_cons.mp hq with e2 | hq
   ·rw [e1, e2]
   ·exact absurd (show x.1 ∈ r.map (·.1) from List.mem_map.mpr ⟨q, hq, by rw [← e1, e]⟩) h.1
  ·rcases List.mem_cons.mp hq with e2 | hq
   ·exact absurd (show x.1 ∈ r.map (·.1) from List.mem_map.mpr ⟨p, hp, by rw [← e2, e]⟩) h.1
   ·exact ih h.2 hp hq
theorem zi5 {m : Nat} {t : Tie} (ok : t.Ok m) {s s' : Nat} (h : ∀ k, k < m → s.testBit k = s'.testBit k) : t.keep s = t.keep s' := by
 cases t with
 | bough u lo hi ks =>
  have e : cnt ks s = cnt ks s' := zfm fun k hk => h k (ok.up k hk).2
  simp only [Tie.keep]
  rw [e, h u ok.um]
 | needs a b => simp only [Tie.keep]; rw [h a ok.1, h b ok.2.1]
 | bans a b => simp only [Tie.keep]; rw [h a ok.1, h b ok.2.1]
 | most top ps =>
  simp only [Tie.keep]
  rw [zj9 fun p hp => h p.1 (ok.2.1 p hp)]
theorem zc2 {y n : Nat} {l : List Nat} (d : ∀ k, y.testBit k = true → n.testBit k = false) (h : ∀ k ∈ l, n.testBit k = false) : InS y n (y ||| zb2 l) := by
 refine ⟨fun k hk => ?_, fun k hk => ?_⟩
 ·rw [Nat.testBit_or, hk, Bool.true_or]
 ·rw [Nat.testBit_or, zg4]
  have h1 : y.testBit k = false := by
   cases e : y.testBit k with
   | false => rfl
   | true => rw [d k e] at hk; cases hk
  have h2 : ¬ k ∈ l := fun z => by rw [h k z] at hk; cases hk
  rw [h1, decide_eq_false h2]; rfl
theorem zbm (y : Nat) (l : List Nat) (k : Nat) : (y ||| zb2 l).testBit k = (y.testBit k || decide (k ∈ l)) := by
 rw [Nat.testBit_or, zg4]
theorem zfj {y : Nat} : ∀ {ks : List Nat}, ks.Nodup → ∀ c : Nat, cnt ks y ≤ c → ∀ n : Nat, (∀ k, y.testBit k = true → n.testBit k = false) → c + cnt ks n ≤ ks.length →
  ∃ l : List Nat, (∀ k ∈ l, k ∈ ks ∧ n.testBit k = false) ∧ cnt ks (y ||| zb2 l) = c
 | [], _, c, h1, n, _, h2 => ⟨[], (fun _ z => nomatch z), by simp [cnt] at h2 ⊢; omega⟩
 | k :: r, nd, c, h1, n, d, h2 => by
  obtain ⟨nk, nr⟩ := List.nodup_cons.mp nd
  rw [zc3] at h1 h2
  rw [List.length_cons] at h2
  by_cases hy : y.testBit k = true
  ·rw [if_pos hy] at h1
   have hn := d k hy
   rw [hn] at h2
   obtain ⟨l, hl, e⟩ := zfj nr (c - 1) (by omega) n d (by simp at h2; omega)
   refine ⟨l, fun j hj => ⟨List.mem_cons_of_mem _ (hl j hj).1, (hl j hj).2⟩, ?_⟩
   rw [zc3, e, zbm, hy, Bool.true_or, if_pos rfl]
   omega
  ·rw [if_neg hy] at h1
   by_cases hn : n.testBit k = true
   ·rw [if_pos hn] at h2
    obtain ⟨l, hl, e⟩ := zfj nr c (by omega) n d (by omega)
    refine ⟨l, fun j hj => ⟨List.mem_cons_of_mem _ (hl j hj).1, (hl j hj).2⟩, ?_⟩
    have : ¬ k ∈ l := fun z => nk (hl k z).1
    rw [zc3, e, zbm, Bool.eq_false_iff.mpr hy, decide_eq_false this]
    simp
   ·rw [if_neg hn] at h2
    by_cases full : c + cnt r n ≤ r.length
    ·obtain ⟨l, hl, e⟩ := zfj nr c (by omega) n d full
     refine ⟨l, fun j hj => ⟨List.mem_cons_of_mem _ (hl j hj).1, (hl j hj).2⟩, ?_⟩
     have : ¬ k ∈ l := fun z => nk (hl k z).1
     rw [zc3, e, zbm, Bool.eq_false_iff.mpr hy, decide_eq_false this]
     simp
    ·have hc : cnt r y + cnt r n ≤ r.length := zft fun j _ hj => by
      cases e : y.testBit j with
      | false => rfl
      | true => rw [d j e] at hj; cases hj
     obtain ⟨l, hl, e⟩ := zfj nr (c - 1) (by omega) n d (by omega)
     refine ⟨k :: l, fun j hj => ?_, ?_⟩
     ·rcases List.mem_cons.mp hj with rfl | z
      ·exact ⟨List.mem_cons_self, Bool.eq_false_iff.mpr hn⟩
      ·exact ⟨List.mem_cons_of_mem _ (hl j z).1, (hl j z).2⟩
     ·have e2 : cnt r (y ||| zb2 (k :: l)) = cnt r (y ||| zb2 l) := zfm fun j hj => by
       have : j ≠ k := fun z => nk (z ▸ hj)
       rw [zbm, zbm]
       simp [this]
      rw [zc3, e2, e, zbm, decide_eq_true List.mem_cons_self, Bool.or_true, if_pos rfl]
      omega
theorem zqa {m : Nat} {t : Tie} (ok : t.Ok m) {y n : Nat} (d : ∀ k, y.testBit k = true → n.testBit k = false) : t.sb y n = true ↔ ∀ s, InS y n s → t.keep s = false := by
 have dn : ∀ k, n.testBit k = true → y.testBit k = false := fun k hk => by
  cases e : y.testBit k with
  | false => rfl
  | true => rw [d k e] at hk; cases hk
 cases t with
 | needs a b =>
  constructor
  ·intro h s hs
   have h' : (y.testBit a && n.testBit b) = true := h
   rw [Bool.and_eq_true] at h'
   show (!s.testBit a || s.testBit b) = false
   rw [hs.1 a h'.1, hs.2 b h'.2]; rfl
  ·intro h
   show (y.testBit a && n.testBit b) = true
   cases e1 : y.testBit a with
   | false =>
    have hh := h y ⟨fun _ z => z, dn⟩
    have h2 : (!y.testBit a || y.testBit b) = false := hh
    rw [e1] at h2; cases h2
   | true =>
    cases e2 : n.testBit b with
    | true => rfl
    | false =>
     have h2 : (!(y ||| zb2 [b]).testBit a || (y ||| zb2 [b]).testBit b) = false := h _ (zc2 d fun k hk => by rw [List.mem_singleton.mp hk]; exact e2)
     rw [zbm y [b] b, decide_eq_true (List.mem_singleton.mpr rfl), Bool.or_true, Bool.or_true] at h2
     cases h2
 | bans a b =>
  constructor
  ·intro h s hs
   have h' : (y.testBit a && y.testBit b) = true := h
   rw [Bool.and_eq_true] at h'
   show (!s.testBit a || !s.testBit b) = false
   rw [hs.1 a h'.1, hs.1 b h'.2]; rfl
  ·intro h
   have h2 : (!y.testBit a || !y.testBit b) = false := h y ⟨fun _ z => z, dn⟩
   show (y.testBit a && y.testBit b) = true
   cases e1 : y.testBit a <;> cases e2 : y.testBit b <;> rw [e1, e2] at h2 <;> simp_all
 | most top ps =>
  constructor
  ·intro h s hs
   have h' : top < zea ps y n := of_decide_eq_true h
   refine decide_eq_false fun z => ?_
   have le : zea ps y n ≤ zff ps (fun p => s.testBit p.1) := zj3 fun p _ => by
    cases e1 : y.testBit p.1 with
    | true => rw [hs.1 _ e1]; simp
    | false =>
     cases e2 : n.testBit p.1 with
     | true => rw [hs.2 _ e2]; simp
     | false =>
      by_cases c : p.2 < 0
      ·simp [c]; split <;> omega
      ·simp [c]; split <;> omega
   omega
  ·intro h
   refine decide_eq_true ?_
   let l := (ps.filter fun p => decide (p.2 < 0) && !n.testBit p.1).map (·.1)
   have hl : ∀ k ∈ l, n.testBit k = false := fun k hk => by
    obtain ⟨p, hp, rfl⟩ := List.mem_map.mp hk
    have := (List.mem_filter.mp hp).2
    simp at this
    exact this.2
   have h2 : decide (zff ps (fun p => (y ||| zb2 l).testBit p.1) ≤ top) = false := h _ (zc2 d hl)
   have e : zff ps (fun p => (y ||| zb2 l).testBit p.1) = zea ps y n := zj9 fun p hp => by
    show (y ||| zb2 l).testBit p.1 = (y.testBit p.1 || (decide (p.2 < 0) && !n.testBit p.1))
    rw [zbm]
    congr 1
    by_cases c : (decide (p.2 < 0) && !n.testBit p.1) = true
    ·rw [c]
     exact decide_eq_true (List.mem_map.mpr ⟨p, List.mem_filter.mpr ⟨hp, c⟩, rfl⟩)
    ·rw [Bool.eq_false_iff.mpr c]
     refine decide_eq_false fun z => ?_
     obtain ⟨q, hq, e⟩ := List.mem_map.mp z
     have hq' := List.mem_filter.mp hq
     have : q = p := zjq (ok.2.2.1.imp fun a => Nat.ne_of_lt a) hq'.1 hp e
     rw [this] at hq'
     exact c hq'.2
   rw [e] at h2
   have := of_decide_eq_false h2
   omega
 | bough u lo hi ks =>
  have c2 : cnt ks y + cnt ks n ≤ ks.length := zft fun j _ hj => dn j hj
  have uk : ¬ u ∈ ks := fun z => Nat.lt_irrefl _ (ok.up u z).1
  constructor
  ·intro h s hs
   have h' : (!(!n.testBit u && (decide ((cnt ks y : Int) ≤ hi) && decide (lo ≤ (ks.length : Int) - cnt ks n))) && !(!y.testBit u && decide (cnt ks y = 0))) = true := h
   have g1 : cnt ks y ≤ cnt ks s := zi8 fun k _ hk => hs.1 k hk
   have g2 : cnt ks s + cnt ks n ≤ ks.length := zft fun k _ hk => hs.2 k hk
   show (if s.testBit u = true then decide (lo ≤ (cnt ks s : Int)) && decide ((cnt ks s : Int) ≤ hi) else decide (cnt ks s = 0)) = false
   rw [Bool.and_eq_true] at h'
   by_cases su : s.testBit u = true
   ·rw [if_pos su]
    have nu : n.testBit u = false := by
     cases e : n.testBit u with
     | false => rfl
     | true => rw [hs.2 u e] at su; cases su
    have h1 := h'.1
    rw [nu] at h1
    simp at h1
    by_cases z : (cnt ks y : Int) ≤ hi
    ·rw [decide_eq_false (show ¬ lo ≤ (cnt ks s : Int) by omega), Bool.false_and]
    ·rw [decide_eq_false (show ¬ (cnt ks s : Int) ≤ hi by omega), Bool.and_false]
   ·rw [if_neg su]
    have yu : y.testBit u = false := by
     cases e : y.testBit u with
     | false => rfl
     | true => exact absurd (hs.1 u e) su
    have h2 := h'.2
    rw [yu] at h2
    simp at h2
    exact decide_eq_false (by omega)
  ·intro h
   show (!(!n.testBit u && (decide ((cnt ks y : Int) ≤ hi) && decide (lo ≤ (ks.length : Int) - cnt ks n))) && !(!y.testBit u && decide (cnt ks y = 0))) = true
   rw [Bool.and_eq_true]
   constructor
   ·cases e : (!n.testBit u && (decide ((cnt ks y : Int) ≤ hi) && decide (lo ≤ (ks.length : Int) - cnt ks n))) with
    | false => rfl
    | true =>
     exfalso
     simp only [Bool.and_eq_true, decide_eq_true_eq, Bool.not_eq_true'] at e
     obtain ⟨nu, e1, e2⟩ := e
     have hl0 := ok.lo0
     have hlh := ok.lohi
     obtain ⟨l, hl, ec⟩ := zfj (Tie.BoughOk.nd ok) (max (cnt ks y) lo.toNat) (Nat.le_max_left _ _) n d (by omega)
     have hk := h (y ||| zb2 (u :: l)) (zc2 d fun k hk => by
      rcases List.mem_cons.mp hk with rfl | z
      ·exact nu
      ·exact (hl k z).2)
     have hb : (y ||| zb2 (u :: l)).testBit u = true := by rw [zbm, decide_eq_true List.mem_cons_self, Bool.or_true]
     have ec2 : cnt ks (y ||| zb2 (u :: l)) = max (cnt ks y) lo.toNat := by
      rw [← ec]
      refine zfm fun j hj => ?_
      have : j ≠ u := fun z => uk (z ▸ hj)
      rw [zbm, zbm]
      simp [this]
     simp only [Tie.keep, hb, if_true, ec2] at hk
     rw [decide_eq_true (by omega), decide_eq_true (by omega)] at hk
     cases hk
   ·cases e : (!y.testBit u && decide (cnt ks y = 0)) with
    | false => rfl
    | true =>
     exfalso
     simp only [Bool.and_eq_true, decide_eq_true_eq, Bool.not_eq_true'] at e
     have hk := h y ⟨fun _ z => z, dn⟩
     simp [Tie.keep, e.1, e.2] at hk
theorem zs0 {m : Nat} {t : Tie} (ok : t.Ok m) {y n : Nat} (d : ∀ k, y.testBit k = true → n.testBit k = false) : t.sk y n = true ↔ ∀ s, InS y n s → t.keep s = true := by
 have dn : ∀ k, n.testBit k = true → y.testBit k = false := fun k hk => by
  cases e : y.testBit k with
  | false => rfl
  | true => rw [d k e] at hk; cases hk
 have selfS : InS y n y := ⟨fun _ z => z, dn⟩
 cases t with
 | needs a b =>
  constructor
  ·intro h s hs
   have h' : (n.testBit a || y.testBit b) = true := h
   show (!s.testBit a || s.testBit b) = true
   rcases Bool.or_eq_true _ _ ▸ h' with z | z
   ·rw [hs.2 a z]; rfl
   ·rw [hs.1 b z, Bool.or_true]
  ·intro h
   show (n.testBit a || y.testBit b) = true
   cases e1 : n.testBit a with
   | true => rfl
   | false =>
    have h2 : (!(y ||| zb2 [a]).testBit a || (y ||| zb2 [a]).testBit b) = true := h _ (zc2 d fun k hk => by rw [List.mem_singleton.mp hk]; exact e1)
    have hab : b ≠ a := fun z => ok.2.2 z.symm
    rw [zbm, zbm, decide_eq_true (List.mem_singleton.mpr rfl), decide_eq_false (by simp [hab]), Bool.or_true, Bool.or_false] at h2
    simpa using h2
 | bans a b =>
  constructor
  ·intro h s hs
   have h' : (n.testBit a || n.testBit b) = true := h
   show (!s.testBit a || !s.testBit b) = true
   rcases Bool.or_eq_true _ _ ▸ h' with z | z
   ·rw [hs.2 a z]; rfl
   ·rw [hs.2 b z]; simp
  ·intro h
   show (n.testBit a || n.testBit b) = true
   cases e1 : n.testBit a with
   | true => rfl
   | false =>
    cases e2 : n.testBit b with
    | true => rfl
    | false =>
     have h2 : (!(y ||| zb2 [a, b]).testBit a || !(y ||| zb2 [a, b]).testBit b) = true := h _ (zc2 d fun k hk => by
      rcases List.mem_cons.mp hk with rfl | hk
      ·exact e1
      ·rw [List.mem_singleton.mp hk]; exact e2)
     rw [zbm, zbm] at h2
     simp at h2
 | most top ps =>
  constructor
  ·intro h s hs
   have h' : zd9 ps y n ≤ top := of_decide_eq_true h
   refine decide_eq_true ?_
   have le : zff ps (fun p => s.testBit p.1) ≤ zd9 ps y n := zj3 fun p _ => by
    cases e1 : y.testBit p.1 with
    | true => rw [hs.1 _ e1]; simp
    | false =>
     cases e2 : n.testBit p.1 with
     | true => rw [hs.2 _ e2]; simp
     | false =>
      by_cases c : 0 < p.2
      ·simp [c]; split <;> omega
      ·simp [c]; split <;> omega
   omega
  ·intro h
   refine decide_eq_true ?_
   let l := (ps.filter fun p => decide (0 < p.2) && !n.testBit p.1).map (·.1)
   have hl : ∀ k ∈ l, n.testBit k = false := fun k hk => by
    obtain ⟨p, hp, rfl⟩ := List.mem_map.mp hk
    have := (List.mem_filter.mp hp).2
    simp at this
    exact this.2
   have h2 : decide (zff ps (fun p => (y ||| zb2 l).testBit p.1) ≤ top) = true := h _ (zc2 d hl)
   have e : zff ps (fun p => (y ||| zb2 l).testBit p.1) = zd9 ps y n := zj9 fun p hp => by
    show (y ||| zb2 l).testBit p.1 = (y.testBit p.1 || (decide (0 < p.2) && !n.testBit p.1))
    rw [zbm]
    congr 1
    by_cases c : (decide (0 < p.2) && !n.testBit p.1) = true
    ·rw [c]
     exact decide_eq_true (List.mem_map.mpr ⟨p, List.mem_filter.mpr ⟨hp, c⟩, rfl⟩)
    ·rw [Bool.eq_false_iff.mpr c]
     refine decide_eq_false fun z => ?_
     obtain ⟨q, hq, e⟩ := List.mem_map.mp z
     have hq' := List.mem_filter.mp hq
     have : q = p := zjq (ok.2.2.1.imp fun a => Nat.ne_of_lt a) hq'.1 hp e
     rw [this] at hq'
     exact c hq'.2
   rw [e] at h2
   exact of_decide_eq_true h2
 | bough u lo hi ks =>
  have c2 : cnt ks y + cnt ks n ≤ ks.length := zft fun j _ hj => dn j hj
  have uk : ¬ u ∈ ks := fun z => Nat.lt_irrefl _ (ok.up u z).1
  have keepUp : ∀ s, s.testBit u = true → Tie.keep (.bough u lo hi ks) s = (decide (lo ≤ (cnt ks s : Int)) && decide ((cnt ks s : Int) ≤ hi)) := fun s hs => by
   simp only [Tie.keep, hs, if_true]
  have keepNo : ∀ s, s.testBit u = false → Tie.keep (.bough u lo hi ks) s = decide (cnt ks s = 0) := fun s hs => by
   simp [Tie.keep, hs]
  constructor
  ·intro h s hs
   have h' : ((n.testBit u || (decide (lo ≤ (cnt ks y : Int)) && decide ((ks.length : Int) - cnt ks n ≤ hi))) && (y.testBit u || decide ((ks.length : Int) - cnt ks n = 0))) = true := h
   have g1 : cnt ks y ≤ cnt ks s := zi8 fun k _ hk => hs.1 k hk
   have g2 : cnt ks s + cnt ks n ≤ ks.length := zft fun k _ hk => hs.2 k hk
   rw [Bool.and_eq_true] at h'
   cases su : s.testBit u with
   | true =>
    rw [keepUp s su]
    have nu : n.testBit u = false := by
     cases e : n.testBit u with
     | false => rfl
     | true => rw [hs.2 u e] at su; cases su
    have h1 := h'.1
    rw [nu, Bool.false_or, Bool.and_eq_true, decide_eq_true_eq, decide_eq_true_eq] at h1
    rw [decide_eq_true (show lo ≤ (cnt ks s : Int) by omega), decide_eq_true (by omega)]; rfl
   | false =>
    rw [keepNo s su]
    have yu : y.testBit u = false := by
     cases e : y.testBit u with
     | false => rfl
     | true => rw [hs.1 u e] at su; cases su
    have h2 := h'.2
    rw [yu, Bool.false_or, decide_eq_true_eq] at h2
    exact decide_eq_true (by omega)
  ·intro h
   show ((n.testBit u || (decide (lo ≤ (cnt ks y : Int)) && decide ((ks.length : Int) - cnt ks n ≤ hi))) && (y.testBit u || decide ((ks.length : Int) - cnt ks n = 0))) = true
   obtain ⟨l, hl, ec⟩ := zfj (Tie.BoughOk.nd ok) (ks.length - cnt ks n) (by omega) n d (by omega)
   have lu : ¬ u ∈ l := fun z => uk (hl u z).1
   have same : ∀ l' : List Nat, cnt ks (y ||| zb2 (u :: l')) = cnt ks (y ||| zb2 l') := fun l' => zfm fun j hj => by
    have : j ≠ u := fun z => uk (z ▸ hj)
    rw [zbm, zbm]
    simp [this]
   have one : ∀ l' : List Nat, (y ||| zb2 (u :: l')).testBit u = true := fun l' => by rw [zbm, decide_eq_true List.mem_cons_self, Bool.or_true]
   rw [Bool.and_eq_true]
   constructor
   ·cases nu : n.testBit u with
    | true => rfl
    | false =>
     rw [Bool.false_or, Bool.and_eq_true, decide_eq_true_eq, decide_eq_true_eq]
     have k1 := h (y ||| zb2 (u :: [])) (zc2 d fun k hk => by rw [List.mem_singleton.mp hk]; exact nu)
     have k2 := h (y ||| zb2 (u :: l)) (zc2 d fun k hk => by
      rcases List.mem_cons.mp hk with rfl | z
      ·exact nu
      ·exact (hl k z).2)
     rw [keepUp _ (one _), same] at k1 k2
     have z0 : (y ||| zb2 []) = y := by simp [zb2]
     rw [z0] at k1
     rw [ec] at k2
     simp only [Bool.and_eq_true, decide_eq_true_eq] at k1 k2
     omega
   ·cases yu : y.testBit u with
    | true => rfl
    | false =>
     rw [Bool.false_or, decide_eq_true_eq]
     have k1 := h (y ||| zb2 l) (zc2 d fun k hk => (hl k hk).2)
     rw [keepNo _ (by rw [zbm, yu, decide_eq_false lu]; rfl), ec, decide_eq_true_eq] at k1
     omega
end Wd
set_option maxRecDepth 100000
set_option maxHeartbeats 4000000
namespace Wd
open PySem L2
def zl5 (p : Nat × Int) : PyData := .tuple [.int (p.1 : Int), .int p.2]
def Tie.toD : Tie → PyData
 | .bough u lo hi ks => .tuple [.int (u : Int), .int lo, .int hi, .tuple (ks.map fun k : Nat => PyData.int (k : Int))]
 | .needs a b => .tuple [.str ("needs" : Str), .int (a : Int), .int (b : Int)]
 | .bans a b => .tuple [.str ("bans" : Str), .int (a : Int), .int (b : Int)]
 | .most top ps => .tuple [.str ("most" : Str), .int top, .tuple (ps.map zl5)]
theorem zfd {m : Nat} : ∀ {ks : List PyData} {last : Int}, -1 ≤ last → last < m → zbt m ks last = true →
  ∃ ns : List Nat, ks = ns.map (fun k : Nat => PyData.int (k : Int)) ∧ ns.Pairwise (· < ·) ∧ (∀ k ∈ ns, last < (k : Int) ∧ k < m) ∧ (ns.length : Int) + last + 1 ≤ m
 | [], last, h0, h1, _ => ⟨[], rfl, List.Pairwise.nil, (fun _ z => nomatch z), by simp; omega⟩
 | .int i :: ks, last, h0, h1, h => by
  have z : (decide (last + 1 ≤ i) && decide (i ≤ (m : Int) - 1) && zbt m ks i) = true := h
  simp only [Bool.and_eq_true, decide_eq_true_eq] at z
  obtain ⟨ns, e, pw, ab, ln⟩ := zfd (by omega) (by omega) z.2
  obtain ⟨j, rfl⟩ : ∃ j : Nat, i = (j : Int) := ⟨i.toNat, by omega⟩
  refine ⟨j :: ns, by rw [e]; rfl, List.Pairwise.cons (fun k hk => ?_) pw, fun k hk => ?_, ?_⟩
  ·have := (ab k hk).1; omega
  ·rcases List.mem_cons.mp hk with rfl | hk
   ·omega
   ·have := ab k hk; omega
  ·rw [List.length_cons]; omega
 | .none :: _, _, _, _, h => by cases h
 | .bool _ :: _, _, _, _, h => by cases h
 | .str _ :: _, _, _, _, h => by cases h
 | .list _ :: _, _, _, _, h => by cases h
 | .tuple _ :: _, _, _, _, h => by cases h
 | .dict _ :: _, _, _, _, h => by cases h
theorem zgf {m : Nat} {d : PyData} (h : zc4 m d = true) : ∃ u lo hi ks, d = (Tie.bough u lo hi ks).toD ∧ Tie.BoughOk m u lo hi ks := by
 unfold zc4 at h
 split at h
 next u l hd k =>
  simp only [Bool.and_eq_true] at h
  obtain ⟨hu, hk, hr, hh, hl⟩ := h
  obtain ⟨ui, rfl, u0, u1⟩ := zdt hu
  obtain ⟨kd, rfl, k0⟩ := zlj hk
  obtain ⟨hi, rfl, h0, h1⟩ := zdt (show within hd 1 kd.length = true from hh)
  obtain ⟨lo, rfl, l0, l1⟩ := zdt (show within l 0 hi = true from hl)
  obtain ⟨un, rfl⟩ : ∃ j : Nat, ui = (j : Int) := ⟨ui.toNat, by omega⟩
  obtain ⟨ns, rfl, pw, ab, ln⟩ := zfd (by omega) (by omega) (show zbt m kd un = true from hr)
  rw [List.length_map] at k0 h1
  exact ⟨un, lo, hi, ns, rfl, ⟨by omega, fun z => by rw [z] at k0; simp at k0, fun k hk => by have := ab k hk; omega, pw, by omega, l0, l1, h0, h1⟩⟩
 next => cases h
theorem zig {m : Nat} : ∀ {ds : List PyData} {ns : List Nat}, ds.all ze5 = true → ds.map zmy = ns.map (fun k : Nat => PyData.int (k : Int)) → ∃ ps : List (Nat × Int), ds = ps.map zl5 ∧ ps.map (·.1) = ns
 | [], [], _, _ => ⟨[], rfl, rfl⟩
 | [], _ :: _, _, e => by cases e
 | _ :: _, [], _, e => by cases e
 | d :: ds, n :: ns, h, e => by
  rw [List.all_cons, Bool.and_eq_true] at h
  rw [List.map_cons, List.map_cons] at e
  injection e with e1 e2
  obtain ⟨ps, rfl, rfl⟩ := zig (m := m) h.2 e2
  have h1 := h.1
  unfold ze5 at h1
  split at h1
  next x y =>
   obtain ⟨i, rfl⟩ := zkg h1
   refine ⟨(n, i) :: ps, ?_, rfl⟩
   have e3 : x = PyData.int (n : Int) := e1
   rw [e3]
   rfl
  next => cases h1
theorem zkf {m : Nat} {d : PyData} (h : zf0 m d = true) : ∃ t : Tie, d = t.toD ∧ t.Ok m ∧ ∀ u lo hi ks, t ≠ .bough u lo hi ks := by
 unfold zf0 at h
 split at h
 next k x y =>
  unfold ztv at h
  split at h
  next s =>
   unfold zmk at h
   split at h
   next hs =>
    rw [Bool.and_eq_true] at h
    obtain ⟨top, rfl⟩ := zkg h.1
    have h2 := h.2
    unfold zli at h2
    split at h2
    next ds =>
     simp only [Bool.and_eq_true, decide_eq_true_eq] at h2
     obtain ⟨⟨d0, dp⟩, dr⟩ := h2
     obtain ⟨ns, e, pw, ab, ln⟩ := zfd (by omega) (by omega) dr
     obtain ⟨ps, rfl, rfl⟩ := zig (m := m) dp e
     rw [List.length_map] at d0 ln
     refine ⟨.most top ps, by rw [hs]; rfl, ⟨fun z => by rw [z] at d0; simp at d0, fun p hp => (ab p.1 (List.mem_map.mpr ⟨p, hp, rfl⟩)).2, pw, by omega⟩, by intro _ _ _ _ z; cases z⟩
    next => cases h2
   next hs =>
    split at h
    next hn =>
     simp only [Bool.and_eq_true] at h
     obtain ⟨ha, hb, hne⟩ := h
     obtain ⟨a, rfl, a0, a1⟩ := zdt ha
     obtain ⟨b, rfl, b0, b1⟩ := zdt hb
     have ne : ¬ a = b := by
      have z : (!decide (a = b)) = true := hne
      simpa using z
     obtain ⟨an, rfl⟩ : ∃ j : Nat, a = (j : Int) := ⟨a.toNat, by omega⟩
     obtain ⟨bn, rfl⟩ : ∃ j : Nat, b = (j : Int) := ⟨b.toNat, by omega⟩
     rcases hn with rfl | rfl
     ·exact ⟨.needs an bn, rfl, ⟨by omega, by omega, by omega⟩, by intro _ _ _ _ z; cases z⟩
     ·exact ⟨.bans an bn, rfl, ⟨by omega, by omega, by omega⟩, by intro _ _ _ _ z; cases z⟩
    next => cases h
  next => cases h
 next => cases h
theorem zuh (ks : List Nat) : (ks.map fun k : Nat => PyData.int (k : Int)) = (ks.map fun k : Nat => (k : Int)).map PyData.int := by rw [List.map_map]; rfl
theorem zny (ks : List Nat) : (ks.map fun k : Nat => (k : Int)).map V.int = ks.map fun k : Nat => V.int (k : Int) := by rw [List.map_map]; rfl
theorem zdw {H : Hp} {u : Nat} {lo hi : Int} {ks : List Nat} {v : V} (h : Dn H (Tie.bough u lo hi ks).toD v) : ∃ p pk, v = .ref p ∧ H p = some (.tup [.int (u : Int), .int lo, .int hi, .ref pk]) ∧ H pk = some (.tup (ks.map fun k : Nat => V.int (k : Int))) := by
 obtain ⟨p, xs, rfl, hp, xu, r1, rfl, hu, xl, r2, rfl, hlo, xh, r3, rfl, hh, xk, r4, rfl, hk, hnil⟩ := zcu h
 cases (show r4 = [] from hnil)
 cases zdj hu
 cases zdj hlo
 cases zdj hh
 obtain ⟨pk, ys, rfl, hpk, hks⟩ := zcu hk
 rw [zuh] at hks
 rw [zmj hks, zny] at hpk
 exact ⟨p, pk, rfl, hp, hpk⟩
theorem zfp {H : Hp} {w : Str} {a b : Int} {v : V} (h : Dn H (.tuple [.str w, .int a, .int b]) v) : ∃ p, v = .ref p ∧ H p = some (.tup [.str w, .int a, .int b]) := by
 obtain ⟨p, xs, rfl, hp, xu, r1, rfl, hu, xl, r2, rfl, hlo, xh, r3, rfl, hh, hnil⟩ := zcu h
 cases (show r3 = [] from hnil)
 cases (show xu = .str w from hu)
 cases zdj hlo
 cases zdj hh
 exact ⟨p, rfl, hp⟩
theorem zkk {H : Hp} {top : Int} {ps : List (Nat × Int)} {v : V} (h : Dn H (Tie.most top ps).toD v) : ∃ p q xs, v = .ref p ∧ H p = some (.tup [.str ("most" : Str), .int top, .ref q]) ∧ H q = some (.tup xs) ∧ DnL H (ps.map zl5) xs := by
 obtain ⟨p, xs, rfl, hp, xu, r1, rfl, hu, xl, r2, rfl, hlo, xh, r3, rfl, hh, hnil⟩ := zcu h
 cases (show r3 = [] from hnil)
 cases (show xu = .str ("most" : Str) from hu)
 cases zdj hlo
 obtain ⟨q, ys, rfl, hq, hks⟩ := zcu hh
 exact ⟨p, q, ys, rfl, hp, hq, hks⟩
theorem zke {H : Hp} {ps : List (Nat × Int)} {xs : List V} (h : DnL H (ps.map zl5) xs) {i : Nat} {x : V} (hx : xs[i]? = some x) : ∃ p r, ps[i]? = some p ∧ x = .ref r ∧ H r = some (.tup [.int (p.1 : Int), .int p.2]) := by
 obtain ⟨d, hd, hx'⟩ := h.get hx
 rw [List.getElem?_map] at hd
 obtain ⟨p, hp, rfl⟩ := Option.map_eq_some_iff.mp hd
 obtain ⟨r, ys, rfl, hr, xa, r1, rfl, ha, xb, r2, rfl, hb, hnil⟩ := zcu (show Dn H (.tuple [.int (p.1 : Int), .int p.2]) x from hx')
 cases (show r2 = [] from hnil)
 cases zdj ha
 cases zdj hb
 exact ⟨p, r, hp, rfl, hr⟩
def zl0 (n k : Int) : Bool := decide (0 ≤ k) && decide (n / 2 ^ k.toNat % 2 = 1)
theorem zba (s u : Nat) : zl0 (s : Int) (u : Int) = s.testBit u := by
 unfold zl0
 rw [decide_eq_true (by omega), Bool.true_and, Nat.testBit_eq_decide_div_mod_eq, Int.toNat_natCast]
 have e : ((s : Int) / 2 ^ u % 2 = 1) ↔ (s / 2 ^ u % 2 = 1) := by
  have e3 : (2 : Int) ^ u = ((2 ^ u : Nat) : Int) := by rw [Int.natCast_pow]; rfl
  rw [e3]
  omega
 by_cases z : s / 2 ^ u % 2 = 1
 ·rw [decide_eq_true z, decide_eq_true (e.mpr z)]
 ·rw [decide_eq_false z, decide_eq_false (fun y => z (e.mp y))]
theorem zu9 (n : Int) (k : Nat) : Builtin.bitAnd (n / 2 ^ k) 1 = n / 2 ^ k % 2 := PySem.W.kbt_mask (n / 2 ^ k) 1
end Wd
set_option maxRecDepth 100000
set_option maxHeartbeats 4000000
namespace L2
open PySem PySem.Spec PyProof.Rows
section
variable {X : Cx} {o e : Expr} {es : List Expr} {to : TE} {t : TA} {name : Str} {apos cpos : Pos} {T id : String} {r : V → List V → Hp → VK → Prop}
theorem zif {K : PySem.W.Frag} (pa : PlainAttrs T) (slot : Slot T name id) (hty : typeOf (.builtin id) = pure (.type "method_descriptor")) (hm : MtR X id r) (ho : PE X o to) (ha : PA X (e :: es) t) (hK : X.K = K := by rfl)
  (hbase : attributeBase o name X.env (eval o X.env) = eval o X.env := by rfl)
  (hfew : ((backTo cpos (starEach (e :: es) X.env)).all (fun x => !x.1) && (backToKw cpos (keywordEach [] X.env)).all (fun x => x.1.isSome) && decide ((e :: es).length + ([] : List Keyword).length + (if ([] : List Keyword).isEmpty then 0 else 1) < 30)) = true := by rfl)
  (hline : (apos.endLine == cpos.line) = true := by rfl) (hs : starEach (e :: es) X.env = (false, eval e X.env) :: starEach es X.env := by rfl) (hplain : (backTo cpos (starEach es X.env)).any (·.1) = false := by rfl) :
  PE X (.Call (.Attribute o name apos) (e :: es) [] cpos) (tBM K T r to t) := hK ▸ zul pa slot hty hm ho ha hbase hfew hline hs hplain
end
end L2
set_option maxRecDepth 100000
set_option maxHeartbeats 4000000
namespace L2
open PySem PySem.Spec PyProof.Rows
section
variable {X : Cx}
theorem pgT {K : PySem.W.Frag} {pos : Pos} {es : List Expr} {k : Nat} {t : TGs} {n : Nat} (hc : X.calm = true) (h : PGs X es t) (hn : (assignEach es X.env).length = n := by rfl) (hst : (assignEach es X.env).findIdx? (·.1) = none := by rfl) (hK : X.K = K := by rfl) : PG X (.Tuple es k pos) (zud K n t) := hK ▸ ztk hc h hn hst
theorem zpc : zd4 X (.type "range") (fun xs H Q => ∃ j : Int, xs = [.int j] ∧ ∀ p, H p = none → Q (.ref p) (upd H p (.rng 0 j))) := by
 intro pins s σ H xs us Q I r h
 obtain ⟨j, rfl, q⟩ := h
 obtain ⟨u, rfl, ⟨t, rfl⟩⟩ := zfz r
 refine call_range_1 ⟨.ref s.heap.objs.size, _, I.laid (fun b o e => Heap.get?_push_of_some _ e) (Nat.le_refl _) (show ObjOk X.prog X.w _ _ _ (.rng 0 j) from ⟨_, _, _, Heap.get?_push_size _ rfl⟩), rfl, q _ (I.hok.fresh (Nat.le_refl _))⟩
end
end L2
namespace Wd
open PySem L2
def zsb : Sp := fun vs H Q _ => ∃ (t : Tie) (m n : Nat) (v : V), vs = [v, .int n] ∧ Dn H t.toD v ∧ t.Ok m ∧ m ≤ 1000 ∧ ∀ H', Same H H' → Q (.bl (t.keep n)) H'
def zob (K : PySem.W.Frag) : Sp := fun vs H Q _ => ∃ (p : Addr) (ns : List Int), vs = [.ref p] ∧ SqL K H p (ns.map V.int) ∧ ns.length ≤ 63 ∧ ∀ H', Q (.bl true) H'
theorem zlb (k : Nat) : decide (V.int (k : Int) = V.int 0) = decide (k = 0) := by
 rw [zfk]
 by_cases z : k = 0
 ·rw [z]; rfl
 ·rw [decide_eq_false z]
  simpa using z
theorem zp4 (g : Int) : decide (V.int g = V.int 0) = decide (g = 0) := by
 rw [zfk]
 by_cases z : g = 0
 ·rw [z]; rfl
 ·rw [decide_eq_false z]
  simpa using z
def zp2 (f : Tie → Nat → Nat → Bool) : Sp := fun vs H Q _ => ∃ (t : Tie) (m y n : Nat) (v : V), vs = [v, .int y, .int n] ∧ Dn H t.toD v ∧ t.Ok m ∧ m ≤ 1000 ∧ ∀ H', Same H H' → Q (.bl (f t y n)) H'
def zno (f : Tie → Nat → Nat → Bool) : Sp := fun vs H Q _ => ∃ (u : Nat) (lo hi : Int) (ks : List Nat) (m y n : Nat) (v : V), vs = [v, .int y, .int n] ∧ Dn H (Tie.bough u lo hi ks).toD v ∧ Tie.BoughOk m u lo hi ks ∧ m ≤ 1000 ∧ ∀ H', Same H H' → Q (.bl (f (Tie.bough u lo hi ks) y n)) H'
def zsj (f : List (Nat × Int) → Nat → Nat → Int) : Sp := fun vs H Q _ => ∃ (q : Addr) (xs : List V) (ps : List (Nat × Int)) (y n : Nat), vs = [.ref q, .int y, .int n] ∧ H q = some (.tup xs) ∧ DnL H (ps.map zl5) xs ∧ ps.length ≤ 1000 ∧ ∀ H', Same H H' → Q (.int (f ps y n)) H'
theorem zjv {P : Tie → Prop} : ∀ {l : List PyData}, (∀ d ∈ l, ∃ t : Tie, d = t.toD ∧ P t) → ∃ ts : List Tie, l = ts.map Tie.toD ∧ ∀ t ∈ ts, P t
 | [], _ => ⟨[], rfl, (fun _ z => nomatch z)⟩
 | d :: r, h => by
  obtain ⟨t, e, p⟩ := h d List.mem_cons_self
  obtain ⟨ts, e2, p2⟩ := zjv fun x hx => h x (List.mem_cons_of_mem _ hx)
  refine ⟨t :: ts, by rw [e, e2]; rfl, fun x hx => ?_⟩
  rcases List.mem_cons.mp hx with rfl | z
  ·exact p
  ·exact p2 x z
theorem zoi {m : Nat} {d : PyData} (h : zc4 m d = true) : ∃ t : Tie, d = t.toD ∧ t.Ok m := by
 obtain ⟨u, lo, hi, ks, e, ok⟩ := zgf h
 exact ⟨.bough u lo hi ks, e, ok⟩
theorem zoq {m : Nat} {d : PyData} (h : zf0 m d = true) : ∃ t : Tie, d = t.toD ∧ t.Ok m := by
 obtain ⟨t, e, ok, _⟩ := zkf h
 exact ⟨t, e, ok⟩
theorem zdq {c A B : Prop} [Decidable c] (hc : c) (h : A) : if decide c = true then A else B := by
 rw [decide_eq_true hc]
 exact zoo h
theorem zb1 {c A B : Prop} [Decidable c] (hc : ¬ c) (h : B) : if decide c = true then A else B := by
 rw [decide_eq_false hc]
 exact zee h
theorem zn6 {c A B : Prop} [Decidable c] (hc : ¬ c) (h : A) : if (!decide c) = true then A else B := by
 rw [decide_eq_false hc]
 exact zoo h
theorem zjj {b : Bool} {A B : Prop} (hc : b = true) (h : A) : if b = true then A else B := by
 rw [if_pos hc]; exact h
theorem zgx {b : Bool} {A B : Prop} (hc : b = false) (h : B) : if b = true then A else B := by
 rw [hc]; exact zee h
theorem ziz {x y : Str} (h : ¬ x = y) : ¬ V.str x = V.str y := fun z => by injection z with z; exact h z
theorem zf4 : ¬ V.str ("bans" : Str) = V.str ("needs" : Str) := ziz (by decide +kernel)
theorem zf6 : ¬ V.str ("most" : Str) = V.str ("needs" : Str) := ziz (by decide +kernel)
theorem zhg : ¬ V.str ("most" : Str) = V.str ("bans" : Str) := ziz (by decide +kernel)
theorem int_str {i : Int} {x : Str} : ¬ V.int i = V.str x := fun z => by cases z
end Wd
set_option maxRecDepth 100000
set_option maxHeartbeats 4000000
namespace Wd
open PySem L2 Ow
structure WoodT (H : Hp) (wd : Addr) (m : Nat) (ts : List Tie) : Prop where
 ex : ∃ xs ys, WoodAt H wd m xs ys ∧ DnL H (ts.map Tie.toD) (xs ++ ys)
 ok : ∀ t ∈ ts, t.Ok m
 few : ts.length ≤ 900
 m9 : m ≤ 900
theorem WoodAt.same {H H' : Hp} {wd : Addr} {m : Int} {xs ys : List V} (s : Same H H') (h : WoodAt H wd m xs ys) : WoodAt H' wd m xs ys := by
 obtain ⟨tb, tc, h1, h2, h3⟩ := h.ex
 exact ⟨tb, tc, s _ _ h1, s _ _ h2, s _ _ h3⟩
theorem WoodT.same {H H' : Hp} {wd : Addr} {m : Nat} {ts : List Tie} (s : Same H H') (h : WoodT H wd m ts) : WoodT H' wd m ts := by
 obtain ⟨xs, ys, h1, h2⟩ := h.ex
 exact ⟨⟨xs, ys, WoodAt.same s h1, DnL.same s _ _ h2⟩, h.ok, h.few, h.m9⟩
def zss : Option Nat → V
 | none => .non
 | some i => .int (i : Int)
def firstB (ts : List Tie) (n : Nat) : Option Nat := ts.findIdx? fun t => !t.keep n
def zde (ts : List Tie) (n : Nat) : Bool := n.testBit 0 && ts.all fun t => t.keep n
theorem zlt {ts : List Tie} {n i : Nat} {t : Tie} (h : ts[i]? = some t) (hk : t.keep n = false) (hp : ∀ j x, j < i → ts[j]? = some x → x.keep n = true) : firstB ts n = some i := by
 unfold firstB
 rw [List.findIdx?_eq_some_iff_getElem]
 obtain ⟨hi, e⟩ := List.getElem?_eq_some_iff.mp h
 refine ⟨hi, by rw [e, hk]; rfl, fun j hj => ?_⟩
 rw [hp j _ hj (List.getElem?_eq_getElem (by omega))]
 simp
theorem zmf {ts : List Tie} {n : Nat} (hp : ∀ j x, j < ts.length → ts[j]? = some x → x.keep n = true) : firstB ts n = none := by
 unfold firstB
 rw [List.findIdx?_eq_none_iff]
 intro x hx
 obtain ⟨j, hj, rfl⟩ := List.getElem_of_mem hx
 rw [hp j _ hj (List.getElem?_eq_getElem hj)]
 rfl
theorem zhr (ts : List Tie) (n : Nat) : zde ts n = (n.testBit 0 && decide (firstB ts n = none)) := by
 unfold zde firstB
 congr 1
 rw [Bool.eq_iff_iff, List.all_eq_true, decide_eq_true_eq, List.findIdx?_eq_none_iff]
 refine ⟨fun h x hx => by rw [h x hx]; rfl, fun h x hx => ?_⟩
 have := h x hx
 simpa using this
theorem zqz (o : Option Nat) : decide (zss o = V.non) = decide (o = none) := by
 cases o <;> rfl
def zq3 : Sp := fun vs H Q _ => ∃ (wd : Addr) (m : Nat) (ts : List Tie), vs = [.ref wd] ∧ WoodT H wd m ts ∧ ∀ (l : Addr) (H' : Hp), Same H H' → H l = none → H' l = some (.lst ((List.range ts.length).map fun i : Nat => V.int (i : Int))) → Q (.ref l) H'
def zqp : Sp := fun vs H Q _ => ∃ (wd : Addr) (m : Nat) (ts : List Tie) (n : Nat), vs = [.ref wd, .int n] ∧ WoodT H wd m ts ∧ ∀ H', Same H H' → Q (zss (firstB ts n)) H'
def zrw : Sp := fun vs H Q _ => ∃ (wd : Addr) (m : Nat) (ts : List Tie) (n : Nat), vs = [.ref wd, .int n] ∧ WoodT H wd m ts ∧ ∀ H', Same H H' → Q (.bl (zde ts n)) H'
theorem zor {n i : Nat} {x : V} (h : ((List.range n).map fun i : Nat => V.int (i : Int))[i]? = some x) : i < n ∧ x = .int (i : Int) := by
 rw [List.getElem?_map] at h
 obtain ⟨j, hj, rfl⟩ := Option.map_eq_some_iff.mp h
 obtain ⟨hi, e⟩ := List.getElem?_eq_some_iff.mp hj
 rw [List.length_range] at hi
 rw [List.getElem_range] at e
 exact ⟨hi, by rw [e]⟩
end Wd
namespace Wd
theorem zlw : ∀ (k a b : Nat), (∀ j, a.testBit j = true → b.testBit j = false) → (a + b).testBit k = (a.testBit k || b.testBit k)
 | k, a, b, h => by
  have h0 := h 0
  rw [Nat.testBit_zero, Nat.testBit_zero] at h0
  have p : a % 2 + b % 2 ≤ 1 := by
   by_cases z : a % 2 = 1
   ·have := h0 (decide_eq_true z)
    have := of_decide_eq_false this
    omega
   ·omega
  cases k with
  | zero =>
   rw [Nat.testBit_zero, Nat.testBit_zero, Nat.testBit_zero]
   by_cases z : a % 2 = 1
   ·rw [decide_eq_true z, decide_eq_true (by omega), Bool.true_or]
   ·rw [decide_eq_false z, Bool.false_or]
    by_cases y : b % 2 = 1
    ·rw [decide_eq_true y, decide_eq_true (by omega)]
    ·rw [decide_eq_false y, decide_eq_false (by omega)]
  | succ k =>
   rw [Nat.testBit_add_one, Nat.testBit_add_one, Nat.testBit_add_one]
   have e : (a + b) / 2 = a / 2 + b / 2 := by omega
   rw [e]
   refine zlw k (a / 2) (b / 2) fun j hj => ?_
   have := h (j + 1)
   rw [Nat.testBit_add_one, Nat.testBit_add_one] at this
   exact this hj
theorem zsm {a b : Nat} (h : ∀ j, a.testBit j = true → b.testBit j = false) : a + b = a ||| b :=
 Nat.eq_of_testBit_eq fun k => by rw [zlw k a b h, Nat.testBit_or]
theorem zlg : ∀ (k y a : Nat), (∀ j, a.testBit j = true → y.testBit j = true) → (y - a).testBit k = (y.testBit k && !a.testBit k)
 | k, y, a, h => by
  have le : a ≤ y := by
   have e : a = a &&& y := Nat.eq_of_testBit_eq fun j => by
    rw [Nat.testBit_and]
    cases e : a.testBit j with
    | false => rfl
    | true => rw [h j e]; rfl
   rw [e]
   exact Nat.and_le_right
  have h0 := h 0
  rw [Nat.testBit_zero, Nat.testBit_zero] at h0
  have p : a % 2 ≤ y % 2 := by
   by_cases z : a % 2 = 1
   ·have := of_decide_eq_true (h0 (decide_eq_true z))
    omega
   ·omega
  cases k with
  | zero =>
   rw [Nat.testBit_zero, Nat.testBit_zero, Nat.testBit_zero]
   by_cases z : a % 2 = 1
   ·rw [decide_eq_true z, decide_eq_false (by omega)]; simp
   ·rw [decide_eq_false z]
    by_cases x : y % 2 = 1
    ·rw [decide_eq_true x, decide_eq_true (by omega)]; rfl
    ·rw [decide_eq_false x, decide_eq_false (by omega)]; rfl
  | succ k =>
   rw [Nat.testBit_add_one, Nat.testBit_add_one, Nat.testBit_add_one]
   have e : (y - a) / 2 = y / 2 - a / 2 := by omega
   rw [e]
   refine zlg k (y / 2) (a / 2) fun j hj => ?_
   have := h (j + 1)
   rw [Nat.testBit_add_one, Nat.testBit_add_one] at this
   exact this hj
theorem zo5 (a b : Nat) : a ||| b = a + (b - (a &&& b)) := by
 have hb : ∀ j, (b - (a &&& b)).testBit j = (b.testBit j && !(a &&& b).testBit j) := fun j => zlg j b (a &&& b) fun i hi => by
  rw [Nat.testBit_and, Bool.and_eq_true] at hi
  exact hi.2
 rw [zsm fun j hj => by rw [hb, Nat.testBit_and, hj]; cases b.testBit j <;> rfl]
 refine Nat.eq_of_testBit_eq fun j => ?_
 rw [Nat.testBit_or, Nat.testBit_or, hb, Nat.testBit_and]
 cases a.testBit j <;> cases b.testBit j <;> rfl
theorem zgm (p : Nat → Bool) (i : Nat) : (List.range (i + 1)).filter p = (List.range i).filter p ++ (if p i = true then [i] else []) := by
 rw [List.range_succ, List.filter_append]
 congr 1
 by_cases h : p i = true <;> simp [h]
theorem zdr (y k j : Nat) : (y ||| 2 ^ k).testBit j = (y.testBit j || decide (k = j)) := by rw [Nat.testBit_or, Nat.testBit_two_pow]
theorem inS_split {y n k s : Nat} : InS y n s ↔ InS (y ||| 2 ^ k) n s ∨ InS y (n ||| 2 ^ k) s := by
 constructor
 ·rintro ⟨h1, h2⟩
  cases e : s.testBit k with
  | true =>
   refine .inl ⟨fun j hj => ?_, h2⟩
   rw [zdr, Bool.or_eq_true, decide_eq_true_eq] at hj
   rcases hj with z | rfl
   ·exact h1 j z
   ·exact e
  | false =>
   refine .inr ⟨h1, fun j hj => ?_⟩
   rw [zdr, Bool.or_eq_true, decide_eq_true_eq] at hj
   rcases hj with z | rfl
   ·exact h2 j z
   ·exact e
 ·rintro (⟨h1, h2⟩ | ⟨h1, h2⟩)
  ·exact ⟨fun j hj => h1 j (by rw [zdr, hj, Bool.true_or]), h2⟩
  ·exact ⟨h1, fun j hj => h2 j (by rw [zdr, hj, Bool.true_or])⟩
theorem zti {y n k : Nat} (d : ∀ j, y.testBit j = true → n.testBit j = false) (hn : n.testBit k = false) : ∀ j, (y ||| 2 ^ k).testBit j = true → n.testBit j = false := fun j hj => by
 rw [zdr, Bool.or_eq_true, decide_eq_true_eq] at hj
 rcases hj with z | rfl
 ·exact d j z
 ·exact hn
theorem zpu {y n k : Nat} (d : ∀ j, y.testBit j = true → n.testBit j = false) (hy : y.testBit k = false) : ∀ j, y.testBit j = true → (n ||| 2 ^ k).testBit j = false := fun j hj => by
 rw [zdr, d j hj, Bool.false_or]
 exact decide_eq_false fun z => by rw [← z, hy] at hj; cases hj
theorem zg2 {y n : Nat} (d : ∀ j, y.testBit j = true → n.testBit j = false) : InS y n y := ⟨fun _ z => z, fun k hk => by
 cases e : y.testBit k with
 | false => rfl
 | true => rw [d k e] at hk; cases hk⟩
theorem zi9 {m y n s : Nat} (full : ∀ k, k < m → (y ||| n).testBit k = true) (hs : InS y n s) (d : ∀ j, y.testBit j = true → n.testBit j = false) : ∀ k, k < m → s.testBit k = y.testBit k := fun k hk => by
 have h := full k hk
 rw [Nat.testBit_or, Bool.or_eq_true] at h
 rcases h with z | z
 ·rw [z, hs.1 k z]
 ·rw [hs.2 k z, (zg2 d).2 k z]
theorem znu {m : Nat} {t : Tie} (ok : t.Ok m) {y n : Nat} (d : ∀ j, y.testBit j = true → n.testBit j = false) (full : ∀ k, k < m → (y ||| n).testBit k = true) : t.sb y n = !t.keep y := by
 rw [Bool.eq_iff_iff, zqa ok d, Bool.not_eq_true']
 constructor
 ·intro h
  exact h y (zg2 d)
 ·intro h s hs
  rw [zi5 ok (zi9 full hs d)]
  exact h
theorem zq8 {m : Nat} {t : Tie} (ok : t.Ok m) {y n : Nat} (d : ∀ j, y.testBit j = true → n.testBit j = false) (full : ∀ k, k < m → (y ||| n).testBit k = true) : t.sk y n = t.keep y := by
 rw [Bool.eq_iff_iff, zs0 ok d]
 constructor
 ·intro h
  exact h y (zg2 d)
 ·intro h s hs
  rw [zi5 ok (zi9 full hs d)]
  exact h
end Wd
set_option maxRecDepth 100000
set_option maxHeartbeats 4000000
namespace L2
open PySem
theorem zmx {X : Cx} (hu : X.A.units + 64 < cLine) : OpR X (compareOp .Eq) (fun x y H Q => ∃ (a b : Addr) (ns ms : List Int), x = .ref a ∧ y = .ref b ∧ SqL X.K H a (ns.map V.int) ∧ SqL X.K H b (ms.map V.int) ∧ Q (.bl (decide (ns = ms))) H) := by
 intro pins s σ H x y v u Q I rx ry h
 obtain ⟨a, b, ns, ms, rfl, rfl, ha, hb, q⟩ := h
 cases rx
 cases ry
 obtain ⟨xs, rv, p, _⟩ := I.list ha
 obtain ⟨ys, rv', p', _⟩ := I.list hb
 exact PySem.W.ke_eq_ints p.isList p'.isList (zdv rv) (zdv rv') hu ⟨.bl _, H, I, rfl, q⟩
theorem zjm {k : Nat} {σ0 : St} {H : Hp} {g : TG} {tc : TT} {te : TE} {Q : VK} (Pv : Nat → List V → St → Hp → Prop) (h0 : Pv 0 [] σ0 H) (hz : ∀ i ys σ H, i ≤ k → Pv i ys σ H → ys.length ≤ sizeLine)
  (hs : ∀ i ys σ H, i < k → Pv i ys σ H → g (.int (i : Int)) σ H fun σ3 H3 => tc σ3 H3 fun b H4 => if b = true then te σ3 H4 fun v H5 => Pv (i + 1) (ys ++ [v]) σ3 H5 else Pv (i + 1) ys σ3 H4)
  (hd : ∀ ys σ H, Pv k ys σ H → ∀ p, H p = none → Q (.ref p) (upd H p (.lst ys))) :
  zqn (Itr 0 k) g tc te σ0 H Q :=
 zqq (lo := 0) Pv h0 hz (fun i ys σ H hi p => by rw [Int.zero_add]; exact hs i ys σ H hi p) hd
theorem zmz {n : Nat} {g : TG} {tb : TS} {D : zh4} {σ : St} {H : Hp} (Pv : Nat → St → Hp → Prop) (h0 : Pv 0 σ H)
  (hs : ∀ i σ H, i < n → Pv i σ H → g (.int (i : Int)) σ H fun σ2 H2 => tb { D with nx := Pv (i + 1), ct := Pv (i + 1), bk := D.nx } σ2 H2) (hd : ∀ σ H, Pv n σ H → D.nx σ H) :
  ∃ W : Nat → Nat → St → Hp → Prop, (∃ m, W 0 m σ H) ∧ ∀ i m σ H, W i m σ H →
   ((Itr 0 n).stop i H ∧ D.nx σ H) ∨ ((Itr 0 n).go i H ∧ ∃ N : St → Hp → Prop, (∀ σ' H', N σ' H' → ∃ m', m' < m ∧ W (i + 1) m' σ' H') ∧ ∀ x H', (Itr 0 n).yld i H x H' → g x σ H' fun σ2 H2 => tb { D with nx := N, ct := N, bk := D.nx } σ2 H2) :=
 zjy (lo := 0) Pv h0 (fun i σ H hi p => by rw [Int.zero_add]; exact hs i σ H hi p) hd
end L2
namespace Wd
open PySem L2 Ow
theorem zn4 (a b : Nat) : Builtin.bitOr (a : Int) (b : Int) = ((a ||| b : Nat) : Int) := by
 have le : a &&& b ≤ b := Nat.and_le_right
 rw [PyProof.Rows.bitOr_and, PyProof.Rows.bitAnd_pp (by omega) (by omega), Int.toNat_natCast, Int.toNat_natCast, zo5]
 omega
theorem zuq (k : Nat) : 1 * (2 : Int) ^ ((k : Nat) : Int).toNat = ((2 ^ k : Nat) : Int) := by
 rw [Int.one_mul, Int.toNat_natCast, Int.natCast_pow]
 rfl
def zr3 (l : List Stmt) (i : Nat) : List Stmt :=
 match l[i]? with
 | some (Stmt.For _ _ b _ _) => b
 | _ => []
end Wd
set_option maxRecDepth 100000
set_option maxHeartbeats 4000000
namespace L2
open PySem PySem.Spec PyProof.Rows
section
variable {X : Cx} {tg : Expr}
end
end L2
namespace Wd
open PySem L2
end Wd
set_option maxRecDepth 100000
set_option maxHeartbeats 4000000
namespace Wd
open PySem L2 Ow
def KpX (pen : Addr) (H H' : Hp) (b : Addr) : HO → Prop
 | .tbl _ => (∃ ps, H' b = some (.tbl ps)) ∧ (zdk H b → (∃ ys, H pen = some (.lst ys)) → zdk H' b ∧ ∃ ys, H' pen = some (.lst ys))
 | o => H' b = some o
def SameX (pen : Addr) (H H' : Hp) : Prop := ∀ b o, b ≠ pen → H b = some o → KpX pen H H' b o
theorem KpX.some {pen : Addr} {H H' : Hp} {b : Addr} {o : HO} (k : KpX pen H H' b o) : ∃ u, H' b = some u := by
 cases o
 case tbl ps => exact ⟨_, k.1.choose_spec⟩
 all_goals exact ⟨_, k⟩
theorem SameX.refl (pen : Addr) (H : Hp) : SameX pen H H := fun _ o _ h => by
 cases o
 case tbl ps => exact ⟨⟨_, h⟩, fun a b => ⟨a, b⟩⟩
 all_goals exact h
theorem SameX.trans {pen : Addr} {H H1 H2 : Hp} (a : SameX pen H H1) (b : SameX pen H1 H2) : SameX pen H H2 := fun c o n h => by
 have z := a c o n h
 cases o
 case tbl ps =>
  obtain ⟨⟨qs, hq⟩, k⟩ := z
  obtain ⟨q2, k2⟩ := b c _ n hq
  exact ⟨q2, fun t y => k2 (k t y).1 (k t y).2⟩
 all_goals exact b c _ n z
theorem Same.x {pen : Addr} {H H' : Hp} (s : Same H H') : SameX pen H H' := fun b o _ h => by
 have z := s b o h
 cases o
 case tbl ps => exact ⟨z.1, fun t ⟨ys, y⟩ => ⟨z.2 t, ys, s pen _ y⟩⟩
 all_goals exact z
theorem za3 {pen : Addr} {H : Hp} (o : HO) (ho : ∃ ys, o = .lst ys := by exact ⟨_, rfl⟩) : SameX pen H (upd H pen o) := fun b u n h => by
 cases u
 case tbl ps =>
  refine ⟨⟨ps, by rw [zan n]; exact h⟩, ?_⟩
  rintro ⟨qs, hq, tr, hp⟩ ⟨ys, hy⟩
  obtain ⟨zs, rfl⟩ := ho
  refine ⟨⟨qs, by rw [zan n]; exact hq, tr, fun pos => ?_⟩, ⟨zs, zaf⟩⟩
  rcases hp pos with z | ⟨c, z1, z2⟩
  ·exact .inl z
  ·refine .inr ⟨c, z1, ?_⟩
   rw [zan fun z => by rw [z, hy] at z2; cases z2]
   exact z2
 all_goals (show upd H pen o b = _; rw [zan n]; exact h)
theorem SameX.put {pen : Addr} {H H1 : Hp} {p : Addr} {xs : List V} {o : HO} (s : SameX pen H H1) (n : H p = none) (np : p ≠ pen) (e : H1 p = some (.lst xs)) : SameX pen H (upd H1 p o) := fun b u nb hb => by
 have ne : b ≠ p := zaq hb n
 have z := s b u nb hb
 cases u
 case tbl ps =>
  refine ⟨⟨z.1.choose, by rw [zan ne]; exact z.1.choose_spec⟩, fun t y => ?_⟩
  obtain ⟨⟨qs, hq, tr, hp⟩, ys, hy⟩ := z.2 t y
  refine ⟨⟨qs, by rw [zan ne]; exact hq, tr, fun pos => ?_⟩, ys, by rw [zan (Ne.symm np)]; exact hy⟩
  rcases hp pos with y | ⟨c, y1, y2⟩
  ·exact .inl y
  ·refine .inr ⟨c, y1, ?_⟩
   rw [zan fun z => by rw [z, e] at y2; cases y2]
   exact y2
 all_goals (show upd H1 p o b = _; rw [zan ne]; exact z)
theorem SameX.tab {pen P : Addr} {H H' : Hp} {ys : List V} (s : SameX pen H H') (hp : H pen = some (.lst ys)) (t : zdk H P) : zdk H' P := by
 obtain ⟨ps, h, _⟩ := id t
 exact ((s P _ (fun z => by rw [z, hp] at h; cases h) h).2 t ⟨ys, hp⟩).1
theorem SameX.free {pen l : Addr} {H H' : Hp} (s : SameX pen H H') (hp : ∃ o, H' pen = some o) (h : H' l = none) : H l = none := by
 cases q : H l with
 | none => rfl
 | some o =>
  obtain ⟨o', e⟩ := hp
  have n : l ≠ pen := fun z => by rw [z, e] at h; cases h
  obtain ⟨u, z⟩ := (s l o n q).some
  rw [z] at h
  cases h
structure Pen (K : PySem.W.Frag) (H : Hp) (pen sp : Addr) (ns : List Int) (k : Int) : Prop where
 at_ : H pen = some (.lst [.ref sp, .int k])
 len : ns.length ≤ 63
 scr : ∀ H', SameX pen H H' → SqL K H' sp (ns.map V.int)
theorem Pen.to {K : PySem.W.Frag} {H H' : Hp} {pen sp : Addr} {ns : List Int} {k k' : Int} (p : Pen K H pen sp ns k) (s : SameX pen H H') (e : H' pen = some (.lst [.ref sp, .int k'])) : Pen K H' pen sp ns k' :=
 ⟨e, p.len, fun H2 s2 => p.scr H2 (s.trans s2)⟩
theorem Dn.pen {H : Hp} {p : Addr} {xs ys : List V} (h : H p = some (.lst xs)) {n : Nat} {d : PyData} {v : V} (f : zbs n d = true) (q : Dn H d v) : Dn (upd H p (.lst ys)) d v := Dn.keepT (zlr h) n d v f q
theorem DnL.pen {H : Hp} {p : Addr} {xs ys : List V} (h : H p = some (.lst xs)) {n : Nat} {ds : List PyData} {vs : List V} (f : ds.all (zbs n) = true) (q : DnL H ds vs) : DnL (upd H p (.lst ys)) ds vs := DnL.keepT (Dn.keepT (zlr h) n) ds vs f q
def zo1 (H H' : Hp) : Prop := ∀ b xs, H b = some (.tup xs) → H' b = some (.tup xs)
theorem SameX.tup {pen : Addr} {H H' : Hp} {ys : List V} (e : H pen = some (.lst ys)) (s : SameX pen H H') : zo1 H H' := fun b xs h => s b _ (fun z => by rw [z, e] at h; cases h) h
theorem DnL.tupS {H H' : Hp} (t : zo1 H H') {n : Nat} {ds : List PyData} {vs : List V} (f : ds.all (zbs n) = true) (q : DnL H ds vs) : DnL H' ds vs := DnL.keepT (Dn.keepT t n) ds vs f q
def zs9 (K : PySem.W.Frag) : Sp := fun vs H Q _ => ∃ (pen sp : Addr) (ns : List Int) (most k : Int), vs = [.ref pen, .int most] ∧ Pen K H pen sp ns k ∧ 0 ≤ k ∧ k ≤ 1000000 ∧ 0 < most ∧ ∀ c : Int, 0 ≤ c → c < most → Q (.int c) (L2.upd H pen (.lst [.ref sp, .int (k + 1)]))
theorem DnL.drop {H : Hp} : ∀ {ds : List PyData} {xs : List V} (t : Nat), DnL H ds xs → DnL H (ds.drop t) (xs.drop t)
 | _, _, 0, h => h
 | [], xs, t + 1, h => by rw [(show xs = [] from h)]; exact rfl
 | d :: ds, _, t + 1, ⟨x, r, e, q, z⟩ => by rw [e]; exact DnL.drop t z
theorem DnL.take {H : Hp} : ∀ {ds : List PyData} {xs : List V} (t : Nat), DnL H ds xs → DnL H (ds.take t) (xs.take t)
 | _, _, 0, h => by rw [List.take_zero, List.take_zero]; exact rfl
 | [], xs, t + 1, h => by rw [(show xs = [] from h)]; exact rfl
 | d :: ds, _, t + 1, ⟨x, r, e, q, z⟩ => by rw [e]; exact ⟨x, _, rfl, q, DnL.take t z⟩
structure WoodX (H : Hp) (wd : Addr) (m : Nat) (bs cs : List PyData) : Prop where
 ex : ∃ xs ys, WoodAt H wd m xs ys ∧ DnL H bs xs ∧ DnL H cs ys
 gb : GoodB m bs
 gc : ∀ c ∈ cs, zf0 m c = true
 b8 : bs.length ≤ 9
 c8 : cs.length ≤ 20
 fb : bs.all (zbs 3) = true
 fc : cs.all (zbs 3) = true
 m1 : 1 ≤ m
 m9 : m ≤ 9
theorem WoodX.tupS {H H' : Hp} {wd : Addr} {m : Nat} {bs cs : List PyData} (t : zo1 H H') (h : WoodX H wd m bs cs) : WoodX H' wd m bs cs := by
 obtain ⟨xs, ys, ⟨tb, tc, h1, h2, h3⟩, db, dc⟩ := h.ex
 exact ⟨⟨xs, ys, ⟨tb, tc, t _ _ h1, t _ _ h2, t _ _ h3⟩, DnL.tupS t h.fb db, DnL.tupS t h.fc dc⟩, h.gb, h.gc, h.b8, h.c8, h.fb, h.fc, h.m1, h.m9⟩
theorem WoodX.ties {H : Hp} {wd : Addr} {m : Nat} {bs cs : List PyData} (h : WoodX H wd m bs cs) : ∃ ts : List Tie, bs ++ cs = ts.map Tie.toD ∧ (∀ t ∈ ts, t.Ok m) ∧ ts.length ≤ 29 ∧ ∀ H', zo1 H H' → WoodT H' wd m ts := by
 obtain ⟨ts, ets, okt⟩ := zjv (P := fun t => t.Ok m) (l := bs ++ cs) fun x hx => by
  rcases List.mem_append.mp hx with z | z
  ·exact zoi (h.gb.each x z)
  ·exact zoq (h.gc x z)
 have lt : ts.length = bs.length + cs.length := by rw [← List.length_append, ets, List.length_map]
 have b8 := h.b8
 have c8 := h.c8
 have m9 := h.m9
 refine ⟨ts, ets, okt, by omega, fun H' t => ?_⟩
 obtain ⟨xs, ys, WA, db, dc⟩ := (h.tupS t).ex
 exact ⟨⟨xs, ys, WA, by rw [← ets]; exact db.append dc⟩, okt, by omega, by omega⟩
def zru (K : PySem.W.Frag) : Sp := fun vs H Q _ => ∃ (pen sp : Addr) (ns : List Int) (m : Nat) (most k : Int), vs = [.ref pen, .int m, .int most] ∧ Pen K H pen sp ns k ∧ 0 ≤ k ∧ k ≤ 800000 ∧ 1 ≤ m ∧ m ≤ 9 ∧ 0 ≤ most ∧ most ≤ 8 ∧
 ∀ (wd : Addr) (bs cs : List PyData) (k' : Int) (H' : Hp), SameX pen H H' → H' pen = some (.lst [.ref sp, .int k']) → k ≤ k' → k' ≤ k + 300 → WoodX H' wd m bs cs → (cs.length : Int) ≤ most → Q (.ref wd) H'
theorem _root_.Ow.GAt.add2 {H0 H : Hp} {g l t : Addr} {gs : List Grp} {u k : Int} (G : GAt H0 H g gs) (hf : H0 l = none) (hl : H l = none) (ht : upd H l (.lst [.int k]) t = none) :
  GAt H0 (upd (upd (upd H l (.lst [.int k])) t (.tup [.int u, .ref l])) g (.lst ((gs.map fun x => V.ref x.t) ++ [.ref t]))) g (gs ++ [⟨t, u, l, [k]⟩]) := by
 have ngl : g ≠ l := zaq G.at_ hl
 have s1 := zak hl (.lst [.int k])
 have s2 := s1.trans (zak ht (.tup [.int u, .ref l]))
 have ntl : t ≠ l := fun z => by rw [z, zaf] at ht; cases ht
 have ngt : g ≠ t := zaq (s1 _ _ G.at_) ht
 refine ⟨?_, G.new, fun x hx => ?_, fun x hx => ?_, ?_⟩
 ·rw [zaf, List.map_append]
  rfl
 ·rcases List.mem_append.mp hx with z | z
  ·rw [zan (zl6 (G.tup x z) G.at_ (by intro q; cases q))]
   exact s2 _ _ (G.tup x z)
  ·rw [List.mem_singleton.mp z]
   show L2.upd _ g _ t = _
   rw [zan (Ne.symm ngt), zaf]
 ·rcases List.mem_append.mp hx with z | z
  ·obtain ⟨a, b, c⟩ := G.lst x z
   refine ⟨?_, b, c⟩
   rw [zan (Ne.symm c)]
   exact s2 _ _ a
  ·rw [List.mem_singleton.mp z]
   refine ⟨?_, hf, ngl⟩
   show L2.upd _ g _ l = _
   rw [zan (Ne.symm ngl), zan (Ne.symm ntl), zaf]
   rfl
 ·rw [List.map_append]
  refine List.nodup_append.mpr ⟨G.nd, by simp, fun x hx y hy => ?_⟩
  obtain ⟨z, hz, rfl⟩ := List.mem_map.mp hx
  have e : y = l := by simpa using hy
  rw [e]
  exact zaq (G.lst z hz).1 hl
theorem _root_.Ow.GAt.pen {H0 H : Hp} {g pen : Addr} {gs : List Grp} {xs ys : List V} (G : GAt H0 H g gs) (h0 : ∃ o, H0 pen = some o) (h : H pen = some (.lst xs)) : GAt H0 (L2.upd H pen (.lst ys)) g gs := by
 obtain ⟨o, e0⟩ := h0
 refine ⟨?_, G.new, fun x hx => ?_, fun x hx => ?_, G.nd⟩
 ·rw [zan (fun z => by rw [← z, G.new] at e0; cases e0)]
  exact G.at_
 ·rw [zan (zl6 (G.tup x hx) h (by intro q; cases q))]
  exact G.tup x hx
 ·obtain ⟨a, b, c⟩ := G.lst x hx
  refine ⟨?_, b, c⟩
  rw [zan (fun z => by rw [← z, b] at e0; cases e0)]
  exact a
end Wd
namespace Wd
def zgc (ts : List Tie) (i s : Nat) : Bool := match ts[i]? with
 | some t => t.keep s
 | none => true
def zgy (ts : List Tie) (i y n : Nat) : Bool := match ts[i]? with
 | some t => t.sb y n
 | none => false
def zbp (ts : List Tie) (il : List Nat) (y n : Nat) : Option Nat := il.find? fun i => zgy ts i y n
def za8 (m y n : Nat) : List Nat := (List.range m).filter fun k => !(y ||| n).testBit k
theorem mem_open {m y n k : Nat} : k ∈ za8 m y n ↔ k < m ∧ y.testBit k = false ∧ n.testBit k = false := by
 unfold za8
 rw [List.mem_filter, List.mem_range, Bool.not_eq_true', Nat.testBit_or, Bool.or_eq_false_iff]
theorem zqc (m y n k : Nat) : za8 m (y ||| 2 ^ k) n = (za8 m y n).filter fun j => !decide (k = j) := by
 unfold za8
 rw [List.filter_filter]
 refine List.filter_congr fun j _ => ?_
 rw [Nat.testBit_or, zdr, Nat.testBit_or]
 cases y.testBit j <;> cases n.testBit j <;> cases decide (k = j) <;> rfl
theorem zmn (m y n k : Nat) : za8 m y (n ||| 2 ^ k) = (za8 m y n).filter fun j => !decide (k = j) := by
 unfold za8
 rw [List.filter_filter]
 refine List.filter_congr fun j _ => ?_
 rw [Nat.testBit_or, zdr, Nat.testBit_or]
 cases y.testBit j <;> cases n.testBit j <;> cases decide (k = j) <;> rfl
theorem zhn {l : List Nat} {k : Nat} (h : k ∈ l) : (l.filter fun j => !decide (k = j)).length < l.length := by
 refine Nat.lt_of_le_of_ne (List.length_filter_le _ _) fun e => ?_
 have := List.length_filter_eq_length_iff.mp e k h
 simp at this
theorem zei {m y n k : Nat} (h : k ∈ za8 m y n) : (za8 m (y ||| 2 ^ k) n).length < (za8 m y n).length := by
 rw [zqc]; exact zhn h
theorem zel {m y n k : Nat} (h : k ∈ za8 m y n) : (za8 m y (n ||| 2 ^ k)).length < (za8 m y n).length := by
 rw [zmn]; exact zhn h
theorem zi1 (m y n : Nat) : (za8 m y n).length ≤ m := by
 refine Nat.le_trans (List.length_filter_le _ _) ?_
 rw [List.length_range]
 exact Nat.le_refl _
theorem zpq {m y k : Nat} (h : y < 2 ^ m) (hk : k < m) : y ||| 2 ^ k < 2 ^ m := by
 refine Nat.lt_pow_two_of_testBit _ fun i hi => ?_
 rw [zdr, Nat.testBit_lt_two_pow (Nat.lt_of_lt_of_le h (Nat.pow_le_pow_right (by decide) hi)), Bool.false_or]
 exact decide_eq_false (by omega)
theorem zmr {m a b : Nat} (ha : a < 2 ^ m) (hb : b < 2 ^ m) (h : ∀ k, k < m → a.testBit k = b.testBit k) : a = b := by
 refine Nat.eq_of_testBit_eq fun k => ?_
 by_cases z : k < m
 ·exact h k z
 ·have : 2 ^ m ≤ 2 ^ k := Nat.pow_le_pow_right (by decide) (by omega)
  rw [Nat.testBit_lt_two_pow (by omega), Nat.testBit_lt_two_pow (by omega)]
def zkm (ts : List Tie) (il : List Nat) (s : Nat) : Bool := il.all fun i => zgc ts i s
structure Stand (m y n : Nat) : Prop where
 dj : ∀ k, y.testBit k = true → n.testBit k = false
 ym : y < 2 ^ m
 nm : n < 2 ^ m
theorem Stand.one {m y n k : Nat} (S : Stand m y n) (h : k ∈ za8 m y n) : Stand m (y ||| 2 ^ k) n := by
 obtain ⟨km, ky, kn⟩ := mem_open.mp h
 exact ⟨zti S.dj kn, zpq S.ym km, S.nm⟩
theorem Stand.other {m y n k : Nat} (S : Stand m y n) (h : k ∈ za8 m y n) : Stand m y (n ||| 2 ^ k) := by
 obtain ⟨km, ky, kn⟩ := mem_open.mp h
 exact ⟨zpu S.dj ky, S.ym, zpq S.nm km⟩
theorem zou {m : Nat} {ts : List Tie} (ok : ∀ t ∈ ts, t.Ok m) {i y n s : Nat} (dj : ∀ k, y.testBit k = true → n.testBit k = false) (h : zgy ts i y n = true) (hs : InS y n s) : zgc ts i s = false := by
 unfold zgy at h
 unfold zgc
 cases e : ts[i]? with
 | none => rw [e] at h; cases h
 | some t =>
  rw [e] at h
  exact (zqa (ok t (List.mem_of_getElem? e)) dj).mp h s hs
theorem zo9 {m : Nat} {ts : List Tie} (ok : ∀ t ∈ ts, t.Ok m) {i y n : Nat} (dj : ∀ k, y.testBit k = true → n.testBit k = false) (full : za8 m y n = []) (h : zgy ts i y n = false) : zgc ts i y = true := by
 have hf : ∀ k, k < m → (y ||| n).testBit k = true := fun k hk => by
  cases e : (y ||| n).testBit k with
  | true => rfl
  | false =>
   rw [Nat.testBit_or, Bool.or_eq_false_iff] at e
   have := mem_open.mpr ⟨hk, e.1, e.2⟩
   rw [full] at this
   cases this
 unfold zgy at h
 unfold zgc
 cases e : ts[i]? with
 | none => rfl
 | some t =>
  rw [e] at h
  have h' : t.sb y n = false := h
  rw [znu (ok t (List.mem_of_getElem? e)) dj hf] at h'
  show t.keep y = true
  simpa using h'
theorem zne {m y n s : Nat} (S : Stand m y n) (full : za8 m y n = []) (hs : InS y n s) (sm : s < 2 ^ m) : s = y := by
 refine zmr sm S.ym fun k hk => ?_
 refine zi9 (m := m) (fun j hj => ?_) hs S.dj k hk
 cases e : (y ||| n).testBit j with
 | true => rfl
 | false =>
  rw [Nat.testBit_or, Bool.or_eq_false_iff] at e
  have := mem_open.mpr ⟨hj, e.1, e.2⟩
  rw [full] at this
  cases this
theorem zkh {ts : List Tie} {il : List Nat} {y n i : Nat} (h : zbp ts il y n = some i) : i ∈ il ∧ zgy ts i y n = true :=
 ⟨List.mem_of_find?_eq_some h, List.find?_some (p := fun i => zgy ts i y n) h⟩
theorem zgo {ts : List Tie} {il : List Nat} {y n : Nat} (h : zbp ts il y n = none) : ∀ i ∈ il, zgy ts i y n = false := fun i hi => by
 have := List.find?_eq_none.mp h i hi
 simpa using this
inductive CT where
 | broken (t : Nat)
 | ware
 | split (k : Nat) (one other : CT)
def zb0 (ts : List Tie) (il : List Nat) (m : Nat) : Nat → Nat → Nat → CT
 | f, y, n => match zbp ts il y n with
  | some t => .broken t
  | none => match za8 m y n, f with
   | [], _ => .ware
   | _ :: _, 0 => .ware
   | k :: _, f + 1 => .split k (zb0 ts il m f (y ||| 2 ^ k) n) (zb0 ts il m f y (n ||| 2 ^ k))
theorem zgi {ts : List Tie} {il r : List Nat} {m f y n k : Nat} (hb : zbp ts il y n = none) (ho : za8 m y n = k :: r) : zb0 ts il m (f + 1) y n = .split k (zb0 ts il m f (y ||| 2 ^ k) n) (zb0 ts il m f y (n ||| 2 ^ k)) := by
 conv => lhs; unfold zb0
 simp only [hb, ho]
theorem zht {ts : List Tie} {il : List Nat} {m f y n : Nat} (hb : zbp ts il y n = none) (ho : za8 m y n = []) : zb0 ts il m f y n = .ware := by
 unfold zb0
 simp [hb, ho]
theorem zf2 {ts : List Tie} {il : List Nat} {m f y n i : Nat} (hb : zbp ts il y n = some i) : zb0 ts il m f y n = .broken i := by
 unfold zb0
 simp [hb]
def CT.leaves : CT → Nat → List Nat
 | .broken _, _ => []
 | .ware, y => [y]
 | .split k a b, y => a.leaves (y ||| 2 ^ k) ++ b.leaves y
def CT.depth : CT → Nat
 | .broken _ => 0
 | .ware => 0
 | .split _ a b => max a.depth b.depth + 1
def CT.small : CT → Prop
 | .broken _ => True
 | .ware => True
 | .split k a b => k ≤ 1000 ∧ a.small ∧ b.small
theorem zek {ts : List Tie} {il : List Nat} {m : Nat} (hm : m ≤ 1000) : ∀ (f y n : Nat), (zb0 ts il m f y n).small
 | f, y, n => by
  unfold zb0
  cases zbp ts il y n with
  | some t => trivial
  | none =>
   dsimp only
   cases hl : za8 m y n with
   | nil => trivial
   | cons k r =>
    cases f with
    | zero => trivial
    | succ f =>
     have hk : k ∈ za8 m y n := by rw [hl]; exact List.mem_cons_self
     have := (mem_open.mp hk).1
     exact ⟨by omega, zek hm f (y ||| 2 ^ k) n, zek hm f y (n ||| 2 ^ k)⟩
theorem zer : ∀ (t : CT) (y : Nat), (t.leaves y).length ≤ 2 ^ t.depth
 | .broken _, _ => Nat.zero_le _
 | .ware, _ => Nat.le_refl _
 | .split k a b, y => by
  rw [CT.leaves, List.length_append, CT.depth, Nat.pow_succ]
  have h1 := zer a (y ||| 2 ^ k)
  have h2 := zer b y
  have h3 : 2 ^ a.depth ≤ 2 ^ (max a.depth b.depth) := Nat.pow_le_pow_right (by decide) (Nat.le_max_left _ _)
  have h4 : 2 ^ b.depth ≤ 2 ^ (max a.depth b.depth) := Nat.pow_le_pow_right (by decide) (Nat.le_max_right _ _)
  omega
theorem zet {ts : List Tie} {il : List Nat} {m : Nat} : ∀ (f y n : Nat), (zb0 ts il m f y n).depth ≤ f
 | f, y, n => by
  unfold zb0
  cases zbp ts il y n with
  | some t => exact Nat.zero_le _
  | none =>
   dsimp only
   cases za8 m y n with
   | nil => exact Nat.zero_le _
   | cons k r =>
    cases f with
    | zero => exact Nat.zero_le _
    | succ f =>
     show max _ _ + 1 ≤ f + 1
     have h1 := zet (ts := ts) (il := il) (m := m) f (y ||| 2 ^ k) n
     have h2 := zet (ts := ts) (il := il) (m := m) f y (n ||| 2 ^ k)
     omega
theorem zdu {m : Nat} {ts : List Tie} {il : List Nat} (ok : ∀ t ∈ ts, t.Ok m) : ∀ (f y n : Nat), (za8 m y n).length ≤ f → Stand m y n → ∀ s, s ∈ (zb0 ts il m f y n).leaves y ↔ (s < 2 ^ m ∧ InS y n s ∧ zkm ts il s = true)
 | f, y, n, hf, S, s => by
  unfold zb0
  cases hb : zbp ts il y n with
  | some i =>
   obtain ⟨hi, hsb⟩ := zkh hb
   constructor
   ·intro h; cases h
   ·rintro ⟨sm, hs, hk⟩
    have := (List.all_eq_true.mp hk) i hi
    rw [zou ok S.dj hsb hs] at this
    cases this
  | none =>
   have hn := zgo hb
   dsimp only
   cases hl : za8 m y n with
   | nil =>
    show s ∈ [y] ↔ _
    rw [List.mem_singleton]
    constructor
    ·rintro rfl
     exact ⟨S.ym, zg2 S.dj, List.all_eq_true.mpr fun i hi => zo9 ok S.dj hl (hn i hi)⟩
    ·rintro ⟨sm, hs, _⟩
     exact zne S hl hs sm
   | cons k r =>
    have hk : k ∈ za8 m y n := by rw [hl]; exact List.mem_cons_self
    cases f with
    | zero => rw [hl] at hf; simp at hf
    | succ f =>
     have l1 := zei hk
     have l2 := zel hk
     show s ∈ (zb0 ts il m f (y ||| 2 ^ k) n).leaves (y ||| 2 ^ k) ++ (zb0 ts il m f y (n ||| 2 ^ k)).leaves y ↔ _
     rw [List.mem_append, zdu ok f (y ||| 2 ^ k) n (by omega) (S.one hk), zdu ok f y (n ||| 2 ^ k) (by omega) (S.other hk)]
     constructor
     ·rintro (⟨a, b, c⟩ | ⟨a, b, c⟩)
      ·exact ⟨a, inS_split.mpr (.inl b), c⟩
      ·exact ⟨a, inS_split.mpr (.inr b), c⟩
     ·rintro ⟨a, b, c⟩
      rcases (inS_split (k := k)).mp b with b | b
      ·exact .inl ⟨a, b, c⟩
      ·exact .inr ⟨a, b, c⟩
end Wd
set_option maxRecDepth 100000
set_option maxHeartbeats 4000000
namespace L2
open PySem PySem.Spec PyProof.Rows
section
variable {X : Cx}
theorem zp5 {prog : Program} {w : World} {A : Around} {E : Value → Shared → Prop} {s : Shared} {t b : Addr} {ws : List Value} {Q : Value → Shared → Prop} (ht : IsTup s.heap t ([] : List Value).toArray) (hb : IsTup s.heap b ws.toArray) (h : Q (.ref b) s) :
  wpAny (model prog w) A (binaryOp .Add (.ref t) (.ref b)) Q E s := by
 obtain ⟨⟨cls, dd, data, sl⟩, ho, hc, n, hd⟩ := id ht
 obtain ⟨⟨cls2, dd2, data2, sl2⟩, ho2, hc2, n2, hd2⟩ := id hb
 simp only at hc hd hc2 hd2
 subst hc hd hc2 hd2
 exact concat_meets ⟨_, ho, rfl⟩ ⟨_, ho2, rfl⟩ noFill_tuple_add seq_tuple_add PySem.F.slot_tuple_add PySem.F.entry_tuple_add (PySem.F.args_tuple_add_2 _ _)
  (tuple_addW0 t b ([] : List Value).toArray ws.toArray n n2 dd dd2 sl sl2 (by simp)) ⟨ho, ho2, h⟩
theorem zd6 : OpR X (binaryOp .Add) (fun x y H Q => ∃ a b xs ys, x = .ref a ∧ y = .ref b ∧ H a = some (.tup xs) ∧ H b = some (.tup ys) ∧ xs.length + ys.length ≤ sizeLine ∧ ∀ c H', Same H H' → H' c = some (.tup (xs ++ ys)) → Q (.ref c) H') := by
 intro pins s σ H x y v u Q I rx ry h
 obtain ⟨a, b, xs, ys, rfl, rfl, ha, hb, hz, q⟩ := h
 by_cases hx : xs = []
 ·subst hx
  cases rx
  cases ry
  obtain ⟨its, r1, p1, _⟩ := I.tuple (.inl (.inl ha))
  obtain ⟨its2, r2, p2, _⟩ := I.tuple (.inl (.inl hb))
  cases r1
  exact zp5 p1 p2 ⟨.ref b, H, I, rfl, q b H (Same.refl H) hb⟩
 ·refine zq5 pins s σ H _ _ v u Q I rx ry ⟨a, b, xs, ys, rfl, rfl, .inl (.inl ha), .inl (.inl hb), hx, hz, fun e => ?_, fun _ p hp => ?_⟩
  ·refine q a H (Same.refl H) ?_
   rw [e, List.append_nil]
   exact ha
  ·exact q p _ (zgq fun b o e => by rw [zan (zaq e hp)]; exact e) zaf
end
end L2
namespace Wd
open PySem L2 Ow
def CT.toD : CT → PyData
 | .broken t => .tuple [.str ("broken" : Str), .int (t : Int)]
 | .ware => .tuple [.str ("ware" : Str)]
 | .split k a b => .tuple [.str ("split" : Str), .int (k : Int), a.toD, b.toD]
theorem zoh {H : Hp} {t : Nat} {v : V} (h : Dn H (CT.broken t).toD v) : ∃ p, v = .ref p ∧ H p = some (.tup [.str ("broken" : Str), .int (t : Int)]) := by
 obtain ⟨p, xs, rfl, hp, xu, r1, rfl, hu, xl, r2, rfl, hlo, hnil⟩ := zcu h
 cases (show r2 = [] from hnil)
 cases (show xu = .str ("broken" : Str) from hu)
 cases zdj hlo
 exact ⟨p, rfl, hp⟩
theorem zry {H : Hp} {v : V} (h : Dn H CT.ware.toD v) : ∃ p, v = .ref p ∧ H p = some (.tup [.str ("ware" : Str)]) := by
 obtain ⟨p, xs, rfl, hp, xu, r1, rfl, hu, hnil⟩ := zcu h
 cases (show r1 = [] from hnil)
 cases (show xu = .str ("ware" : Str) from hu)
 exact ⟨p, rfl, hp⟩
theorem zpt {H : Hp} {k : Nat} {a b : CT} {v : V} (h : Dn H (CT.split k a b).toD v) : ∃ p va vb, v = .ref p ∧ H p = some (.tup [.str ("split" : Str), .int (k : Int), va, vb]) ∧ Dn H a.toD va ∧ Dn H b.toD vb := by
 obtain ⟨p, xs, rfl, hp, xu, r1, rfl, hu, xl, r2, rfl, hlo, va, r3, rfl, ha, vb, r4, rfl, hb, hnil⟩ := zcu h
 cases (show r4 = [] from hnil)
 cases (show xu = .str ("split" : Str) from hu)
 cases zdj hlo
 exact ⟨p, va, vb, rfl, hp, ha, hb⟩
theorem zl7 : ¬ V.str ("broken" : Str) = V.str ("ware" : Str) := ziz (by decide +kernel)
theorem zkv : ¬ V.str ("broken" : Str) = V.str ("split" : Str) := ziz (by decide +kernel)
theorem zmv : ¬ V.str ("split" : Str) = V.str ("ware" : Str) := ziz (by decide +kernel)
theorem zj6 : ¬ V.str ("split" : Str) = V.str ("broken" : Str) := ziz (by decide +kernel)
abbrev zb4 (l : List Nat) : List V := l.map fun k : Nat => V.int (k : Int)
def zrl : Sp := fun vs H Q _ => ∃ n k : Nat, vs = [.int n, .int k] ∧ k ≤ 1000 ∧ Q (.int ((n ||| 2 ^ k : Nat) : Int)) H
def zso : Sp := fun vs H Q _ => ∃ m y n : Nat, vs = [.int m, .int y, .int n] ∧ m ≤ 900 ∧ ∀ (l : Addr) (H' : Hp), Same H H' → H l = none → H' l = some (.lst (zb4 (za8 m y n))) → Q (.ref l) H'
def zoz : Sp := fun vs H Q _ => ∃ (wd : Addr) (m : Nat) (ts : List Tie) (tl : Addr) (il : List Nat) (y n : Nat), vs = [.ref wd, .ref tl, .int y, .int n] ∧ WoodT H wd m ts ∧ H tl = some (.lst (zb4 il)) ∧ (∀ i ∈ il, i < ts.length) ∧ ∀ H', Same H H' → Q (zss (zbp ts il y n)) H'
def zpz (f : Nat) : Sp := fun vs H Q _ => ∃ (wd : Addr) (m : Nat) (ts : List Tie) (tl : Addr) (il : List Nat) (y n : Nat), vs = [.ref wd, .ref tl, .int y, .int n] ∧ WoodT H wd m ts ∧ H tl = some (.lst (zb4 il)) ∧ (∀ i ∈ il, i < ts.length) ∧ (za8 m y n).length ≤ f ∧ ∀ (v : V) (H' : Hp), Same H H' → Dn H' (zb0 ts il m f y n).toD v → Q v H'
def zhv (ts : List Tie) : List Nat := List.range ts.length
theorem zl9 (ts : List Tie) (s : Nat) : zkm ts (zhv ts) s = ts.all fun t => t.keep s := by
 unfold zkm zhv
 rw [Bool.eq_iff_iff, List.all_eq_true, List.all_eq_true]
 constructor
 ·intro h t ht
  obtain ⟨i, hi, rfl⟩ := List.getElem_of_mem ht
  have := h i (List.mem_range.mpr hi)
  unfold zgc at this
  rw [List.getElem?_eq_getElem hi] at this
  exact this
 ·intro h i hi
  unfold zgc
  rw [List.getElem?_eq_getElem (List.mem_range.mp hi)]
  exact h _ (List.getElem_mem _)
def zrf : Sp := fun vs H Q _ => ∃ (wd : Addr) (m : Nat) (ts : List Tie) (y n : Nat), vs = [.ref wd, .int y, .int n] ∧ WoodT H wd m ts ∧ m ≤ 9 ∧ ∀ (v : V) (H' : Hp), Same H H' → Dn H' (zb0 ts (zhv ts) m 9 y n).toD v → Q v H'
def zie (f : Nat) : Sp := fun vs H Q _ => ∃ (y : Nat) (t : CT) (v : V), vs = [.int y, v] ∧ Dn H t.toD v ∧ t.depth ≤ f ∧ f ≤ 9 ∧ CT.small t ∧ ∀ (l : Addr) (H' : Hp), Same H H' → H l = none → H' l = some (.lst (zb4 (t.leaves y))) → Q (.ref l) H'
end Wd
set_option maxRecDepth 100000
set_option maxHeartbeats 4000000
namespace L2
open PySem PySem.Spec PyProof.Rows
section
variable {X : Cx}
theorem zo0 (hu : X.A.units + 64 < cLine) : OpR X (compareOp .Eq) (fun x y H Q => ∃ (a b : Addr) (xs : List V), x = .ref a ∧ y = .ref b ∧ H a = some (.lst xs) ∧ H b = some (.lst []) ∧ Q (.bl (decide (xs = []))) H) := by
 intro pins s σ H x y v u Q I rx ry h
 obtain ⟨a, b, xs, rfl, rfl, ha, hb, q⟩ := h
 by_cases hx : xs = []
 ·subst hx
  refine zmx hu pins s σ H _ _ v u Q I rx ry ⟨a, b, [], [], rfl, rfl, SqL.of ha, SqL.of hb, ?_⟩
  exact q
 ·cases rx
  cases ry
  obtain ⟨its, n, r1, e1, _⟩ := I.lst ha
  obtain ⟨its2, n2, r2, e2, _⟩ := I.lst hb
  cases r2
  have hl := r1.length
  rw [decide_eq_false hx] at q
  refine PySem.P.eq_list_lengths e1 e2 ?_ (by omega) ⟨.bl false, H, I, rfl, q⟩
  cases its with
  | nil => cases r1; exact absurd rfl hx
  | cons c r => simp
end
end L2
namespace Wd
open PySem L2 Ow
theorem zsr {K : PySem.W.Frag} {H : Hp} {pen a : Addr} {xs : List V} {o : HO} (h : SqL K H a xs) (hp : H pen = none) : ∀ H', SameX pen (L2.upd H pen o) H' → SqL K H' a xs := fun H' s => by
 have keep : ∀ u, H a = some u → KpX pen (L2.upd H pen o) H' a u := fun u e => s a u (zaq e hp) (by rw [zan (zaq e hp)]; exact e)
 rcases h with (h | ⟨u, h⟩) | h
 ·exact .inl (.inl (keep _ h))
 ·exact .inl (.inr ⟨u, keep _ h⟩)
 ·exact .inr h
theorem zrz {K : PySem.W.Frag} {H : Hp} {pen sp : Addr} {ns : List Int} (h : SqL K H sp (ns.map V.int)) (hl : ns.length ≤ 63) (hp : H pen = none) : Pen K (L2.upd H pen (.lst [.ref sp, .int 0])) pen sp ns 0 := ⟨zaf, hl, zsr h hp⟩
end Wd
set_option maxRecDepth 100000
set_option maxHeartbeats 4000000
namespace L2
open PySem PySem.Spec PyProof.Rows
def zle : Option Stmt → Expr
 | some (Stmt.Return (some e) _) => e
 | _ => .Constant .none 0 ⟨0, 0, 0, 0⟩
section
variable {X : Cx} {tg iter elt : Expr} {cs : List Expr} {sc sc0 : Scope} {pos : Pos} {wi : TI} {g : TG} {tc : TT} {te : TE} {XN N' : List Str} {n : Nat} {kp : List Nat}
theorem piL {K : PySem.W.Frag} {l : Expr} {tl : TE} (hl : PE X l tl) (h : X.K = K := by rfl) : PI X tg l (zsf K tl) := h ▸ zrt hl
theorem piT {K : PySem.W.Frag} {l : Expr} {tl : TE} (hl : PE X l tl) (h : X.K = K := by rfl) : PI X tg l (ztr K tl) := h ▸ zs4 hl
end
end L2
set_option maxRecDepth 100000
set_option maxHeartbeats 4000000
namespace Wd
open PySem L2 Ow
end Wd
set_option maxRecDepth 100000
set_option maxHeartbeats 4000000
namespace Wd
open PySem L2 Ow
theorem zpm (k : Nat) (op : List Nat) : inV (.int (k : Int)) (zb4 op) = decide (k ∈ op) := by
 induction op with
 | nil => rfl
 | cons a r ih =>
  have e : inV (.int (k : Int)) (zb4 (a :: r)) = (eqV (.int (a : Int)) (.int (k : Int)) || inV (.int (k : Int)) (zb4 r)) := rfl
  rw [e, ih]
  have e2 : eqV (.int (a : Int)) (.int (k : Int)) = decide (k = a) := by
   show ((a : Int) == (k : Int)) = _
   by_cases z : k = a
   ·subst z; simp
   ·rw [decide_eq_false z]
    simpa using fun h => z (by omega)
  rw [e2]
  simp [List.mem_cons, Bool.decide_or]
theorem zox (op : List Nat) : (zb4 op).all zgn = true := by
 rw [List.all_eq_true]
 intro x hx
 obtain ⟨i, _, rfl⟩ := List.mem_map.mp hx
 rfl
end Wd
set_option maxRecDepth 100000
set_option maxHeartbeats 4000000
namespace L2
open PySem PySem.Spec PyProof.Rows
def zg6 (f : Addr) (qual : Str) (params : Arguments) (body : Expr) (scope : Scope) (cl : List (Str × Addr)) (c : Addr) : Heap → Prop :=
 fun h => ∃ (pm ctv : Value), h.get? f = some (PySem.W.kla_obj "<lambda>" qual params body scope cl pm c ctv)
structure LamB (mg : Str → Option Value) (base : Heap) (c P : Addr) : Prop where
 code : PySem.W.CodeHd base c P
 blt : ∃ bm ob, mg "__builtins__" = some (.ref bm) ∧ bm ≠ builtinsNs ∧ base.get? bm = some ob ∧ ob.cls = .type "module" ∧ ob.dict = some builtinsNs ∧ ob.data = .plain
theorem zhf {P : Program} {w : World} {H : Hp} {h : Heap} {a : Addr} {φ : Heap → Prop} (hH : H a = some (.ext φ)) (ok : HOk P w H h) : φ h := (ok a _ hH).1
section
variable {X : Cx} {params : Arguments} {body : Expr} {scope : Scope} {pos : Pos} {c P : Addr}
theorem zg8 (hc : X.env.code = .ref c) (B : LamB X.mg X.base c P) (hdef : defaultsOf params X.env = ([], [])) (hfr : ∀ y ∈ scope.names, y.2 = .free → ∃ c, X.env.cells.lookup y.1 = some c) :
  PE X (.Lambda params body scope pos) (fun σ H Q => zdk H P ∧ ∀ (f c' : Addr) (H1 : Hp), H f = none → Same H H1 →
   H1 f = some (.ext (zg6 f (X.env.qual ++ "<lambda>") params body scope (ze3 scope X.env) c')) → H1 c' = some (.ext (zec c')) → Q (.ref f) H1) := by
 intro pins s σ H Q I hq
 obtain ⟨⟨ps, hP, tr, hps⟩, q⟩ := hq
 refine PySem.W.kla_eval hdef ?_
 have hP' : s.heap.get? P = some (PySem.W.tabObj ps) := I.hok P _ hP
 have hg : s.heap.Ns mainGlobals X.mg := I.mod.glob.keeps I.bk
 have C : PySem.W.CodeHd s.heap c P := B.code.keeps I.bk
 have hgP : mainGlobals ≠ P := fun z => by
  obtain ⟨o, es, ep, e, hd, _⟩ := hg
  rw [z, hP'] at e; cases e; cases hd
 have hb : s.heap.BuiltinsAt X.mg P := by
  obtain ⟨bm, ob, b1, b2, b3, b4, b5, b6⟩ := B.blt
  have b3' := I.bk _ _ b3
  refine ⟨bm, ob, b1, b2, fun z => ?_, fun z => ?_, b3', b4, b5, b6⟩
  ·obtain ⟨o, es, ep, e, hd, _⟩ := hg
   rw [z, e] at b3'; cases b3'; rw [hd] at b6; cases b6
  ·rw [z, hP'] at b3'; cases b3'; cases b4
 have hcl : closureFor scope X.env = pure (ze3 scope X.env) := zn1 hfr
 rcases hps pos with hnf | ⟨c', hf, hc'⟩
 ·refine PySem.W.kla_makeFunction hcl I.ok.glob hg hc C hP' tr hnf hgP hb fun c' ctv h' tk hx hge hlt hrec htb => ?_
  have szP : P < s.heap.objs.size := Heap.lt_size hP'
  have hcn : H c' = none := I.hok.fresh hge
  have hfn : H h'.objs.size = none := I.hok.fresh (Nat.le_trans hge (Nat.le_of_lt hlt))
  have cf : c' ≠ h'.objs.size := Nat.ne_of_lt hlt
  have cP : c' ≠ P := Nat.ne_of_gt (Nat.lt_of_lt_of_le szP hge)
  have fP : h'.objs.size ≠ P := Nat.ne_of_gt (Nat.lt_of_lt_of_le szP (Nat.le_trans hge (Nat.le_of_lt hlt)))
  have keep : ∀ b o, b ≠ P → s.heap.get? b = some o → (h'.push (PySem.W.kla_obj "<lambda>" (X.env.qual ++ "<lambda>") params body scope (ze3 scope X.env) ((X.mg "__name__").getD .none) c' ctv)).get? b = some o := fun b o hb e => Heap.get?_push_of_some _ (hx b o hb e)
  obtain ⟨c2, oc, vs, t, e2, hoc, hd, hv⟩ := hrec
  cases e2
  let H1 : Hp := upd (upd (upd H P (.tbl (ps ++ #[rawInt pos.line, rawInt pos.col, .ref c']))) c' (.ext (zec c'))) h'.objs.size (.ext (zg6 h'.objs.size (X.env.qual ++ "<lambda>") params body scope (ze3 scope X.env) c'))
  have H1f : H1 h'.objs.size = some (.ext (zg6 h'.objs.size (X.env.qual ++ "<lambda>") params body scope (ze3 scope X.env) c')) := zaf
  have H1c : H1 c' = some (.ext (zec c')) := by show upd _ _ _ c' = _; rw [zan cf, zaf]
  have H1P : H1 P = some (.tbl (ps ++ #[rawInt pos.line, rawInt pos.col, .ref c'])) := by show upd _ _ _ P = _; rw [zan (Ne.symm fP), zan (Ne.symm cP), zaf]
  have H1o : ∀ b, b ≠ h'.objs.size → b ≠ c' → b ≠ P → H1 b = H b := fun b n1 n2 n3 => by show upd _ _ _ b = _; rw [zan n1, zan n2, zan n3]
  have old : ∀ b u, H b = some u → b ≠ h'.objs.size ∧ b ≠ c' := fun b u e => ⟨zaq e hfn, zaq e hcn⟩
  have oldE : ∀ b, H b = some (.ext (zec b)) → H1 b = some (.ext (zec b)) := fun b e => by rw [H1o b (old b _ e).1 (old b _ e).2 (fun z => by rw [z, hP] at e; cases e)]; exact e
  have tabs : zdk H1 P := ⟨_, H1P, by rw [Array.toList_append]; exact TriplesOk_snoc _ _ _ _ tr, fun p' => by
   rw [Array.toList_append]
   rcases zi6 (pos := p') (pos' := pos) (c := .ref c') ps.toList tr with z | z
   ·rcases hps p' with y | ⟨d, y1, y2⟩
    ·exact .inl (z.trans y)
    ·exact .inr ⟨d, z.trans y1, oldE d y2⟩
   ·exact .inr ⟨c', z, H1c⟩⟩
  have same : Same H H1 := fun b o e => by
   by_cases hbP : b = P
   ·subst hbP
    rw [hP] at e
    cases e
    exact ⟨⟨_, H1P⟩, fun _ => tabs⟩
   ·exact Kp.of e (by rw [H1o b (old b _ e).1 (old b _ e).2 hbP]; exact e) oldE
  have un : Un X.fs [] H H1 s.heap (h'.push (PySem.W.kla_obj "<lambda>" (X.env.qual ++ "<lambda>") params body scope (ze3 scope X.env) ((X.mg "__name__").getD .none) c' ctv)) := by
   have np : ∀ b, H b = none → b ≠ P := fun b n z => by rw [z, hP] at n; cases n
   refine ⟨fun b o e n _ _ => keep b o (np b n) e, fun b o e n _ _ => ⟨o.slots, keep b o (np b n) e⟩, fun b o e n _ => ?_, fun b o e _ => ?_, fun b xs e => ?_, fun b o u e => ?_, fun b qs e => ?_⟩
   ·have l := Heap.lt_size e
    rw [H1o b (Nat.ne_of_lt (Nat.lt_trans (Nat.lt_of_lt_of_le l hge) hlt)) (Nat.ne_of_lt (Nat.lt_of_lt_of_le l hge)) (np b n)]
    exact n
   ·by_cases hbP : b = P
    ·subst hbP
     exact ⟨_, Heap.get?_push_of_some _ htb⟩
    ·exact ⟨o, keep b o hbP e⟩
   ·rw [H1o b (old b _ e).1 (old b _ e).2 (fun z => by rw [z, hP] at e; cases e)]
    exact e
   ·rw [H1o b (old b _ e).1 (old b _ e).2 (fun z => by rw [z, hP] at e; cases e)]
    exact e
   ·by_cases hbP : b = P
    ·subst hbP
     rw [hP] at e
     cases e
     exact ⟨_, H1P⟩
    ·exact ⟨#[], by rw [H1o b (old b _ e).1 (old b _ e).2 hbP, e]; simp⟩
  have hok : HOk X.prog X.w H1 (h'.push (PySem.W.kla_obj "<lambda>" (X.env.qual ++ "<lambda>") params body scope (ze3 scope X.env) ((X.mg "__name__").getD .none) c' ctv)) := fun b u e => by
   by_cases h1 : b = h'.objs.size
   ·subst h1
    rw [H1f] at e
    cases e
    exact ⟨⟨_, _, Heap.get?_push_size _ rfl⟩, ⟨_, Heap.get?_push_size _ rfl⟩, fun h1 h2 ⟨pm, cv, z⟩ k => ⟨pm, cv, k _ z⟩⟩
   ·by_cases h2 : b = c'
    ·subst h2
     rw [H1c] at e
     cases e
     exact ⟨⟨oc, vs, _, t, Heap.get?_push_of_some _ hoc, hd, hv⟩, ⟨_, Heap.get?_push_of_some _ hoc⟩, fun h1 h2 ⟨o, v, qq, tt, z1, z2, z3⟩ k => ⟨o, v, qq, tt, k _ z1, z2, z3⟩⟩
    ·by_cases h3 : b = P
     ·subst h3
      rw [H1P] at e
      cases e
      exact Heap.get?_push_of_some _ htb
     ·rw [H1o b h1 h2 h3] at e
      refine (I.hok b u e).stay (fun b' o' hb' e' => ?_) (fun b' e' => ?_) fun b' xs e' => ?_
      ·refine keep b' o' ?_ e'
       rcases hb' with z | z
       ·rw [z]; exact h3
       ·intro z2; rw [z2, hP] at z; cases z
      ·rw [H1o b' (old b' _ e').1 (old b' _ e').2 (fun z => by rw [z, hP] at e'; cases e')]; exact e'
      ·rw [H1o b' (old b' _ e').1 (old b' _ e').2 (fun z => by rw [z, hP] at e'; cases e')]; exact e'
  exact ⟨.ref h'.objs.size, H1, I.un un hok, rfl, q _ c' H1 hfn same H1f H1c⟩
 ·refine PySem.W.kla_makeFunctionHit hcl I.ok.glob hg hc C hP' tr hf hb fun ctv h' tk hk hsz => ?_
  have hfn : H h'.objs.size = none := I.hok.fresh hsz
  have keep : ∀ b o, s.heap.get? b = some o → (h'.push { cls := .type "function", data := .func (PySem.W.kla_fn "<lambda>" (X.env.qual ++ "<lambda>") params body scope (ze3 scope X.env) ((X.mg "__name__").getD .none) (.ref c') ctv) }).get? b = some o := fun b o e => Heap.get?_push_of_some _ (hk b o e)
  have same : Same H (upd H h'.objs.size (.ext (zg6 h'.objs.size (X.env.qual ++ "<lambda>") params body scope (ze3 scope X.env) c'))) := zgq fun b u e => by rw [zan (zaq e hfn)]; exact e
  refine ⟨.ref h'.objs.size, _, I.un (Un.laid keep hsz hfn) (I.hok.laid keep hsz ?_), rfl, q _ c' _ hfn same zaf (same c' _ hc')⟩
  exact ⟨⟨_, _, Heap.get?_push_size _ rfl⟩, ⟨_, Heap.get?_push_size _ rfl⟩, fun h1 h2 ⟨pm, cv, z⟩ k => ⟨pm, cv, k _ z⟩⟩
end
def zdb (h : Heap) (H : Hp) (st : List Env) : Heap := PySem.W.hideAll h (trk h H ++ frs st)
section
variable {X : Cx} {pins : List (Addr × Obj)} {σ : St} {H : Hp} {s : Shared}
theorem ziw {h : Heap} {H : Hp} {st : List Env} {b : Addr} {o : Obj} (e : (zdb h H st).get? b = some o) : h.get? b = some o ∧ H b = none ∧ b ∉ frs st := by
 have e' : h.get? b = some o := PySem.W.of_hideAll _ e
 refine ⟨e', ?_, fun z => ?_⟩
 ·cases q : H b with
  | none => rfl
  | some x =>
   have hm : b ∈ trk h H := List.mem_filter.mpr ⟨List.mem_range.mpr (Heap.lt_size e'), by simp [q]⟩
   have z : (zdb h H st).get? b = none := PySem.W.hideAll_none _ (List.mem_append_left _ hm)
   rw [z] at e; cases e
 ·have y : (zdb h H st).get? b = none := PySem.W.hideAll_none _ (List.mem_append_right _ z)
  rw [y] at e; cases e
theorem zfc {h : Heap} {H : Hp} {st : List Env} {b : Addr} {o : Obj} (e : h.get? b = some o) (n : H b = none) (hf : b ∉ frs st) : (zdb h H st).get? b = some o :=
 PySem.W.hideAll_get _ e fun hm => by
  rcases List.mem_append.mp hm with z | z
  ·have q : (H b).isSome = true := (List.mem_filter.mp z).2
   rw [n] at q; simp at q
  ·exact hf z
theorem Inv.noStk (I : Inv X pins σ H s) {b : Addr} {o : Obj} (e : X.base.get? b = some o) : b ∉ frs X.stack := fun hb => by
 have := (I.stack.mem hb).1
 rw [e] at this; cases this
theorem Inv.now (I : Inv X pins σ H s) : zqo X.prog X.w X.K X.mg (zdb s.heap H X.stack) X.A X.stack s H := by
 have up : ∀ b o, X.base.get? b = some o → (zdb s.heap H X.stack).get? b = some o := fun b o e => zfc (I.bs b o e).1 (I.bs b o e).2 (I.noStk e)
 obtain ⟨mb, h1, h2⟩ := I.mod.blt
 refine ⟨I.ok.frames, ⟨I.mod.kin.keeps up, I.mod.glob.keeps up, ⟨mb, h1.keeps up, h2⟩, I.mod.nolimit.keeps up⟩, fun b o e => ⟨(ziw e).1, (ziw e).2.1⟩, Nat.le_of_eq (PySem.W.hideAll_size _ _), ?_, I.stkFree, I.hok, I.bare⟩
 have go : ∀ l : List Env, (∀ b ∈ frs l, b ∈ frs X.stack) → s.heap.FunFrames X.base l → s.heap.FunFrames (zdb s.heap H X.stack) l := by
  intro l
  induction l with
  | nil => intro _ _; trivial
  | cons env r ih =>
   intro hs hl
   obtain ⟨hk, ⟨L, o, hf, hn, ho, hd⟩, hr⟩ := hl
   have hL : L ∈ frs X.stack := hs L (by unfold frs; rw [List.filterMap_cons, hf]; exact List.mem_cons_self)
   refine ⟨hk, ⟨L, o, hf, ?_, ho, hd⟩, ih (fun b hb => hs b (by unfold frs; rw [List.filterMap_cons, hf]; exact List.mem_cons_of_mem _ hb)) hr⟩
   exact PySem.W.hideAll_none _ (List.mem_append_right _ hL)
 exact go X.stack (fun _ h => h) I.stack
theorem Inv.nowCell (I : Inv X pins σ H s) {x : Str} {c : Addr} {v : Option Value} (hf : X.fn x = true) (hc : X.env.cells.lookup x = some c) (h : s.heap.IsCell c v) : (zdb s.heap H X.stack).IsCell c v := by
 obtain ⟨o, ho, hd⟩ := h
 refine ⟨o, zfc ho (I.freeC x c hc) fun z => ?_, hd⟩
 rcases List.mem_cons.mp (I.stkSub c z) with e | e
 ·exact I.cne x c hc e
 ·obtain ⟨_, ob, e2, _⟩ := I.ok.funs.mem e
  exact absurd (Nat.lt_of_lt_of_le (Heap.lt_size e2) (I.ok.cab x c hf hc)) (Nat.lt_irrefl _)
end
section
variable {X : Cx} {k : Nat} {f : Addr} {fd : FuncData} {ps : List Str} {x : Str} {p pos : Pos} {e : Expr} {es : List Expr} {t : TA}
def zh7 (X : Cx) (σ : St) (base : Heap) : Prop := ∀ (i : Nat) (y : Str) (v : V), X.N[i]? = some y → σ[i]? = some (some v) → X.env.kindOf y = some .cell → ∃ c u, X.env.cells.lookup y = some c ∧ RelV v u ∧ base.IsCell c (some u)
theorem zi0 (hr : Room k X.A) (hg : Gl X x) (hm : X.mg x = some (.ref f)) (hk : PySem.W.keepIn X.K (.ref f) = true) (hb : Binds X.K fd ps []) (hfn : ∀ y, X.fn y = true)
  (ha : PA X (e :: es) t) (hdb : (x == ("__debug__" : Str)) = false := by decide) (he : starEach (e :: es) X.env = (false, eval e X.env) :: starEach es X.env := by rfl) (hpl : (backTo pos (starEach es X.env)).any (·.1) = false := by rfl) :
  PE X (.Call (.Name x p) (e :: es) [] pos) (fun σ H Q => t σ H fun vs H1 => ∀ base : Heap, zh7 X σ base → X.K.In base → base.Ns mainGlobals X.mg → ∃ sp : Sp, FnOk X.prog X.w X.K X.mg base CX0 k f fd ps sp ∧ sp vs H1 Q E0) := by
 intro pins s σ H Q I h
 refine wpAny_Call_Name_kw (zfo I hg hm ?_ hdb)
 refine PySem.W.callWith_K (h₀ := X.base) I.ok.mod.kin hk (thn (ha pos pins s σ H _ I h) fun us s1 ⟨vs, H1, I1, r, q⟩ => ⟨I1.kIn, ?_⟩) he hpl
 have e0 := I1.now
 have ci : zh7 X σ (zdb s1.heap H1 X.stack) := fun i y v hN hv hk => by
  obtain ⟨m, hn, hl⟩ := I1.loc
  obtain ⟨u, ru, l⟩ := hl i y v hN hv (.inr (.inl hk))
  rcases l with ⟨hk', _⟩ | ⟨_, c, hc, hcell⟩
  ·rw [hk] at hk'; cases hk'
  ·exact ⟨c, u, hc, ru, I1.nowCell (hfn y) hc hcell⟩
 obtain ⟨sp, F, hs⟩ := q _ ci e0.mod.kin e0.mod.glob
 have hl : us.length = ps.length := by rw [← r.length]; exact F.len _ _ _ _ hs
 have hbb := hb s1 us I1.kIn (by rw [List.append_nil]; exact hl)
 rw [List.append_nil] at hbb
 refine wpAny_call (codeAny_mono (F.run X.A X.stack s1 H1 ⟨us, []⟩ us vs Q E0 hr e0 hbb r hs) fun r s' hq => ?_)
 cases r with
 | error e => exact hq.elim
 | ok fl =>
  cases fl with
  | ret u => exact I1.after hq
  | next => exact False.elim hq
  | brk => exact False.elim hq
  | cont => exact False.elim hq
theorem zld {i : Nat} {φ : Heap → Prop} {sp : Sp} (F : FnOk X.prog X.w X.K X.mg X.base CX0 k f fd ps sp) (hr : Room k X.A) (hN : X.N[i]? = some x) (hv : Vis X.env.scope x) (hb : Binds X.K fd ps [])
  (hφ : ∀ h : Heap, φ h → ∃ o fd', h.get? f = some o ∧ o.data = .func fd') (ha : PA X (e :: es) t)
  (hdb : (x == ("__debug__" : Str)) = false := by decide) (hcd : (x == ("__classdict__" : Str)) = false := by decide) (he : starEach (e :: es) X.env = (false, eval e X.env) :: starEach es X.env := by rfl) (hpl : (backTo pos (starEach es X.env)).any (·.1) = false := by rfl) :
  PE X (.Call (.Name x p) (e :: es) [] pos) (fun σ H Q => σ[i]? = some (some (.ref f)) ∧ t σ H fun vs H1 => H1 f = some (.ext φ) ∧ sp vs H1 Q E0) := by
 intro pins s σ H Q I h
 obtain ⟨hσ, h⟩ := h
 refine wpAny_Call_Name_kw (wpAny_mono (znj hN hv hdb hcd pins s σ H (fun v H' => v = .ref f ∧ H' = H) I ⟨_, hσ, rfl, rfl⟩) (fun u s1 hu => ?_) fun _ _ z => z)
 obtain ⟨v, H', I', rv, e1, e2⟩ := hu
 subst e1
 subst e2
 obtain rfl : u = Value.ref f := rv
 have h2 : wpAny (model X.prog X.w) X.A (spliced (backTo pos (starEach (e :: es) X.env))) (fun vs s₁ => (∃ o fd', s₁.heap.get? f = some o ∧ o.data = .func fd') ∧ wpAny (model X.prog X.w) X.A (call (.ref f) ([] ++ vs)) (EP X pins σ Q) X.xe s₁) X.xe s1 := by
  refine thn (ha pos pins s1 σ _ _ I' h) fun us s2 ⟨vs, H1, I1, r, e3, q⟩ => ⟨hφ _ (zhf e3 I1.hok), ?_⟩
  have hq := znc (ds := []) (dvs := []) (E := E0) F hr hb .nil zal I1 r (by rw [List.append_nil]; exact q)
  exact hq
 rw [he] at h2
 show wpAny _ _ (callWith pos (.ref f) [] (backTo pos (starEach (e :: es) X.env)) []) _ _ s1
 rw [he]
 refine PySem.W.callWith_of (by show ((false || (backTo pos (starEach es X.env)).any (·.1)) || false) = false; rw [hpl]; rfl) (P := fun h => ∃ o fd', h.get? f = some o ∧ o.data = .func fd') (fun h ⟨o, fd', e1, e2⟩ => ?_) (Calls.evalArgs_plain h2)
 obtain ⟨oc, od, od', os⟩ := o
 cases e2
 exact ⟨.frame, .inl rfl, (PySem.W.Looks.ld (part := none) e1).andThen .now⟩
end
structure zfi (ps fr : List Str) (sc : Scope) : Prop where
 kind : sc.kind = .function
 co : sc.isCoroutine = false
 gen : sc.isGenerator = false
 nd : ps.Nodup
 par : ∀ x ∈ ps, sc.names.lookup x = some .local
 fre : ∀ x ∈ fr, sc.names.lookup x = some .free
 nocell : ∀ y ∈ sc.names, y.2 ≠ .cell
theorem ze1 {ps : List Str} {us : List Value} {i : Nat} {x : Str} {u : Value} (nd : ps.Nodup) (h1 : ps[i]? = some x) (h2 : us[i]? = some u) : (ps.zip us).reverse.lookup x = some u := by
 have hm : (x, u) ∈ (ps.zip us).reverse := List.mem_reverse.mpr (List.mem_of_getElem? (i := i) (by rw [List.getElem?_zip_eq_some]; exact ⟨h1, h2⟩))
 obtain ⟨c, hc⟩ := ze4 hm
 have h3 := List.mem_reverse.mp (PySem.mem_of_lookup hc)
 obtain ⟨j, hj⟩ := List.getElem?_of_mem h3
 rw [List.getElem?_zip_eq_some] at hj
 have hij : j = i := by
  obtain ⟨l1, e1⟩ := List.getElem?_eq_some_iff.mp h1
  obtain ⟨l2, e2⟩ := List.getElem?_eq_some_iff.mp hj.1
  rw [List.nodup_iff_pairwise_ne, List.pairwise_iff_getElem] at nd
  rcases Nat.lt_trichotomy j i with z | z | z
  ·exact absurd (e2.trans e1.symm) (nd j i l2 l1 z)
  ·exact z
  ·exact absurd (e1.trans e2.symm) (nd i j l1 l2 z)
 rw [hij, h2] at hj
 rw [hc, hj.2]
def zla (P : Program) (w : World) (K : PySem.W.Frag) (mg : Str → Option Value) (base : Heap) (N : List Str) (q : Str) (scope : Scope) (f c : Addr) (cl : List (Str × Addr)) (A : Around) (outer : List Env) (s : Shared) (H : Hp) : Cx where
 prog := P
 w := w
 K := K
 mg := mg
 base := base
 A := A.deeper (PySem.W.envX q scope s.heap.objs.size f (.ref c) cl)
 N := N
 s₀ := s
 H₀ := H
 env := PySem.W.envX q scope s.heap.objs.size f (.ref c) cl
 outer := outer
 stack := PySem.W.envX q scope s.heap.objs.size f (.ref c) cl :: outer
 ex := []
 calm := true
 fn := fun _ => false
 pn := []
 xe := fun _ _ => False
theorem zk6 {prog : Program} {w : World} {A : Around} {R : Result → Shared → Prop} {s : Shared} {a : Addr} {args : Args} {o : Obj} {fd : FuncData} {body : Expr} {q : Str} (hroom : A.depth < recursionLimit)
  (ho : s.heap.get? a = some o)
  (hd' : o.data = .func fd) (hco : fd.scope.isCoroutine = false) (hgen : fd.scope.isGenerator = false) (hbody : fd.body = .expr body) (hcd : ∃ c oc vs t, fd.code = .ref c ∧ s.heap.get? c = some oc ∧ oc.data = .fields vs ∧ vs[1]? = some (.str q t))
  (h : wpAny (model prog w) A.in1 (bindArgs fd args) (fun binds s₁ =>
   wpAny (model prog w) A.in1 (newFunctionEnv fd.scope fd.globals fd.closure binds (q ++ ".<locals>.") (some a) fd.code none fd.builtins)
    (fun env s₂ => s₂.heap.NoLimit ∧ codeAny (model prog w) A (.expr body env) R s₂) (fun e s' => R (.error e) s') s₁) (fun e s' => R (.error e) s') s) :
  codeAny (model prog w) A (.call (.ref a) args) R s := by
 refine codeAny_of_tree ?_
 show wpAny _ A.in1 (callAny (.ref a) args) _ _ s
 simp only [callAny]
 refine wpAny_bind (wpAny_load ho ?_)
 obtain ⟨c, oc, vs, tq, hc, hoc, hdc, hq⟩ := hcd
 simp only [hd', callFunction, hco, hgen, hbody, hc]
 rw [hc] at h
 refine wpAny_bind (m := field (.ref c) 1) (wpAny_field hoc hdc hq (wpAny_bind (wpAny_pure ?_)))
 exact wpAny_bind (wpAny_mono h (fun binds s₁ h₁ => wpAny_bind (wpAny_mono h₁ (fun env s₂ h₂ => wpAny_bind (wpAny_enterFrame h₂.1 hroom
  (wpAny_pure (And.intro rfl h₂.2)))) fun _ _ h' => h')) fun _ _ h' => h')
theorem zpp {P : Program} {w : World} {K : PySem.W.Frag} {mg : Str → Option Value} {base : Heap} {f c : Addr} {qual : Str} {params : Arguments} {body : Expr} {scope : Scope} {cl : List (Str × Addr)} {ps fr : List Str} {fv : List V} {k : Nat} {sp : Sp}
  (S : zfi ps fr scope) (hcl : ∀ x cc, cl.lookup x = some cc → ∃ v, base.IsCell cc v) (inj : ∀ x y cc, cl.lookup x = some cc → cl.lookup y = some cc → x = y) (has : ∀ y ∈ scope.names, y.2 = .free → ∃ cc, cl.lookup y.1 = some cc)
  (hfv : ∀ (i : Nat) (x : Str) (v : V), fr[i]? = some x → fv[i]? = some v → ∃ cc u, cl.lookup x = some cc ∧ RelV v u ∧ base.IsCell cc (some u)) (hlen : fv.length = fr.length)
  (hsame : ∀ pm ctv args, bindArgs (PySem.W.kla_fn "<lambda>" qual params body scope cl pm (.ref c) ctv) args = bindArgs (PySem.W.kla_fn "<lambda>" qual params body scope cl .none (.ref c) .none) args)
  (len : ∀ vs H Q E, sp vs H Q E → vs.length = ps.length)
  (lam : ∀ vs H Q E, sp vs H Q E → H f = some (.ext (zg6 f qual params body scope cl c)) ∧ H c = some (.ext (zec c)))
  (hbody : ∀ (q : Str) (A : Around) (outer : List Env) (s : Shared) (H : Hp) (vs : List V) (Q : VK) (E : XK), Room k (A.deeper (PySem.W.envX q scope s.heap.objs.size f (.ref c) cl)) → sp vs H Q E →
   ∃ t, PE (zla P w K mg base (ps ++ fr) q scope f c cl A outer s H) body t ∧ t (vs.map some ++ fv.map some) H Q) :
  FnOk P w K mg base CX0 (k + 1) f (PySem.W.kla_fn "<lambda>" qual params body scope cl .none (.ref c) .none) ps sp := by
 refine ⟨len, fun A outer s H args us vs Q E hr e0 hb r hsp => ?_⟩
 have hl := len _ _ _ _ hsp
 obtain ⟨hf, hc⟩ := lam _ _ _ _ hsp
 obtain ⟨pm, ctv, ho⟩ := zhf hf e0.hok
 obtain ⟨oc, vsc, q, t, hoc, hdc, hqc⟩ := zhf hc e0.hok
 have lim : s.heap.NoLimit := e0.mod.nolimit.keeps fun b o e => (e0.bs b o e).1
 have toS : ∀ {cc v}, base.IsCell cc v → s.heap.IsCell cc v ∧ H cc = none := fun {cc v} ⟨o, e, d⟩ => ⟨⟨o, (e0.bs _ _ e).1, d⟩, (e0.bs _ _ e).2⟩
 refine zk6 hr.depth ho rfl S.co S.gen rfl ⟨c, oc, vsc, t, rfl, hoc, hdc, hqc⟩ ?_
 rw [hsame]
 refine hb _ _ _ _ ?_
 have hloc : ∀ y ∈ ps.zip us, scope.names.lookup y.1 = some .local := fun ⟨n, v⟩ hy => S.par n (List.of_mem_zip hy).1
 refine wpAny_newFunctionEnv S.nocell hloc (fun h₁ hns hsb => ?_) S.kind
 have hk₁ : ∀ b o, s.heap.get? b = some o → h₁.get? b = some o := fun b o e => hsb.extBut b o (Nat.ne_of_lt (Heap.lt_size e)) (Heap.get?_push_of_some _ e)
 refine ⟨lim.keeps hk₁, ?_⟩
 obtain ⟨tt, ht, hq⟩ := hbody q A outer s H vs Q E (hr.deeper _) hsp
 have noA : ∀ b : Addr, b ∉ ([] : List Addr) := fun b z => by simp at z
 have kinds : ∀ x, (scope.names.lookup x = some .cell ∨ scope.names.lookup x = some .free) → ∃ cc, cl.lookup x = some cc := fun x hx => by
  rcases hx with z | z
  ·exact absurd rfl (S.nocell _ (PySem.mem_of_lookup z))
  ·exact has _ (PySem.mem_of_lookup z) rfl
 have I : Inv (zla P w K mg base (ps ++ fr) q scope f c cl A outer s H) [] (vs.map some ++ fv.map some) H { s with heap := h₁, toks := s.toks + (ps.zip us).length } := by
  refine ⟨⟨e0.mod, S.kind, rfl, rfl, Nat.le_refl _, inj, kinds, fun x cc z => (by cases z), fun _ => hr.hd, Around.frames_deeper e0.frames, .inr ⟨rfl, rfl⟩, fun b z => absurd z (noA b), e0.bs, e0.bsz, fun b _ _ => noA b, fun b z => absurd z (noA b), e0.funs, e0.frf⟩,
   rfl, e0.bare, Un.kept hk₁, ⟨_, hns, fun i x v h1 h2 h3 => ?_⟩, fun x cc e => ?_, e0.hok.fresh (Nat.le_refl _), fun x cc e => ?_, fun p hp => absurd (show p ∈ ([] : List (Addr × Obj)) from hp) (by simp), e0.hok.kept hk₁, ?_⟩
  ·have h1' : (ps ++ fr)[i]? = some x := h1
   by_cases hi : i < ps.length
   ·rw [List.getElem?_append_left hi] at h1'
    rw [List.getElem?_append_left (by rw [List.length_map, hl]; exact hi), List.getElem?_map] at h2
    obtain ⟨v', hv, e⟩ := Option.map_eq_some_iff.mp h2
    cases e
    obtain ⟨u, hu, rv⟩ := r.get hv
    exact ⟨u, rv, .inl ⟨S.par x (List.mem_of_getElem? h1'), ze1 S.nd h1' hu⟩⟩
   ·rw [List.getElem?_append_right (by omega)] at h1'
    rw [List.getElem?_append_right (by rw [List.length_map, hl]; omega), List.getElem?_map, List.length_map, hl] at h2
    obtain ⟨v', hv, e⟩ := Option.map_eq_some_iff.mp h2
    cases e
    obtain ⟨cc, u, e1, ru, ic⟩ := hfv _ _ _ h1' hv
    exact ⟨u, ru, .inr ⟨.inr (S.fre x (List.mem_of_getElem? h1')), cc, e1, (toS ic).1.keeps hk₁⟩⟩
  ·obtain ⟨v, ic⟩ := hcl x cc e
   exact ⟨v, (toS ic).1.keeps hk₁⟩
  ·obtain ⟨v, ic⟩ := hcl x cc e
   exact (toS ic).2
  ·show (vs.map some ++ fv.map some).length = (ps ++ fr).length
   rw [List.length_append, List.length_append, List.length_map, List.length_map, hl, hlen]
 refine PySem.W.kla_codeExpr (wpAny_mono (ht [] _ _ H _ I hq) (fun u s' hs => ?_) fun e s' hs => hs.elim)
 obtain ⟨v, H', J, rv, qq⟩ := hs
 exact ⟨v, H', J.os, J.bare, J.base, J.hok, rv, qq⟩
theorem Fun.okC {P : Program} {w : World} {K : PySem.W.Frag} {mg : Str → Option Value} {base : Heap} {x qual : Str} {st : Stmt} {f : Addr} {fd : FuncData} {N ps : List Str} {k : Nat} {sp : Sp} (F : Fun K x qual st f fd) (S : zav N ps (zab st)) (len : ∀ vs H Q E, sp vs H Q E → vs.length = ps.length)
  (hbody : ∀ (cdv : Value) (A : Around) (outer : List Env) (s : Shared) (H : Hp) (vs : List V) (Q : VK) (E : XK), fd.code = cdv → Room k (A.deeper (envOfC qual (zab st) s.heap.objs.size f cdv)) → sp vs H Q E →
   ∃ t, PSs (zcj CX0 P w K mg base N qual (zab st) f cdv A outer s H E).nox (zah st) t ∧ t { nx := fun _ H' => Q .non H', rt := Q } (zf1 N vs) H) : FnOk P w K mg base CX0 (k + 1) f fd ps sp := by
 obtain ⟨oc, od, kV, doc, pm, an, cdv, ct, osl, rfl, lk, hcd⟩ := F.ex
 refine zqb lk hcd S len fun A outer s H vs Q E hr hsp => ?_
 obtain ⟨t, h, q⟩ := hbody cdv A outer s H vs Q E rfl hr hsp
 exact ⟨t, h.nox, q⟩
theorem zog {P : Program} {w : World} {K : PySem.W.Frag} {mg mb : Str → Option Value} {k : Nat} {fa a : Addr} {fd : FuncData} {x : Str} {sp : Sp} {s₁ : Shared} {vs : List Value} {ns : List Int} {tabs : List (Addr × Addr)}
  (KX : K.In s₁.heap) (hns : s₁.heap.Ns mainGlobals mg) (hb : s₁.heap.Ns builtinsNs mb) (hbb : ∀ x : Str, x ≠ "__name__" → mb x = bootBuiltins x) (hlim : s₁.heap.NoLimit) (hg : s₁.gens = #[])
  (hT : PySem.W.TabsAt tabs s₁.heap) (hK0 : PySem.W.noTabs K = true)
  (hbm : ∃ bm ob, mg "__builtins__" = some (.ref bm) ∧ bm ≠ builtinsNs ∧ s₁.heap.get? bm = some ob ∧ ob.cls = .type "module" ∧ ob.dict = some builtinsNs ∧ ob.data = .plain)
  (ha : s₁.heap.get? a = some { cls := .type "list", data := .seq vs.toArray }) (hi : IntsAre vs ns) (hl : ns.length ≤ sizeLine) (hr : Room k callerA)
  (F : ∀ base : Heap, K.In base → base.Ns mainGlobals mg → (∀ q ∈ tabs, LamB mg base q.1 q.2) → FnOk P w K mg base CX0 k fa fd [x] sp) (hbind : ∀ (s : Shared) (u : Value), BindsTo s fd ⟨[u], []⟩ [(x, u)])
  (hsp : ∀ H : Hp, (∀ q ∈ tabs, zdk H q.2) → SqL K H a (ns.map V.int) → sp [.ref a] H (fun v _ => v = .bl true) fun _ _ _ => False) :
  codeAny (model P w) callerA (.call (.ref fa) ⟨[.ref a], []⟩) (fun r s' => r = .ok (.ret (.bool true)) ∧ OldK s₁.heap s'.heap ∧ s'.os = s₁.os ∧ AllBare s'.gens) s₁ := by
 have rv := zhc hi
 have lenV := hi.length
 have hPa : ∀ q ∈ tabs, q.2 ≠ a := fun q hq z => by
  have e := (hT q hq).2
  rw [z, ha] at e; cases e
 have hKP : ∀ q ∈ tabs, K.lookup q.2 = none := fun q hq => by
  cases e : K.lookup q.2 with
  | none => rfl
  | some o =>
   have e1 := KX _ _ e
   rw [(hT q hq).2] at e1
   cases e1
   have h2 := List.all_eq_true.mp hK0 (q.2, _) (PySem.W.mem_of_lookupK e)
   exact absurd (show false = true from h2) Bool.false_ne_true
 have core : ∀ H : Hp, (∀ b, H b = none ∨ (∃ o xs, H b = some (.frz o (.lst xs)) ∧ b = a ∧ K.lookup a = none) ∨ (H b = some (.tbl #[]) ∧ b ∈ tabs.map (·.2))) → (∀ q ∈ tabs, H q.2 = some (.tbl #[])) → SqL K H a (ns.map V.int) → HOk P w H s₁.heap →
   codeAny (model P w) callerA (.call (.ref fa) ⟨[.ref a], []⟩) (fun r s' => r = .ok (.ret (.bool true)) ∧ OldK s₁.heap s'.heap ∧ s'.os = s₁.os ∧ AllBare s'.gens) s₁ := by
  intro H hO hTb hS hok
  have noP : ∀ {b : Addr} {o : Obj}, s₁.heap.get? b = some o → o ≠ PySem.W.tabObj #[] → b ≠ a → H b = none := fun {b o} e hne hba => by
   rcases hO b with z | ⟨_, _, _, z, _⟩ | ⟨_, z⟩
   ·exact z
   ·exact absurd z hba
   ·obtain ⟨q, hq, rfl⟩ := List.mem_map.mp z
    rw [(hT q hq).2] at e
    exact absurd (Option.some.inj e).symm hne
  have base_of : ∀ {b : Addr} {o : Obj}, s₁.heap.get? b = some o → H b = none → (zje s₁.heap H).get? b = some o := fun e n => zpf e n
  have noA : ∀ {b : Addr} {o : Obj} {es : Array DictEntry} {ep : Nat}, s₁.heap.get? b = some o → o.data = .dict es ep → H b = none := fun {b o es ep} e d => by
   refine noP e (fun z => by rw [z] at d; cases d) fun z => ?_
   subst z
   rw [ha] at e; cases e; cases d
  have nsK : ∀ {b : Addr} {m : Str → Option Value}, s₁.heap.Ns b m → (zje s₁.heap H).Ns b m := fun {b m} ⟨o, es, ep, e, d, r⟩ => ⟨o, es, ep, base_of e (noA e d), d, r⟩
  have hKb : K.In (zje s₁.heap H) := fun b o e => base_of (KX b o e) (by
   rcases hO b with z | ⟨_, _, _, z, y⟩ | ⟨_, z⟩
   ·exact z
   ·rw [z, y] at e; cases e
   ·obtain ⟨q, hq, rfl⟩ := List.mem_map.mp z
    rw [hKP q hq] at e; cases e)
  have hM : Mod K mg (zje s₁.heap H) := ⟨hKb, nsK hns, ⟨mb, nsK hb, hbb⟩, let ⟨mc, h1, h2⟩ := hlim; ⟨mc, nsK h1, h2⟩⟩
  have hL : ∀ q ∈ tabs, LamB mg (zje s₁.heap H) q.1 q.2 := fun q hq => by
   refine ⟨?_, ?_⟩
   ·obtain ⟨o, ws, file, tf, flags, tg, inF, text, tt, e, e1, r⟩ := (hT q hq).1
    refine ⟨o, ws, file, tf, flags, tg, inF, text, tt, base_of e (noP e (fun z => by rw [z] at e1; cases e1) fun z => ?_), e1, r⟩
    rw [z, ha] at e; cases e; exact absurd e1 (by simp)
   ·obtain ⟨bm, ob, b1, b2, b3, b4, b5⟩ := hbm
    refine ⟨bm, ob, b1, b2, base_of b3 (noP b3 (fun z => by rw [z] at b4; cases b4) fun z => ?_), b4, b5⟩
    rw [z, ha] at b3; cases b3; exact absurd b4 (by simp)
  have e0 : zqo P w K mg (zje s₁.heap H) callerA [] s₁ H := ⟨rfl, hM, fun b o e => zrr e, Nat.le_of_eq (zop _ _), trivial, fun b hb => absurd (show b ∈ ([] : List Addr) from hb) (by simp), hok, .of_eq hg⟩
  have tk : ∀ q ∈ tabs, zdk H q.2 := fun q hq => ⟨#[], hTb q hq, trivial, fun _ => .inl rfl⟩
  refine codeAny_mono ((F _ hKb (nsK hns) hL).run callerA [] s₁ H ⟨[.ref a], []⟩ [.ref a] [.ref a] _ _ hr e0 (hbind s₁ (.ref a)) (.cons rfl .nil) (hsp H tk hS)) fun r s' h => ?_
  cases r with
  | error e => exact h.elim
  | ok fl =>
   cases fl with
   | next => exact False.elim h
   | brk => exact False.elim h
   | cont => exact False.elim h
   | ret u =>
    obtain ⟨v, H', os, bare, un, hok', r', q⟩ := h
    have q' : v = .bl true := q
    subst q'
    obtain rfl : u = Value.bool true := r'
    have cases3 : ∀ b o, s₁.heap.get? b = some o → s'.heap.get? b = some o ∨ (∃ q ∈ tabs, b = q.2 ∧ ∃ ps, s'.heap.get? b = some (PySem.W.tabObj ps)) := fun b o e => by
     rcases hO b with z | ⟨ob, xs, z, _⟩ | ⟨z, y⟩
     ·exact .inl (un.keep b o e z (by intro z; exact absurd (show b ∈ ([] : List Addr) from z) (by simp)) (by simp))
     ·have z2 := un.frzs b ob _ z
      obtain ⟨e1, _⟩ := hok b _ z
      obtain ⟨e2, _⟩ := hok' b _ z2
      rw [e] at e1; cases e1
      exact .inl e2
     ·obtain ⟨q, hq, rfl⟩ := List.mem_map.mp y
      obtain ⟨more, z2⟩ := un.tbls _ _ z
      exact .inr ⟨q, hq, rfl, _, hok' _ _ z2⟩
    refine ⟨rfl, ⟨fun b o e => ?_, fun b o e => ?_⟩, os, bare⟩
    ·rcases cases3 b o e with z | ⟨q, hq, rfl, ps, z⟩
     ·exact .inl z
     ·have e2 := (hT q hq).2
      rw [e] at e2
      cases e2
      exact .inr (.inl ⟨((hT q hq).1.tab (hT q hq).2).isCodeTable, rfl, #[], ps, rfl, by rw [Array.empty_append]; exact z⟩)
    ·rcases cases3 b o e with z | ⟨q, hq, rfl, ps, z⟩
     ·exact ⟨_, z⟩
     ·exact ⟨_, z⟩
 have memT : ∀ b, b ∈ tabs.map (·.2) → s₁.heap.get? b = some (PySem.W.tabObj #[]) := fun b hb => by
  obtain ⟨q, hq, rfl⟩ := List.mem_map.mp hb
  exact (hT q hq).2
 cases hk : K.lookup a with
 | some o =>
  have e := KX a o hk
  rw [ha] at e
  cases e
  refine core (fun b => if b ∈ tabs.map (·.2) then some (.tbl #[]) else none) (fun b => ?_) (fun q hq => if_pos (List.mem_map_of_mem hq)) (.inr ⟨_, vs.toArray, _, hk, rfl, rfl, rfl, by rw [List.size_toArray, lenV]; exact hl, by simpa using rv⟩) (fun b u z => ?_)
  ·by_cases hb : b ∈ tabs.map (·.2)
   ·exact .inr (.inr ⟨if_pos hb, hb⟩)
   ·exact .inl (if_neg hb)
  ·by_cases hb : b ∈ tabs.map (·.2)
   ·have z' := (if_pos hb).symm.trans z
    cases z'
    exact memT b hb
   ·have z' := (if_neg hb).symm.trans z
    cases z'
 | none =>
  refine core (fun b => if b = a then some (.frz { cls := .type "list", data := .seq vs.toArray } (.lst (ns.map V.int))) else if b ∈ tabs.map (·.2) then some (.tbl #[]) else none) (fun b => ?_) (fun q hq => ?_) (.inl (.inr ⟨{ cls := .type "list", data := .seq vs.toArray }, if_pos rfl⟩)) (fun b u z => ?_)
  ·by_cases hb : b = a
   ·exact .inr (.inl ⟨_, _, if_pos hb, hb, hk⟩)
   ·by_cases hb2 : b ∈ tabs.map (·.2)
    ·exact .inr (.inr ⟨(if_neg hb).trans (if_pos hb2), hb2⟩)
    ·exact .inl ((if_neg hb).trans (if_neg hb2))
  ·exact (if_neg (hPa q hq)).trans (if_pos (List.mem_map_of_mem hq))
  ·by_cases hb : b = a
   ·have z' := (if_pos hb).symm.trans z
    cases z'
    subst hb
    exact ⟨ha, by rw [List.length_map]; exact hl, vs, _, rv, ha⟩
   ·have z1 := (if_neg hb).symm.trans z
    by_cases hb2 : b ∈ tabs.map (·.2)
    ·have z' := (if_pos hb2).symm.trans z1
     cases z'
     exact memT b hb2
    ·have z' := (if_neg hb2).symm.trans z1
     cases z'
theorem walk_ofT {l : PySem.W.OpenLaw} {n k : Nat} {q : Program} {loose : List Str} {XP : (Str → Option Value) → Heap → Prop} {YP : World → Heap → Prop} {d : DefRec} {K : Params → PySem.W.Frag} {sp : World → Sp} {x : Str} {tabs : World → List (Addr × Addr)}
  (hn : l.most = some n) (hn2 : n ≤ sizeLine) (hdf : d.params.defaults = []) (hr : Room k callerA)
  (hY : ∀ (w : World) (h : Heap), YP w h → (K w.params).In h) (hK0 : ∀ w : World, PySem.W.noTabs (K w.params) = true)
  (hT : ∀ (w : World) (h : Heap), YP w h → PySem.W.TabsAt (tabs w) h)
  (F : ∀ (w : World) (mg : Str → Option Value) (fa : Addr) (h : Heap), (K w.params).In h → h.Ns mainGlobals mg → mg d.name = some (.ref fa) →
   ∃ fd : FuncData, (∀ (s : Shared) (u : Value), BindsTo s fd ⟨[u], []⟩ [(x, u)]) ∧
    ∀ base : Heap, (K w.params).In base → base.Ns mainGlobals mg → (∀ p ∈ tabs w, LamB mg base p.1 p.2) → FnOk l.prog w (K w.params) mg base CX0 k fa fd [x] (sp w))
  (hsp : ∀ (w : World) (H : Hp) (a : Addr) (ns : List Int), ns.length ≤ n → (∀ p ∈ tabs w, zdk H p.2) → SqL (K w.params) H a (ns.map V.int) → sp w [.ref a] H (fun v _ => v = .bl true) fun _ _ _ => False) :
  PySem.W.WalkO q loose XP YP l.row.toRowW d [] (fun f vs => PySem.call f vs) := by
 refine Att.attach_call hn hdf fun w s₀ s₁ mg mb fa o pm cd doc a vs ns G Y ho hd hcd hmg hobj hints hlen hg => ?_
 have KX := hY w _ Y
 obtain ⟨fd, hb, hF⟩ := F w mg fa _ KX G.T.g hmg
 have hTT := hT w _ Y
 exact zog KX G.T.g G.T.b G.T.builtins G.T.nolimit hg hTT (hK0 w) G.T.bmain hobj hints (Nat.le_trans hlen hn2) hr hF hb fun H hO hS => hsp w H a ns hlen hO hS
def zc0 : Expr → Expr
 | .Call _ args _ _ => args.getLastD (.Constant .none 0 ⟨0, 0, 0, 0⟩)
 | e => e
def zcq : Expr → Scope
 | .Lambda _ _ sc _ => sc
 | _ => { kind := .function, names := [], isGenerator := false, isCoroutine := false }
theorem zco {x y : Str} {c cc : Addr} (h : [(y, c)].lookup x = some cc) : x = y ∧ cc = c := by
 have m := PySem.mem_of_lookup h
 rw [List.mem_singleton] at m
 cases m
 exact ⟨rfl, rfl⟩
end L2
set_option maxRecDepth 100000
set_option maxHeartbeats 4000000
namespace Wd
open PySem L2 Ow
theorem zro {b : Bool} {A B : Prop} (hb : b = true) (h : A) : if b = true then A else B := by
 rw [if_pos hb]
 exact h
theorem znz {b : Bool} {A B : Prop} (hb : b = false) (h : B) : if b = true then A else B := by
 rw [if_neg (by rw [hb]; simp)]
 exact h
def spT (P0 : Addr) (sp : Sp) : Sp := fun vs H Q E => zdk H P0 ∧ sp vs H Q E
def zdy (ts : List Tie) (il : List Nat) (m : Nat) (leaf : Nat → Nat → Option PyData) : Nat → Nat → Nat → PyData
 | f, y, n => match zbp ts il y n with
  | some t => .tuple [.str ("broken" : Str), .int (t : Int)]
  | none => match leaf y n with
   | some d => d
   | none => match za8 m y n, f with
    | k :: _, f + 1 => .tuple [.str ("split" : Str), .int (k : Int), zdy ts il m leaf f (y ||| 2 ^ k) n, zdy ts il m leaf f y (n ||| 2 ^ k)]
    | _, _ => .tuple []
section
variable {ts : List Tie} {il : List Nat} {m f y n : Nat} {leaf : Nat → Nat → Option PyData}
theorem zgk {i : Nat} (hb : zbp ts il y n = some i) : zdy ts il m leaf f y n = .tuple [.str ("broken" : Str), .int (i : Int)] := by
 unfold zdy
 simp [hb]
theorem zid {d : PyData} (hb : zbp ts il y n = none) (hl : leaf y n = some d) : zdy ts il m leaf f y n = d := by
 unfold zdy
 simp [hb, hl]
theorem zho {k : Nat} {r : List Nat} (hb : zbp ts il y n = none) (hl : leaf y n = none) (ho : za8 m y n = k :: r) : zdy ts il m leaf (f + 1) y n = .tuple [.str ("split" : Str), .int (k : Int), zdy ts il m leaf f (y ||| 2 ^ k) n, zdy ts il m leaf f y (n ||| 2 ^ k)] := by
 conv => lhs; unfold zdy
 simp only [hb, hl, ho]
end
def zge (leaf : Nat → Nat → Option PyData) (y n : Nat) (H : Hp) (v : V) : Prop := match leaf y n with
 | none => v = .non
 | some d => Dn H d v ∧ ∃ p, v = .ref p
def ztd (C : Hp → Prop) (leaf : Nat → Nat → Option PyData) : Sp := fun vs H Q _ => ∃ y n : Nat, vs = [.int y, .int n] ∧ C H ∧ ∀ (v : V) (H' : Hp), Same H H' → zge leaf y n H' v → Q v H'
def EndsR (ts : List Tie) (il : List Nat) (m : Nat) (leaf : Nat → Nat → Option PyData) (y n : Nat) : Prop := ∃ R : Nat → Nat → Prop, R y n ∧ (∀ y n k, R y n → k ∈ za8 m y n → R (y ||| 2 ^ k) n ∧ R y (n ||| 2 ^ k)) ∧ ∀ y n, R y n → zbp ts il y n = none → za8 m y n = [] → leaf y n ≠ none
theorem EndsR.all {ts : List Tie} {il : List Nat} {m : Nat} {leaf : Nat → Nat → Option PyData} (h : ∀ y n, zbp ts il y n = none → za8 m y n = [] → leaf y n ≠ none) (y n : Nat) : EndsR ts il m leaf y n := ⟨fun _ _ => True, trivial, fun _ _ _ _ _ => ⟨trivial, trivial⟩, fun y n _ => h y n⟩
def zj7 (f : Nat) (p : Addr) (C : Hp → Prop) (m : Nat) (leaf : Nat → Nat → Option PyData) : Sp := fun vs H Q _ => ∃ (wd : Addr) (ts : List Tie) (tl : Addr) (il : List Nat) (y n : Nat), vs = [.ref wd, .ref tl, .int y, .int n, .ref p] ∧ WoodT H wd m ts ∧ H tl = some (.lst (zb4 il)) ∧ (∀ i ∈ il, i < ts.length) ∧ (za8 m y n).length ≤ f ∧ C H ∧ EndsR ts il m leaf y n ∧ ∀ (v : V) (H' : Hp), Same H H' → Dn H' (zdy ts il m leaf f y n) v → Q v H'
theorem zpr {P : Program} {w : World} {K : PySem.W.Frag} {mg : Str → Option Value} {base : Heap} {p c : Addr} {qual : Str} {params : Arguments} {body : Expr} {scope : Scope} {cl : List (Str × Addr)} {H1 : Hp} {ps fr : List Str} {fv : List V} {k : Nat} {leaf : Nat → Nat → Option PyData} (C0 : Hp → Prop)
  (hp : H1 p = some (.ext (zg6 p qual params body scope cl c)))
  (S : zfi ps fr scope) (hcl : ∀ x cc, cl.lookup x = some cc → ∃ v, base.IsCell cc v) (inj : ∀ x y cc, cl.lookup x = some cc → cl.lookup y = some cc → x = y) (has : ∀ y ∈ scope.names, y.2 = .free → ∃ cc, cl.lookup y.1 = some cc)
  (hfv : ∀ (i : Nat) (x : Str) (v : V), fr[i]? = some x → fv[i]? = some v → ∃ cc u, cl.lookup x = some cc ∧ RelV v u ∧ base.IsCell cc (some u)) (hlen : fv.length = fr.length)
  (hsame : ∀ pm ctv args, bindArgs (PySem.W.kla_fn "<lambda>" qual params body scope cl pm (.ref c) ctv) args = bindArgs (PySem.W.kla_fn "<lambda>" qual params body scope cl .none (.ref c) .none) args)
  (len2 : ps.length = 2)
  (hbody : ∀ (q : Str) (A : Around) (outer : List Env) (s : Shared) (H : Hp) (y n : Nat) (Q : VK), Room k (A.deeper (PySem.W.envX q scope s.heap.objs.size p (.ref c) cl)) → C0 H → (∀ (v : V) (H' : Hp), Same H H' → zge leaf y n H' v → Q v H') →
   ∃ t, PE (zla P w K mg base (ps ++ fr) q scope p c cl A outer s H) body t ∧ t ([some (.int y), some (.int n)] ++ fv.map some) H Q) :
  FnOk P w K mg base CX0 (k + 1) p (PySem.W.kla_fn "<lambda>" qual params body scope cl .none (.ref c) .none) ps (ztd (fun H => C0 H ∧ H p = some (.ext (zg6 p qual params body scope cl c)) ∧ H c = some (.ext (zec c))) leaf) := by
 refine zpp S hcl inj has hfv hlen hsame (fun vs H Q E h => ?_) (fun vs H Q E h => ?_) (fun q A outer s H vs Q E hr h => ?_)
 ·obtain ⟨y, n, rfl, _⟩ := h
  exact len2.symm
 ·obtain ⟨y, n, rfl, ⟨_, h1, h2⟩, _⟩ := h
  exact ⟨h1, h2⟩
 ·obtain ⟨y, n, rfl, ⟨h0, _, _⟩, q'⟩ := h
  exact hbody q A outer s H y n Q hr h0 q'
theorem zfl {p : Addr} {qual : Str} {params : Arguments} {body : Expr} {scope : Scope} {cl : List (Str × Addr)} {c : Addr} (h : Heap) (x : zg6 p qual params body scope cl c h) : ∃ o fd', h.get? p = some o ∧ o.data = .func fd' := by
 obtain ⟨pm, ctv, e⟩ := x
 exact ⟨_, _, e, rfl⟩
def zdh (m : Nat) (y n : Nat) : Option PyData := if za8 m y n = [] then some (.tuple [.str ("ware" : Str)]) else none
theorem zf3 {ts : List Tie} {il : List Nat} {m : Nat} : ∀ (f y n : Nat), (za8 m y n).length ≤ f → zdy ts il m (zdh m) f y n = (zb0 ts il m f y n).toD
 | f, y, n, hf => by
  cases hb : zbp ts il y n with
  | some i => rw [zgk hb, zf2 hb]; rfl
  | none =>
   cases ho : za8 m y n with
   | nil => rw [zid hb (by unfold zdh; rw [if_pos ho]), zht hb ho]; rfl
   | cons k r =>
    cases f with
    | zero => rw [ho] at hf; simp at hf
    | succ f =>
     have hk : k ∈ za8 m y n := by rw [ho]; exact List.mem_cons_self
     have l1 := zei hk
     have l2 := zel hk
     rw [zho hb (by unfold zdh; rw [if_neg (by rw [ho]; simp)]) ho, zgi hb ho, zf3 f _ _ (by omega), zf3 f _ _ (by omega)]
     rfl
end Wd
set_option maxRecDepth 100000
set_option maxHeartbeats 4000000
namespace L2
open PySem PySem.Spec PyProof.Rows
section
variable {prog : Program} {w : World} {A : Around} {E : Value → Shared → Prop} {s : Shared}
end
end L2
namespace Wd
open PySem L2 Ow
end Wd
set_option maxRecDepth 100000
set_option maxHeartbeats 4000000
namespace Wd
open PySem L2 Ow
def zc6 (m : Nat) (ts : List Tie) : List Nat := (List.range (2 ^ m)).filter fun s => zde ts s
theorem mem_wareL {m : Nat} {ts : List Tie} {s : Nat} : s ∈ zc6 m ts ↔ s < 2 ^ m ∧ zde ts s = true := by
 unfold zc6
 rw [List.mem_filter, List.mem_range]
theorem zll (m : Nat) (ts : List Tie) : (zc6 m ts).Pairwise (· < ·) := List.Pairwise.filter _ List.pairwise_lt_range
theorem zo2 {m : Nat} {ts : List Tie} (m9 : m ≤ 9) : (zc6 m ts).length ≤ 512 := by
 have h1 : (zc6 m ts).length ≤ 2 ^ m := by
  have := List.length_filter_le (fun s => zde ts s) (List.range (2 ^ m))
  rwa [List.length_range] at this
 exact Nat.le_trans h1 (Nat.pow_le_pow_right (by decide) m9 : 2 ^ m ≤ 2 ^ 9)
theorem zeg {m : Nat} {ts : List Tie} {il : List Nat} (ok : ∀ t ∈ ts, t.Ok m) : ∀ (f y n : Nat), (za8 m y n).length ≤ f → Stand m y n → ((zb0 ts il m f y n).leaves y).Nodup
 | f, y, n, hf, S => by
  cases hb : zbp ts il y n with
  | some i => rw [zf2 hb]; exact List.nodup_nil
  | none =>
   cases ho : za8 m y n with
   | nil => rw [zht hb ho]; exact List.nodup_cons.mpr ⟨List.not_mem_nil, List.nodup_nil⟩
   | cons k r =>
    have hk : k ∈ za8 m y n := by rw [ho]; exact List.mem_cons_self
    cases f with
    | zero => rw [ho] at hf; simp at hf
    | succ f =>
     have l1 := zei hk
     have l2 := zel hk
     rw [zgi hb ho]
     show ((zb0 ts il m f (y ||| 2 ^ k) n).leaves (y ||| 2 ^ k) ++ (zb0 ts il m f y (n ||| 2 ^ k)).leaves y).Nodup
     refine List.nodup_append.mpr ⟨zeg ok f _ _ (by omega) (S.one hk), zeg ok f _ _ (by omega) (S.other hk), fun a ha b hb' e => ?_⟩
     subst e
     have h1 := ((zdu ok f _ _ (by omega) (S.one hk) a).mp ha).2.1.1 k (by rw [Nat.testBit_or, Nat.testBit_two_pow_self, Bool.or_true])
     have h2 := ((zdu ok f _ _ (by omega) (S.other hk) a).mp hb').2.1.2 k (by rw [Nat.testBit_or, Nat.testBit_two_pow_self, Bool.or_true])
     rw [h1] at h2
     cases h2
theorem zm6 {m : Nat} (m1 : 1 ≤ m) : Stand m 1 0 := ⟨fun _ _ => Nat.zero_testBit _, Nat.lt_of_lt_of_le (by decide) (Nat.pow_le_pow_right (by decide) m1 : 2 ^ 1 ≤ 2 ^ m), Nat.two_pow_pos m⟩
theorem zmu {m : Nat} {ts : List Tie} (ok : ∀ t ∈ ts, t.Ok m) (m1 : 1 ≤ m) (f : Nat) (hf : (za8 m 1 0).length ≤ f) : ((zb0 ts (zhv ts) m f 1 0).leaves 1).Perm (zc6 m ts) := by
 refine (List.perm_ext_iff_of_nodup (zeg ok f 1 0 hf (zm6 m1)) ((zll m ts).imp fun h => Nat.ne_of_lt h)).mpr fun s => ?_
 rw [zdu ok f 1 0 hf (zm6 m1), mem_wareL, zl9]
 unfold zde
 rw [Bool.and_eq_true]
 constructor
 ·rintro ⟨h1, h2, h3⟩
  exact ⟨h1, h2.1 0 rfl, h3⟩
 ·rintro ⟨h1, h2, h3⟩
  refine ⟨h1, ⟨fun k hk => ?_, fun k hk => ?_⟩, h3⟩
  ·have : k = 0 := by
    rcases Nat.eq_zero_or_pos k with z | z
    ·exact z
    ·have e : (1 : Nat).testBit k = false := Nat.testBit_lt_two_pow (Nat.lt_of_lt_of_le (by decide : 1 < 2 ^ 1) (Nat.pow_le_pow_right (by decide) z))
     rw [e] at hk; cases hk
   rw [this]; exact h2
  ·rw [Nat.zero_testBit] at hk; cases hk
theorem zls {ms : List Int} {L M : List Nat} (p : ms.Perm (L.map fun k : Nat => (k : Int))) (so : ms.Pairwise (· ≤ ·)) (q : L.Perm M) (pw : M.Pairwise (· < ·)) : ms = M.map fun k : Nat => (k : Int) := by
 refine List.Perm.eq_of_pairwise (le := (· ≤ ·)) (fun a b _ _ h1 h2 => Int.le_antisymm h1 h2) so ?_ (p.trans (q.map _))
 rw [List.pairwise_map]
 exact pw.imp fun h => by omega
def zq6 : Sp := fun vs H Q _ => ∃ (wd : Addr) (m : Nat) (ts : List Tie), vs = [.ref wd] ∧ WoodT H wd m ts ∧ 1 ≤ m ∧ m ≤ 9 ∧ ∀ (l : Addr) (H' : Hp), Same H H' → H l = none → H' l = some (.lst (zb4 (zc6 m ts))) → Q (.ref l) H'
end Wd
set_option maxRecDepth 100000
set_option maxHeartbeats 4000000
namespace Wd
open PySem L2 Ow
end Wd
set_option maxRecDepth 100000
set_option maxHeartbeats 4000000
namespace L2
open PySem PySem.Spec PyProof.Rows
end L2
set_option maxRecDepth 100000
set_option maxHeartbeats 4000000
namespace Wd
open PySem L2 Ow
end Wd
set_option maxRecDepth 100000
set_option maxHeartbeats 4000000
namespace L2
open PySem PySem.Spec PyProof.Rows
section
variable {X : Cx}
end
end L2
set_option maxRecDepth 100000
set_option maxHeartbeats 4000000
namespace Wd
open PySem L2 Ow
end Wd
namespace Wd
open PySem L2 Ow
end Wd
namespace Wd
open PySem L2 Ow
end Wd
set_option maxRecDepth 100000
set_option maxHeartbeats 4000000
namespace L2
open PySem PySem.Spec PyProof.Rows
section
variable {prog : Program} {w : World} {A : Around} {E : Value → Shared → Prop} {s : Shared}
theorem zj0 {it l : Addr} {items : Array Value} (hne : l ≠ it) : ∀ (n i : Nat) (s : Shared) (Q : List Value → Shared → Prop), s.heap.IsListIter it l i → s.heap.IsList l items → i + n ≤ items.size →
  (∀ h' : Heap, h'.IsListIter it l (i + n) → Heap.SameBut it s.heap h' → Q ((items.toList.drop i).take n) { s with heap := h' }) → wpAny (model prog w) A (draw (.ref it) n) Q E s
 | 0, i, s, Q, hit, _, _, hQ => by
  show wpAny _ _ (pure []) Q E s
  exact wpAny_pure (by simpa using hQ s.heap hit (Heap.SameBut.refl ..))
 | n + 1, i, s, Q, hit, ht, hle, hQ => by
  have hlt : i < items.size := by omega
  show wpAny _ _ (pyNext (.ref it) >>= _) Q E s
  refine wpAny_bind (wpAny_pyNext_list_item hit ht (x := items[i]) (by simp [hlt]) fun h1 hit1 hs1 => ?_)
  refine wpAny_bind (wpAny_holding (zj0 hne n (i + 1) _ _ hit1 (ht.extBut hs1.extBut hne) (by omega) fun h2 hit2 hs2 => wpAny_pure ?_))
  have hd : items.toList.drop i = items[i] :: items.toList.drop (i + 1) := by simp [List.drop_eq_getElem_cons, hlt]
  have := hQ h2 (by rw [show i + (n + 1) = i + 1 + n by omega]; exact hit2) (hs1.trans hs2)
  rw [hd, List.take_succ_cons] at this
  exact this
theorem zlq {l : Addr} {items : Array Value} {targets : List (Bool × (Value → Sem Unit))} {Q : Unit → Shared → Prop} (hh : A.handled = none) (ht : s.heap.IsList l items)
  (hn : targets.length = items.size) (hstar : targets.findIdx? (·.1) = none)
  (h : ∀ h', Heap.ExtBut s.heap.objs.size s.heap h' → wpAny (model prog w) A (assignInOrder (targets.map (·.2)) items.toList) Q E { s with heap := h' }) :
  wpAny (model prog w) A (unpack (.ref l) targets) Q E s := by
 unfold unpack
 rw [hn, hstar]
 refine wpAny_bind (wpAny_holding ?_)
 have hlt : l ≠ s.heap.objs.size := by obtain ⟨o, ho, _⟩ := ht; exact Nat.ne_of_lt (Heap.lt_size ho)
 have hT : s.TypeIs (.ref l) "list" := by obtain ⟨o, ho, hc, _⟩ := ht; exact ⟨o, ho, hc⟩
 unfold unpackItems
 refine wpAny_bind ?_
 unfold notIterableAtAll
 refine wpAny_bind (wpAny_specialOf hT F.slot_list_iter.lookup ?_)
 refine wpAny_pure ?_
 simp only [Bool.false_eq_true, if_false]
 refine wpAny_bind (wpAny_holding (wpAny_pyIter_list ht ?_))
 refine wpAny_bind (wpAny_holding (zj0 hlt items.size 0 _ _ ⟨_, Heap.get?_push_size _ rfl, rfl, rfl⟩ (ht.push _) (by omega) fun h1 hit1 hs1 => ?_))
 have hall : List.take items.size (List.drop 0 items.toList) = items.toList := by
  rw [List.drop_zero]; exact List.take_of_length_le (by simp)
 rw [hall]
 rw [if_neg (by simp)]
 have ht1 : h1.IsList l items := (ht.push _).extBut hs1.extBut hlt
 refine wpAny_bind (wpAny_holding (wpAny_pyNext_list_end hh hit1 ht1 (by simp) fun h2 he2 => ?_))
 simp only [Option.isSome_none, Bool.false_eq_true, if_false]
 exact wpAny_pure (h h2 fun b o hb e => he2 b o hb (hs1.extBut b o hb (Heap.get?_push_of_some _ e)))
end
section
variable {X : Cx} {pos : Pos}
def zuu (K : PySem.W.Frag) (n : Nat) (t : TGs) : TG := fun v σ H Q => ∃ a xs, v = .ref a ∧ SqL K H a xs ∧ xs.length = n ∧ t xs σ H Q
theorem zta {K : PySem.W.Frag} {es : List Expr} {k : Nat} {t : TGs} {n : Nat} (hc : X.calm = true) (h : PGs X es t)
  (hn : (assignEach es X.env).length = n := by rfl) (hst : (assignEach es X.env).findIdx? (·.1) = none := by rfl) (hK : X.K = K := by rfl) : PG X (.Tuple es k pos) (zuu K n t) := by
 subst hK
 intro pins s σ H v u Q I r hw
 obtain ⟨a, xs, e1, hq, hl, hw⟩ := hw
 subst e1
 cases r
 obtain ⟨its, rv, ht, hz⟩ := I.list hq
 rw [assign_Tuple]
 refine wpAny_bind (wpAny_standAt (zlq (I.ok.hd hc) ht.isList (by simp [hn, ← hl, rv.length]) hst fun h' hx => ?_))
 have I1 : Inv X pins σ H { s with heap := h' } := I.kept (t' := s.toks) fun b o e => hx b o (Nat.ne_of_lt (Heap.lt_size e)) e
 exact h pins _ σ H xs _ Q I1 (by simpa using rv) hw
end
section
variable {X : Cx}
def zrq : V → List V → Hp → VK → Prop := fun x vs H Q => ∃ (l : Addr) (xs : List V) (i : Int) (y : V), x = .ref l ∧ vs = [.int i, y] ∧ H l = some (.lst xs) ∧ 0 ≤ i ∧ i ≤ xs.length ∧ xs.length < sizeLine ∧ Q .non (upd H l (.lst (xs.take i.toNat ++ y :: xs.drop i.toNat)))
theorem zol : MtM X "list.insert" zrq := by
 intro pins s σ H x vs v us Q I rx rv h
 obtain ⟨l, xs, i, y, rfl, rfl, hH, h0, hk, hz, q⟩ := h
 cases rx
 obtain ⟨u1, us1, rfl, r1, rr⟩ : ∃ u1 us1, us = u1 :: us1 ∧ RelV (.int i) u1 ∧ Vals [y] us1 := by
  cases rv with
  | cons a b => exact ⟨_, _, rfl, a, b⟩
 obtain ⟨u2, rfl, ru⟩ := rr.one
 obtain ⟨t, rfl⟩ := r1
 obtain ⟨z, its, n, r, hl, e⟩ := I.lstM hH
 have hsz : its.toArray.size ≤ sizeLine := by rw [List.size_toArray, ← hl]; exact z
 have b1 : -(2 ^ 63) ≤ i := Int.le_trans (by decide) h0
 have b2 : i < 2 ^ 63 := by
  have h63 : ((xs.length : Nat) : Int) < ((2 ^ 63 : Nat) : Int) := Int.ofNat_lt.mpr (Nat.lt_of_le_of_lt z zic)
  exact Int.lt_of_le_of_lt hk h63
 have fit : ¬ (!Builtin.List.listFitsIndex i) = true := by
  rw [fitsIndex_both b1 b2]
  exact Bool.false_ne_true
 refine call_meets F.slot_list_insert ⟨_, e, rfl⟩ F.entry_list_insert (F.args_list_insert_3 _ _ _) (AutoListH.list_insert_list_int_val_1 l its.toArray n i t u2 fit hsz) ⟨e, ?_⟩
 have r2 : Vals (xs.take i.toNat ++ y :: xs.drop i.toNat) (its.take i.toNat ++ u2 :: its.drop i.toNat) := (r.take i.toNat).append (.cons ru (r.drop i.toNat))
 refine ⟨.non, _, I.lset (its' := its.take i.toNat ++ u2 :: its.drop i.toNat) hH e ?_ r2 ?_, rfl, q⟩
 ·have hn : ¬ (i < 0) := Int.not_lt.mpr h0
  have hm : i.toNat ≤ its.length := by omega
  simp [hn, Nat.min_eq_left hm]
  exact List.take_of_length_le (by rw [List.length_drop]; exact Nat.le_refl _)
 ·rw [List.length_append, List.length_cons, List.length_take, List.length_drop]
  omega
end
end L2
set_option maxRecDepth 100000
set_option maxHeartbeats 4000000
namespace Wd
open PySem L2 Ow
def zrb (l : List Stmt) : List (Nat × Bool) → List Stmt
 | [] => l
 | (i, e) :: p => match l[i]? with
  | some (Stmt.For _ _ b _ _) => zrb b p
  | some (Stmt.If _ b o _) => zrb (if e then o else b) p
  | _ => []
def zrj (K : PySem.W.Frag) : Sp := fun vs H Q _ => ∃ (pen sp : Addr) (ns : List Int) (k : Int), vs = [.ref pen] ∧ Pen K H pen sp ns k ∧ 0 ≤ k ∧ k ≤ 900000 ∧ ∀ (m : Nat) (k' : Int) (H' : Hp), SameX pen H H' → H' pen = some (.lst [.ref sp, .int k']) → k ≤ k' → k' ≤ k + 2 → 1 ≤ m → m ≤ 9 → Q (.int (m : Int)) H'
def zo7 (K : PySem.W.Frag) : Sp := fun vs H Q _ => ∃ (pen sp : Addr) (ns : List Int) (m : Nat) (k : Int), vs = [.ref pen, .int (m : Int)] ∧ Pen K H pen sp ns k ∧ 0 ≤ k ∧ k ≤ 900000 ∧ 1 ≤ m ∧ m ≤ 9 ∧
 ∀ (l : Addr) (bs : List PyData) (xs : List V) (k' : Int) (H' : Hp), SameX pen H H' → H' pen = some (.lst [.ref sp, .int k']) → k ≤ k' → k' ≤ k + 80 → H' l = some (.lst xs) → H l = none → DnL H' bs xs → GoodB m bs → bs.length ≤ 8 → bs.all (zbs 3) = true → Q (.ref l) H'
def zna (K : PySem.W.Frag) : Sp := fun vs H Q _ => ∃ (pen sp : Addr) (ns : List Int) (m : Nat) (most : Int) (k : Int), vs = [.ref pen, .int (m : Int), .int most] ∧ Pen K H pen sp ns k ∧ 0 ≤ k ∧ k ≤ 900000 ∧ 1 ≤ m ∧ m ≤ 9 ∧ 0 ≤ most ∧ most ≤ 8 ∧
 ∀ (l : Addr) (cs : List PyData) (xs : List V) (k' : Int) (H' : Hp), SameX pen H H' → H' pen = some (.lst [.ref sp, .int k']) → k ≤ k' → k' ≤ k + 210 → H' l = some (.lst xs) → H l = none → DnL H' cs xs → (∀ c ∈ cs, zf0 m c = true) → (cs.length : Int) ≤ most → cs.all (zbs 3) = true → Q (.ref l) H'
end Wd
set_option maxRecDepth 100000
set_option maxHeartbeats 4000000
namespace Wd
open PySem L2 Ow
theorem _root_.Ow.GAt.ins {H0 H : Hp} {g l t : Addr} {pre post : List Grp} {u k : Int} (G : GAt H0 H g (pre ++ post)) (hf : H0 l = none) (hl : H l = none) (ht : upd H l (.lst [.int k]) t = none) :
  GAt H0 (upd (upd (upd H l (.lst [.int k])) t (.tup [.int u, .ref l])) g (.lst ((pre.map fun x => V.ref x.t) ++ V.ref t :: (post.map fun x => V.ref x.t)))) g (pre ++ ⟨t, u, l, [k]⟩ :: post) := by
 have A := GAt.add2 (u := u) (k := k) G hf hl ht
 have mem : ∀ x, x ∈ pre ++ ⟨t, u, l, [k]⟩ :: post ↔ x ∈ (pre ++ post) ++ [⟨t, u, l, [k]⟩] := fun x => by
  simp only [List.mem_append, List.mem_cons, List.not_mem_nil, or_false]
  constructor
  ·rintro (h | h | h)
   ·exact .inl (.inl h)
   ·exact .inr h
   ·exact .inl (.inr h)
  ·rintro ((h | h) | h)
   ·exact .inl h
   ·exact .inr (.inr h)
   ·exact .inr (.inl h)
 have other : ∀ (o o' : HO) (b : Addr), b ≠ g → (upd (upd (upd H l (.lst [.int k])) t (.tup [.int u, .ref l])) g o) b = (upd (upd (upd H l (.lst [.int k])) t (.tup [.int u, .ref l])) g o') b := fun o o' b n => by rw [zan n, zan n]
 refine ⟨?_, A.new, fun x hx => ?_, fun x hx => ?_, ?_⟩
 ·rw [zaf, List.map_append]
  rfl
 ·have h := A.tup x ((mem x).mp hx)
  have n : x.t ≠ g := fun z => by rw [z, zaf] at h; cases h
  rw [other _ _ _ n]
  exact h
 ·have h := A.lst x ((mem x).mp hx)
  refine ⟨?_, h.2⟩
  rw [other _ _ _ (Ne.symm h.2.2)]
  exact h.1
 ·have p : (pre ++ (⟨t, u, l, [k]⟩ : Grp) :: post).Perm ((pre ++ post) ++ [⟨t, u, l, [k]⟩]) := by
   rw [List.append_assoc]
   exact List.Perm.append_left _ (List.perm_append_singleton _ _).symm
  exact ((p.map (·.l)).nodup_iff).mpr A.nd
theorem _root_.Ow.GOk.ins {k : Nat} {pre post : List Grp} {t l : Addr} {u : Int} (G : GOk ((k : Int) + 1) (pre ++ post)) (u0 : 0 ≤ u) (u1 : u < (k : Int) + 1) : GOk ((k : Int) + 2) (pre ++ ⟨t, u, l, [(k : Int) + 1]⟩ :: post) := by
 have A := GOk.new (t := t) (l := l) G u0 u1
 have p : (pre ++ (⟨t, u, l, [(k : Int) + 1]⟩ : Grp) :: post).Perm ((pre ++ post) ++ [⟨t, u, l, [(k : Int) + 1]⟩]) := by
  rw [List.append_assoc]
  exact List.Perm.append_left _ (List.perm_append_singleton _ _).symm
 exact ⟨fun x hx => A.each x (p.mem_iff.mp hx), (List.Perm.flatMap_right _ p).trans A.perm⟩
def zm0 (x : Grp) : PyData := .tuple [.int x.up, .list (x.kids.map PyData.int)]
theorem zma : ∀ ks : List Int, PyData.canLayAll0 (ks.map PyData.int) = true ∧ PyData.depthAll (ks.map PyData.int) ≤ 1
 | [] => ⟨by simp [PyData.canLayAll0], by simp [PyData.depthAll]⟩
 | k :: ks => by
  have h := zma ks
  refine ⟨by simp [PyData.canLayAll0, PyData.canLay0, h.1], ?_⟩
  simp only [List.map_cons, PyData.depthAll, PyData.depth]
  omega
theorem zmi : ∀ gs : List Grp, PyData.canLayAll0 (gs.map zm0) = true ∧ PyData.depthAll (gs.map zm0) ≤ 5
 | [] => ⟨by simp [PyData.canLayAll0], by simp [PyData.depthAll]⟩
 | x :: gs => by
  have h := zmi gs
  have hx := zma x.kids
  refine ⟨by simp [zm0, PyData.canLayAll0, PyData.canLay0, h.1, hx.1], ?_⟩
  simp only [List.map_cons, zm0, PyData.depthAll, PyData.depth]
  omega
theorem zmd (gs : List Grp) : SeqAt.shaped (.list (gs.map zm0)) = true := by
 have h := zmi gs
 unfold SeqAt.shaped
 rw [Bool.and_eq_true]
 refine ⟨by simp [PyData.canLay0, h.1], decide_eq_true ?_⟩
 simp only [PyData.depth]
 omega
theorem zmt : SeqAt.shaped (.list []) = true := by decide
theorem zq4 : ∀ ds : List PyData, PyData.eqv (.list ds) (.list []) = decide (ds = [])
 | [] => by simp [PyData.eqv, PyData.eqvAll]
 | d :: ds => by simp [PyData.eqv, PyData.eqvAll]
theorem zn2 {H : Hp} : ∀ ks : List Int, DnL H (ks.map PyData.int) (ks.map V.int)
 | [] => rfl
 | k :: ks => ⟨_, _, rfl, rfl, zn2 ks⟩
theorem znw {H0 H : Hp} {g : Addr} {gs : List Grp} (G : GAt H0 H g gs) : ∀ l : List Grp, (∀ x ∈ l, x ∈ gs) → DnL H (l.map zm0) (l.map fun x => V.ref x.t)
 | [], _ => rfl
 | x :: l, h => by
  have hx := h x List.mem_cons_self
  exact ⟨_, _, rfl, ⟨x.t, _, rfl, G.tup x hx, _, _, rfl, rfl, _, _, rfl, ⟨x.l, _, rfl, (G.lst x hx).1, zn2 x.kids⟩, rfl⟩, znw G l fun y hy => h y (List.mem_cons_of_mem _ hy)⟩
end Wd
set_option maxRecDepth 100000
set_option maxHeartbeats 4000000
namespace HT
open PySem PySem.Spec PyProof.Rows
section
variable {prog : Program} {w : World} {A : Around} {E : Value → Shared → Prop} {s : Shared}
theorem tup_whole {t sl : Addr} {items : Array Value} {vl vu : Value} {lo hi : Option Int} {Q : Value → Shared → Prop} (ht : IsTup s.heap t items) (hs : s.heap.IsSliceOf sl vl vu .none) (pl : IsPart vl lo) (pu : IsPart vu hi)
  (h0 : sIx items.size 0 lo = 0) (h1 : sIx items.size items.size hi = items.size) (h : Q (.ref t) s) : wpAny (model prog w) A (getItem (.ref t) (.ref sl)) Q E s := by
 obtain ⟨os, hos, hcs, hds⟩ := id hs
 have hTs : s.TypeIs (.ref sl) "slice" := ⟨os, hos, hcs⟩
 unfold getItem
 refine wpAny_holding ?_
 refine wpAny_bind (wpAny_sequenceKey ht.typeIs (by decide) ?_)
 refine wpAny_bind (wpAny_callSpecial?_slot (name := Str.ofString "__getitem__") ht.typeIs PyProof.Rows.slot_tuple_getitem (wpAny_call_entry PyProof.Rows.slot_tuple_getitem ht.typeIs entry_tuple_getitem ?_ (args_tuple_getitem _ _)))
 show wpAny _ _ (Builtin.Tuple.tupleItemsOf (.ref t) >>= _) _ _ s
 refine wpAny_bind (tupleItemsOf_ ht ?_)
 refine wpAny_bind (wpAny_typeOf hTs ?_)
 rw [if_pos (by decide)]
 refine wpAny_bind (zd7 hs pl pu ?_)
 have hyes : (((sIx items.size 0 lo : Nat) : Int) == 0 && (1 : Int) == 1 && (sIx items.size items.size hi - sIx items.size 0 lo) == items.size) = true := by
  rw [h0, h1, Nat.sub_zero]
  simp
 show wpAny _ _ (if (((sIx items.size 0 lo : Nat) : Int) == 0 && (1 : Int) == 1 && (sIx items.size items.size hi - sIx items.size 0 lo) == items.size) = true then _ else _) _ _ s
 rw [if_pos hyes]
 refine wpAny_bind (wpAny_bind (wpAny_typeOf ht.typeIs (wpAny_pure ?_)))
 show wpAny _ _ (if (Value.type "tuple" == Value.type "tuple") = true then _ else _) _ _ s
 rw [if_pos (by decide)]
 refine wpAny_bind (wpAny_rule ?_)
 exact wpAny_pure ⟨_, rfl, wpAny_pure h⟩
end
end HT
namespace HT
open PySem PySem.Spec PyProof.Rows
theorem zq2 (xs : Array Value) : ((List.range xs.size).filterMap fun (m : Nat) => xs[(((xs.size : Int) - 1) + (m : Int) * (-1)).toNat]?).toArray = xs.toList.reverse.toArray := by
 congr 1
 have e : ∀ n : Nat, n ≤ xs.size → (List.range n).filterMap (fun (m : Nat) => xs[(((xs.size : Int) - 1) + (m : Int) * (-1)).toNat]?) = xs.toList.reverse.take n := by
  intro n
  induction n with
  | zero => intro _; rfl
  | succ n ih =>
   intro h
   have e1 : (((xs.size : Int) - 1) + (n : Int) * (-1)).toNat = xs.size - 1 - n := by omega
   have e2 : xs.toList.reverse[n]? = some xs[xs.size - 1 - n] := by
    rw [List.getElem?_reverse (by rw [Array.length_toList]; exact h)]
    simp only [Array.length_toList]
    rw [Array.getElem?_toList, Array.getElem?_eq_getElem (by omega)]
   rw [List.range_succ, List.filterMap_append, ih (by omega), List.take_add_one, e2, Option.toList_some]
   congr 1
   simp only [List.filterMap_cons, List.filterMap_nil, e1]
   rw [Array.getElem?_eq_getElem (by omega)]
 rw [e xs.size (Nat.le_refl _), List.take_of_length_le (by simp)]
section
variable {prog : Program} {w : World} {A : Around} {E : Value → Shared → Prop} {s : Shared}
theorem zhj {sl : Addr} {t : Tok} {n : Nat} {Q : Int × Int × Nat → Shared → Prop} (hs : s.heap.IsSliceOf sl .none .none (.int (-1) t))
  (h : Q ((n : Int) - 1, -1, n) s) : wpAny (model prog w) A (Builtin.Slice.sliceApplied (.ref sl) (pure (n : Int))) Q E s := by
 obtain ⟨os, hos, hcs, hds⟩ := id hs
 unfold Builtin.Slice.sliceApplied Builtin.Slice.sliceFields
 refine wpAny_bind (wpAny_bind (wpAny_field hos hds (x := .none) rfl (wpAny_bind (wpAny_field hos hds (x := .none) rfl (wpAny_bind (wpAny_field hos hds (x := .int (-1) t) rfl (wpAny_pure ?_)))))))
 refine wpAny_bind (zdx (.int (-1) t) ?_)
 show wpAny _ _ (if ((-1 : Int) == 0) = true then _ else _) _ _ s
 rw [if_neg (by decide)]
 refine wpAny_bind (zdx .none (wpAny_bind (zdx .none (wpAny_bind (wpAny_pure ?_)))))
 show wpAny _ _ (pure ((n : Int) - 1, (-1 : Int), Builtin.Slice.slicePlaces ((n : Int) - 1) (-1) (-1))) _ _ s
 have e : Builtin.Slice.slicePlaces ((n : Int) - 1) (-1) (-1) = n := by
  unfold Builtin.Slice.slicePlaces
  rw [if_neg (by decide)]
  by_cases z : (n : Int) - 1 > -1
  ·rw [if_pos z, show -(-1 : Int) = 1 from rfl, Int.ediv_one]
   omega
  ·rw [if_neg z]
   omega
 rw [e]
 exact wpAny_pure h
theorem tup_rev {t sl : Addr} {items : Array Value} {u : Tok} {Q : Value → Shared → Prop} (ht : IsTup s.heap t items) (hs : s.heap.IsSliceOf sl .none .none (.int (-1) u)) (hsz : items.size ≤ sizeLine)
  (h : Q (.ref s.heap.objs.size) { s with heap := s.heap.push { cls := .type "tuple", data := .seq items.toList.reverse.toArray } }) : wpAny (model prog w) A (getItem (.ref t) (.ref sl)) Q E s := by
 have hz : sizeOk (.seq items.toList.reverse.toArray) := by
  show items.toList.reverse.toArray.size ≤ sizeLine
  rw [List.size_toArray, List.length_reverse, Array.length_toList]
  exact hsz
 obtain ⟨os, hos, hcs, hds⟩ := id hs
 have hTs : s.TypeIs (.ref sl) "slice" := ⟨os, hos, hcs⟩
 unfold getItem
 refine wpAny_holding ?_
 refine wpAny_bind (wpAny_sequenceKey ht.typeIs (by decide) ?_)
 refine wpAny_bind (wpAny_callSpecial?_slot (name := Str.ofString "__getitem__") ht.typeIs PyProof.Rows.slot_tuple_getitem (wpAny_call_entry PyProof.Rows.slot_tuple_getitem ht.typeIs entry_tuple_getitem ?_ (args_tuple_getitem _ _)))
 show wpAny _ _ (Builtin.Tuple.tupleItemsOf (.ref t) >>= _) _ _ s
 refine wpAny_bind (tupleItemsOf_ ht ?_)
 refine wpAny_bind (wpAny_typeOf hTs ?_)
 rw [if_pos (by decide)]
 refine wpAny_bind (zhj hs ?_)
 have hno : ¬ ((((items.size : Int) - 1) == 0 && (-1 : Int) == 1 && items.size == items.size) = true) := by
  intro q
  rw [Bool.and_eq_true, Bool.and_eq_true] at q
  exact absurd q.1.2 (by decide)
 show wpAny _ _ (if (((items.size : Int) - 1) == 0 && (-1 : Int) == 1 && items.size == items.size) = true then _ else _) _ _ s
 rw [if_neg hno, zq2]
 first
  | exact wpAny_bind (m := Builtin.Tuple.tupleExact _) (wpAny_newObj_type (wpAny_pure ⟨_, rfl, wpAny_pure h⟩) hz)
  | exact wpAny_bind (m := Builtin.Tuple.tupleExact _) (wpAny_newObj_type (wpAny_bind (wpAny_pure (wpAny_pure ⟨_, rfl, wpAny_pure h⟩))) hz)
  | exact wpAny_bind (wpAny_bind (m := Builtin.Tuple.tupleExact _) (wpAny_newObj_type (wpAny_pure (wpAny_pure ⟨_, rfl, wpAny_pure h⟩)) hz))
  | exact wpAny_bind (wpAny_bind (m := Builtin.Tuple.tupleExact _) (wpAny_newObj_type (wpAny_pure ⟨_, rfl, wpAny_pure h⟩) hz))
end
end HT
namespace L2
open PySem PySem.Spec PyProof.Rows
section
variable {X : Cx} {e st : Expr} {te tst : TE} {pos p2 : Pos}
theorem zgh : SlR X (fun x lo hi H Q => ∃ a xs, x = .ref a ∧ H a = some (.tup xs) ∧ ∀ p H', Same H H' → H' p = some (.tup (zf5 xs lo hi)) → Q (.ref p) H') := by
 intro pins s σ H x v vl vu lo hi sl Q I rx hs pl pu h
 obtain ⟨a, xs, rfl, hx, q⟩ := h
 by_cases hw : HT.sIx xs.length 0 lo = 0 ∧ HT.sIx xs.length xs.length hi = xs.length
 ·cases rx
  obtain ⟨its, r, ht, hz⟩ := I.tuple (.inl (.inl hx))
  have hlen : its.toArray.size = xs.length := by rw [List.size_toArray]; exact r.length.symm
  refine ⟨"tuple", _, PyProof.Rows.slot_tuple_getitem.lookup, ht.typeIs, ?_⟩
  refine HT.tup_whole ht hs pl pu (by rw [hlen]; exact hw.1) (by rw [hlen]; exact hw.2) ⟨.ref a, H, I, rfl, q a H (Same.refl H) ?_⟩
  rw [hx]
  unfold zf5
  rw [hw.1, hw.2, List.drop_zero, Nat.sub_zero, List.take_length]
 ·exact zsu pins s σ H _ v vl vu lo hi sl Q I rx hs pl pu ⟨a, xs, rfl, .inl (.inl hx), hw, fun p hp => q p _ (zgq fun b o e => by rw [zan (zaq e hp)]; exact e) zaf⟩
def zty (te tst : TE) : TE := fun σ H Q => te σ H fun x H1 => tst σ H1 fun y H2 => ∃ a xs, y = .int (-1) ∧ x = .ref a ∧ H2 a = some (.tup xs) ∧ ∀ p, H2 p = none → Q (.ref p) (upd H2 p (.tup xs.reverse))
theorem zn9 (he : PE X e te) (hst : PE X st tst) : PE X (.Subscript e (.Slice none none (some st) p2) pos) (zty te tst) := by
 intro pins s σ H Q I h
 refine Subscript_ (thn (he pins s σ H _ I h) fun v s1 ⟨x, H1, I1, r1, q1⟩ => ?_)
 refine wpAny_Slice ?_
 rw [evalPart_none]
 refine wpAny_pure (wpAny_pure ?_)
 rw [evalPart_some]
 refine thn (hst pins s1 σ H1 _ I1 q1) fun vs s3 ⟨y, H3, I3, r3, q3⟩ => ?_
 obtain ⟨a, xs, rfl, rfl, hx, q⟩ := q3
 cases r1
 obtain ⟨t, rfl⟩ := r3
 have I4 : Inv X pins σ H3 { s3 with heap := s3.heap.push { cls := .type "slice", data := .fields #[.none, .none, .int (-1) t] } } := I3.kept (t' := s3.toks) fun b ob q => Heap.get?_push_of_some _ q
 obtain ⟨its, r, ht, hz⟩ := I4.tuple (.inl (.inl hx))
 have hlen : its.toArray.size = xs.length := by rw [List.size_toArray]; exact r.length.symm
 show wpAny (model X.prog X.w) X.A (subscriptTail e (.Slice none none (some st) p2) (.ref a) (.ref s3.heap.objs.size)) (EP X pins σ Q) X.xe { s3 with heap := s3.heap.push { cls := .type "slice", data := .fields #[.none, .none, .int (-1) t] } }
 refine tail_any (ops := [.ref a, .ref s3.heap.objs.size]) ht.typeIs PyProof.Rows.slot_tuple_getitem.lookup ?_ (by with_unfolding_all rfl)
 refine HT.tup_rev ht (Heap.IsSliceOf.new ..) (by rw [hlen]; exact hz) ⟨.ref _, _, I4.laid (t' := s3.toks) (o := .tup xs.reverse) (fun b ob q => Heap.get?_push_of_some _ q) (Nat.le_refl _) ?_, rfl, q _ (I4.hok.fresh (Nat.le_refl _))⟩
 exact ⟨by rw [List.length_reverse]; exact hz, its.reverse, r.reverse, IsTup.new _ _⟩
theorem znm (hu : X.A.units + 64 < cLine) : OpR X (compareOp .Eq) (fun x y H Q => ∃ d e : PyData, Dn H d x ∧ Dn H e y ∧ SeqAt.shaped d = true ∧ SeqAt.shaped e = true ∧ Q (.bl (PyData.eqv d e)) H) := by
 intro pins s σ H x y v u Q I rx ry h
 obtain ⟨d, e, hd, he, sd, se, q⟩ := h
 obtain ⟨as, ra⟩ := Dn.reads I d x v hd (SeqAt.canLay_of_shaped sd) rx
 obtain ⟨bs, rb⟩ := Dn.reads I e y u he (SeqAt.canLay_of_shaped se) ry
 exact SeqAt.compareEq_shaped ra rb sd se hu ⟨.bl _, H, I, rfl, q⟩
end
end L2
namespace L2
open PySem PySem.Spec PyProof.Rows
section
variable {X : Cx}
theorem zo3 (hc : X.calm = true) : zd4 X (.builtin "max") (fun xs H Q => ∃ (p : Addr) (ns : List Int), xs = [.ref p] ∧ SqT X.K H p (ns.map V.int) ∧ 0 < ns.length ∧ ∀ M, M ∈ ns → Q (.int M) H) := by
 intro pins s σ H xs us Q I r h
 obtain ⟨p, ns, rfl, hq, hne, q⟩ := h
 obtain ⟨u, rfl, rx⟩ := zfz r
 cases rx
 obtain ⟨its, rv, pl, hz'⟩ := I.tuple hq
 have hi := zdv rv
 have hl := rv.length
 rw [List.length_map] at hl
 have T : s.heap.IsTuple p its.toArray := pl
 have lt : p < s.heap.objs.size := by obtain ⟨o, e, _⟩ := T; exact Heap.lt_size e
 refine call_max_walk (wpAny_pyIter_tuple T ?_)
 refine ⟨_, _, _, _, _, _, fun i j => decide (ns.getD i 0 > ns.getD j 0), rfl, Walks.tuple (A := X.A.in1) (I.ok.hd hc) s.heap.objs.size p (Nat.ne_of_lt lt) its.toArray, ⟨⟨_, Heap.get?_push_size _ rfl, rfl, rfl⟩, T.push _⟩, fun b hb => ?_, by rw [List.size_toArray]; omega, CmpOf.ints_gt (fun i => ns.getD i 0) (fun i v hv => ?_), fun v h' tk hP hk => ?_⟩
 ·show b < (s.heap.push _).objs.size
  rw [Heap.size_push]
  simp only [List.mem_cons, List.not_mem_nil, or_false] at hb
  rcases hb with rfl | rfl
  ·exact Nat.lt_succ_self _
  ·exact Nat.lt_succ_of_lt lt
 ·exact IntsAre.int_at hi i v (by rw [List.getElem?_toArray] at hv; exact hv)
 ·obtain ⟨t, rfl⟩ := IntsAre.int_at hi _ v (by rw [List.getElem?_toArray] at hP; exact hP)
  have hj : argBest (fun i j => decide (ns.getD i 0 > ns.getD j 0)) (its.toArray.size - 1) < ns.length := by
   rw [List.getElem?_toArray] at hP
   have := (List.getElem?_eq_some_iff.mp hP).1
   omega
  refine ⟨.int _, H, I.kept (t' := tk) fun b o e => hk b o (fun hm => ?_) (Heap.get?_push_of_some _ e), ⟨t, rfl⟩, q _ (getD_mem hj)⟩
  have : b = s.heap.objs.size := by simpa using hm
  exact absurd (this ▸ Heap.lt_size e) (Nat.lt_irrefl _)
end
end L2
namespace Wd
open PySem L2 Ow
mutual
theorem zpx : ∀ (n : Nat) (d : PyData), zbs n d = true → PyData.canLay0 d = true ∧ PyData.depth d ≤ n + 1
 | _, .int i, _ => ⟨by simp [PyData.canLay0], by simp only [PyData.depth]; omega⟩
 | n, .str s, h => ⟨by cases n <;> simpa [PyData.canLay0] using (show PyData.strOk s = true from h), by simp only [PyData.depth]; omega⟩
 | n + 1, .tuple ds, h => by
  have z : (decide (ds.length ≤ 1000) && ds.all (zbs n)) = true := h
  rw [Bool.and_eq_true] at z
  obtain ⟨a, b⟩ := ze8 n ds z.2
  exact ⟨by simpa [PyData.canLay0] using a, by simp only [PyData.depth]; omega⟩
 | 0, .tuple _, h => by cases h
 | 0, .none, h => by cases h
 | n + 1, .none, h => by cases h
 | 0, .bool _, h => by cases h
 | n + 1, .bool _, h => by cases h
 | 0, .list _, h => by cases h
 | n + 1, .list _, h => by cases h
 | 0, .dict _, h => by cases h
 | n + 1, .dict _, h => by cases h
theorem ze8 : ∀ (n : Nat) (ds : List PyData), ds.all (zbs n) = true → PyData.canLayAll0 ds = true ∧ PyData.depthAll ds ≤ n + 1
 | _, [], _ => ⟨by simp [PyData.canLayAll0], by simp only [PyData.depthAll]; omega⟩
 | n, d :: ds, h => by
  rw [List.all_cons, Bool.and_eq_true] at h
  obtain ⟨a1, b1⟩ := zpx n d h.1
  obtain ⟨a2, b2⟩ := ze8 n ds h.2
  exact ⟨by simp [PyData.canLayAll0, a1, a2], by simp only [PyData.depthAll]; omega⟩
end
theorem zms {n : Nat} {ds : List PyData} (hn : n ≤ 60) (h : ds.all (zbs n) = true) : SeqAt.shaped (.tuple ds) = true := by
 obtain ⟨a, b⟩ := ze8 n ds h
 unfold SeqAt.shaped
 rw [Bool.and_eq_true]
 refine ⟨by simp [PyData.canLay0, a], decide_eq_true ?_⟩
 simp only [PyData.depth]
 omega
theorem zl8 : SeqAt.shaped (.tuple []) = true := by decide
theorem zpo : ∀ ds : List PyData, PyData.eqv (.tuple ds) (.tuple []) = decide (ds = [])
 | [] => by simp [PyData.eqv, PyData.eqvAll]
 | d :: ds => by simp [PyData.eqv, PyData.eqvAll]
theorem GoodB.perm {m : Int} {bs bs' : List PyData} (G : GoodB m bs) (p : bs'.Perm bs) : GoodB m bs' := ⟨fun b hb => G.each b (p.mem_iff.mp hb), (List.Perm.flatMap_right _ p).trans G.kids⟩
theorem GoodB.swap {m : Int} {pre post : List PyData} {x y : PyData} (G : GoodB m (pre ++ x :: post)) (h : zc4 m y = true) (e : zix y = zix x) : GoodB m (pre ++ y :: post) := by
 refine ⟨fun b hb => ?_, ?_⟩
 ·rcases List.mem_append.mp hb with z | z
  ·exact G.each b (List.mem_append_left _ z)
  ·rcases List.mem_cons.mp z with rfl | z
   ·exact h
   ·exact G.each b (List.mem_append_right _ (List.mem_cons_of_mem _ z))
 ·have k := G.kids
  rw [List.flatMap_append, List.flatMap_cons] at k ⊢
  rw [e]
  exact k
def zr7 (K : PySem.W.Frag) : Sp := fun vs H Q _ => ∃ (pen sp : Addr) (ns : List Int) (wd : Addr) (m : Nat) (bs cs : List PyData) (k : Int), vs = [.ref pen, .ref wd] ∧ Pen K H pen sp ns k ∧ 0 ≤ k ∧ k ≤ 700000 ∧ WoodX H wd m bs cs ∧ cs.length ≤ 4 ∧
 ∀ (wd' : Addr) (bs' cs' : List PyData) (k' : Int) (H' : Hp), SameX pen H H' → H' pen = some (.lst [.ref sp, .int k']) → k ≤ k' → k' ≤ k + 400 → WoodX H' wd' m bs' cs' → cs'.length ≤ 8 → Q (.ref wd') H'
theorem DnL.reverse {H : Hp} : ∀ {ds : List PyData} {xs : List V}, DnL H ds xs → DnL H ds.reverse xs.reverse
 | [], xs, h => by rw [(show xs = [] from h)]; exact rfl
 | d :: ds, _, ⟨x, r, e, q, z⟩ => by
  rw [e, List.reverse_cons, List.reverse_cons]
  exact (DnL.reverse z).append ⟨x, [], rfl, q, rfl⟩
theorem zlv (xs : List V) (t : Nat) (h : t ≤ xs.length) : zf5 xs none (some (t : Int)) = xs.take t := by
 unfold zf5
 rw [HT.sIx_nat, HT.sIx_none, Nat.min_eq_left h, List.drop_zero, Nat.sub_zero]
theorem ziu (xs : List V) (t : Nat) (h : t ≤ xs.length) : zf5 xs (some (t : Int)) none = xs.drop t := by
 unfold zf5
 rw [HT.sIx_nat, HT.sIx_none, Nat.min_eq_left h, List.take_of_length_le]
 rw [List.length_drop]
 exact Nat.le_refl _
theorem zoy (xs : List V) : zf5 xs (some 1) none = xs.drop 1 := by
 cases xs with
 | nil => rfl
 | cons x r => exact ziu (x :: r) 1 (by simp)
theorem zme {m : Nat} {d : PyData} {H : Hp} {v : V} (h : zc4 m d = true) (q : Dn H d v) : ∃ (u lo hi : Int) (kids : List Int) (p pk : Addr), d = zf9 u lo hi kids ∧ v = .ref p ∧ H p = some (.tup [.int u, .int lo, .int hi, .ref pk]) ∧ H pk = some (.tup (kids.map V.int)) ∧ 0 ≤ u ∧ u < m ∧ kids ≠ [] ∧ zbt m (kids.map PyData.int) u = true ∧ 0 ≤ lo ∧ lo ≤ hi ∧ 1 ≤ hi ∧ hi ≤ kids.length ∧ kids.length ≤ m ∧ ∀ x ∈ kids, u < x ∧ x < m := by
 obtain ⟨u, lo, hi, ks, e, ok⟩ := zgf h
 subst e
 obtain ⟨p, pk, rfl, hp, hpk⟩ := zdw q
 have e2 : (Tie.bough u lo hi ks).toD = zf9 u lo hi (ks.map fun k : Nat => (k : Int)) := by
  show PyData.tuple [.int (u : Int), .int lo, .int hi, .tuple (ks.map fun k : Nat => PyData.int (k : Int))] = PyData.tuple [.int (u : Int), .int lo, .int hi, .tuple ((ks.map fun k : Nat => (k : Int)).map PyData.int)]
  rw [List.map_map]
  rfl
 have up := ok.up
 have um := ok.um
 have lo0 := ok.lo0
 have lohi := ok.lohi
 have hi1 := ok.hi1
 have hik := ok.hik
 have few := ok.few
 refine ⟨u, lo, hi, ks.map fun k : Nat => (k : Int), p, pk, e2, rfl, hp, by rw [zny]; exact hpk, by omega, by omega, fun z => ok.ks0 (List.map_eq_nil_iff.mp z), ?_, lo0, lohi, hi1, by rw [List.length_map]; exact hik, by rw [List.length_map]; exact few, fun x hx => ?_⟩
 ·have hh := h
  rw [e2] at hh
  unfold zc4 zf9 at hh
  simp only [Bool.and_eq_true] at hh
  exact hh.2.2.1
 ·obtain ⟨k, hk, rfl⟩ := List.mem_map.mp hx
  have := up k hk
  omega
end Wd
set_option maxRecDepth 100000
set_option maxHeartbeats 4000000
namespace Wd
open PySem L2 Ow
end Wd
set_option maxRecDepth 100000
set_option maxHeartbeats 4000000
namespace Wd
open PySem L2 Ow
def zdd (ts : List Tie) (y n : Nat) : Option PyData := if (ts.all fun t => t.sk y n) = true then some (.tuple [.str ("kept" : Str)]) else none
def zsq : Sp := fun vs H Q _ => ∃ (wd : Addr) (m : Nat) (ts : List Tie) (y n : Nat), vs = [.ref wd, .int y, .int n] ∧ WoodT H wd m ts ∧ ∀ H', Same H H' → Q (.bl (ts.all fun t => t.sk y n)) H'
def zrd : Sp := fun vs H Q _ => ∃ (wd : Addr) (m : Nat) (ts : List Tie) (y n : Nat), vs = [.ref wd, .int y, .int n] ∧ WoodT H wd m ts ∧ ∀ (v : V) (H' : Hp), Same H H' → zge (zdd ts) y n H' v → Q v H'
def zpn : Sp := fun vs H Q _ => ∃ (w1 w2 : Addr) (m : Nat) (t1 t2 : List Tie), vs = [.ref w1, .ref w2] ∧ WoodT H w1 m t1 ∧ WoodT H w2 m t2 ∧ Q .non H
def outside (m : Nat) (t1 t2 : List Tie) : List Nat := (zc6 m t1).filter fun s => !zde t2 s
def zen (m : Nat) (t1 t2 : List Tie) : PyData := match outside m t1 t2 with
 | s :: _ => .tuple [.str ("out" : Str), .int (s : Int)]
 | [] => .tuple [.str ("in" : Str), zdy t1 (zhv t1) m (zdd t2) 9 1 0]
def zok : Sp := fun vs H Q _ => ∃ (w1 w2 : Addr) (m : Nat) (t1 t2 : List Tie), vs = [.ref w1, .ref w2] ∧ WoodT H w1 m t1 ∧ WoodT H w2 m t2 ∧ 1 ≤ m ∧ m ≤ 9 ∧ ∀ (v : V) (H' : Hp), Same H H' → Dn H' (zen m t1 t2) v → Q v H'
def zuk : Expr → Expr
 | .Tuple (_ :: e :: _) _ _ => e
 | e => e
theorem zlu {m : Nat} {t1 t2 : List Tie} (ok1 : ∀ t ∈ t1, t.Ok m) (ok2 : ∀ t ∈ t2, t.Ok m) (ho : outside m t1 t2 = []) (m1 : 1 ≤ m) : EndsR t1 (zhv t1) m (zdd t2) 1 0 := by
 refine ⟨fun y n => Stand m y n ∧ y.testBit 0 = true, ⟨zm6 m1, rfl⟩, fun y n k r hk => ⟨⟨r.1.one hk, by rw [Nat.testBit_or, r.2, Bool.true_or]⟩, r.1.other hk, r.2⟩, fun y n r hb hn => ?_⟩
 obtain ⟨S, r0⟩ := r
 have full : ∀ k, k < m → (y ||| n).testBit k = true := fun k hk => by
  cases hy : (y ||| n).testBit k with
  | true => rfl
  | false =>
   rw [Nat.testBit_or, Bool.or_eq_false_iff] at hy
   have : k ∈ za8 m y n := mem_open.mpr ⟨hk, hy.1, hy.2⟩
   rw [hn] at this
   cases this
 have k1 : ∀ t ∈ t1, t.keep y = true := fun t ht => by
  obtain ⟨i, hi, e⟩ := List.getElem_of_mem ht
  have z := zgo hb i (List.mem_range.mpr hi)
  unfold zgy at z
  rw [List.getElem?_eq_getElem hi, e] at z
  have z' : t.sb y n = false := z
  rw [znu (ok1 t ht) S.dj full] at z'
  simpa using z'
 have mw : y ∈ zc6 m t1 := mem_wareL.mpr ⟨S.ym, by
  unfold zde
  rw [r0, Bool.true_and, List.all_eq_true]
  exact k1⟩
 have w2 : zde t2 y = true := by
  cases h : zde t2 y with
  | true => rfl
  | false =>
   have : y ∈ outside m t1 t2 := List.mem_filter.mpr ⟨mw, by rw [h]; rfl⟩
   rw [ho] at this
   cases this
 unfold zde at w2
 rw [Bool.and_eq_true, List.all_eq_true] at w2
 unfold zdd
 rw [if_pos (List.all_eq_true.mpr fun t ht => by rw [zq8 (ok2 t ht) S.dj full]; exact w2.2 t ht)]
 simp
end Wd
set_option maxRecDepth 100000
set_option maxHeartbeats 4000000
namespace Wd
open PySem L2 Ow
end Wd
set_option maxRecDepth 100000
set_option maxHeartbeats 4000000
namespace L2
open PySem PySem.Spec PyProof.Rows
end L2
namespace Wd
open PySem L2 Ow
inductive WT where
 | leaf (w : Str)
 | broken (t : Int)
 | split (k : Int) (a b : WT)
def WT.toD : WT → PyData
 | .leaf w => .tuple [.str w]
 | .broken t => .tuple [.str ("broken" : Str), .int t]
 | .split k a b => .tuple [.str ("split" : Str), .int k, a.toD, b.toD]
def WT.depth : WT → Nat
 | .leaf _ => 0
 | .broken _ => 0
 | .split _ a b => max a.depth b.depth + 1
def WT.good : WT → Prop
 | .leaf w => ¬ V.str w = V.str ("broken" : Str) ∧ ¬ V.str w = V.str ("split" : Str)
 | .broken _ => True
 | .split _ a b => a.good ∧ b.good
def brB (ts : List Tie) (t : Int) (y n : Nat) : Bool := decide (0 ≤ t) && (decide (t < (ts.length : Int)) && zgy ts t.toNat y n)
def isT (ts : List Tie) (m : Nat) (lf : Str → Nat → Nat → Bool) : WT → Nat → Nat → Bool
 | .broken t, y, n => brB ts t y n
 | .leaf w, y, n => lf w y n
 | .split k a b, y, n => if 0 ≤ k ∧ k.toNat ∈ za8 m y n then isT ts m lf a (y ||| 2 ^ k.toNat) n && isT ts m lf b y (n ||| 2 ^ k.toNat) else false
theorem znx (k : Int) (op : List Nat) : inV (.int k) (zb4 op) = decide (0 ≤ k ∧ k.toNat ∈ op) := by
 by_cases h : 0 ≤ k
 ·obtain ⟨j, rfl⟩ : ∃ j : Nat, k = (j : Int) := ⟨k.toNat, by omega⟩
  rw [zpm, Int.toNat_natCast]
  by_cases c : j ∈ op
  ·rw [decide_eq_true c, decide_eq_true ⟨h, c⟩]
  ·rw [decide_eq_false c, decide_eq_false fun z => c z.2]
 ·rw [decide_eq_false fun z => h z.1]
  cases e : inV (.int k) (zb4 op) with
  | false => rfl
  | true =>
   exfalso
   have : ∀ l : List Nat, inV (.int k) (zb4 l) = false := by
    intro l
    induction l with
    | nil => rfl
    | cons a r ih =>
     show (eqV (.int (a : Int)) (.int k) || inV (.int k) (zb4 r)) = false
     rw [ih, Bool.or_false]
     show ((a : Int) == k) = false
     simpa using fun z : (a : Int) = k => h (by omega)
   rw [this] at e
   cases e
def zqe : Sp := fun vs H Q _ => ∃ (wd : Addr) (m : Nat) (ts : List Tie) (y n : Nat) (t : Int), vs = [.ref wd, .int y, .int n, .int t] ∧ WoodT H wd m ts ∧ ∀ H', Same H H' → Q (.bl (brB ts t y n)) H'
def zqr (C : Hp → Prop) (lf : Str → Nat → Nat → Bool) : Sp := fun vs H Q _ => ∃ (w : Str) (y n : Nat), vs = [.str w, .int y, .int n] ∧ C H ∧ ∀ H', Same H H' → Q (.bl (lf w y n)) H'
def zii (f : Nat) (p : Addr) (C : Hp → Prop) (m : Nat) (ts : List Tie) (lf : Str → Nat → Nat → Bool) : Sp := fun vs H Q _ => ∃ (wd : Addr) (y n : Nat) (t : WT) (v : V), vs = [.ref wd, .int y, .int n, v, .ref p] ∧ WoodT H wd m ts ∧ Dn H t.toD v ∧ t.good ∧ t.depth < f ∧ C H ∧ ∀ H', Same H H' → Q (.bl (isT ts m lf t y n)) H'
theorem zre {P : Program} {w : World} {K : PySem.W.Frag} {mg : Str → Option Value} {base : Heap} {p c : Addr} {qual : Str} {params : Arguments} {body : Expr} {scope : Scope} {cl : List (Str × Addr)} {H1 : Hp} {ps fr : List Str} {fv : List V} {k : Nat} {lf : Str → Nat → Nat → Bool} (C0 : Hp → Prop)
  (hp : H1 p = some (.ext (zg6 p qual params body scope cl c)))
  (S : zfi ps fr scope) (hcl : ∀ x cc, cl.lookup x = some cc → ∃ v, base.IsCell cc v) (inj : ∀ x y cc, cl.lookup x = some cc → cl.lookup y = some cc → x = y) (has : ∀ y ∈ scope.names, y.2 = .free → ∃ cc, cl.lookup y.1 = some cc)
  (hfv : ∀ (i : Nat) (x : Str) (v : V), fr[i]? = some x → fv[i]? = some v → ∃ cc u, cl.lookup x = some cc ∧ RelV v u ∧ base.IsCell cc (some u)) (hlen : fv.length = fr.length)
  (hsame : ∀ pm ctv args, bindArgs (PySem.W.kla_fn "<lambda>" qual params body scope cl pm (.ref c) ctv) args = bindArgs (PySem.W.kla_fn "<lambda>" qual params body scope cl .none (.ref c) .none) args)
  (len3 : ps.length = 3)
  (hbody : ∀ (q : Str) (A : Around) (outer : List Env) (s : Shared) (H : Hp) (wo : Str) (y n : Nat) (Q : VK), Room k (A.deeper (PySem.W.envX q scope s.heap.objs.size p (.ref c) cl)) → C0 H → (∀ (H' : Hp), Same H H' → Q (.bl (lf wo y n)) H') →
   ∃ t, PE (zla P w K mg base (ps ++ fr) q scope p c cl A outer s H) body t ∧ t ([some (.str wo), some (.int y), some (.int n)] ++ fv.map some) H Q) :
  FnOk P w K mg base CX0 (k + 1) p (PySem.W.kla_fn "<lambda>" qual params body scope cl .none (.ref c) .none) ps (zqr (fun H => C0 H ∧ H p = some (.ext (zg6 p qual params body scope cl c)) ∧ H c = some (.ext (zec c))) lf) := by
 refine zpp S hcl inj has hfv hlen hsame (fun vs H Q E h => ?_) (fun vs H Q E h => ?_) (fun q A outer s H vs Q E hr h => ?_)
 ·obtain ⟨wo, y, n, rfl, _⟩ := h
  exact len3.symm
 ·obtain ⟨wo, y, n, rfl, ⟨_, h1, h2⟩, _⟩ := h
  exact ⟨h1, h2⟩
 ·obtain ⟨wo, y, n, rfl, ⟨h0, _, _⟩, q'⟩ := h
  exact hbody q A outer s H wo y n Q hr h0 q'
end Wd
set_option maxHeartbeats 4000000
namespace Srt
open PySem PyProof PyProof.Rows
def zrx : Bool → Keyed → Array Keyed → Nat → Nat → Nat → StateT SortSt Sem (Option Nat) := sortPriv% PySem.Builtin.gallop
def zp9 : Array Keyed → Array Keyed → StateT SortSt Sem (Array Keyed) := sortPriv% PySem.Builtin.mergeLo
def zp1 : Array Keyed → Array Keyed → StateT SortSt Sem (Array Keyed) := sortPriv% PySem.Builtin.mergeHi
def kn (p : Keyed) : Int := numOf p.1
def zfw (p : Keyed) : Prop := ∃ n t, p.1 = .int n t
theorem zc1 {arr : Array Keyed} {i : Nat} {p : Keyed} (h : arr[i]? = some p) : K arr i = kn p := by unfold K; rw [h]; rfl
def gp (left : Bool) (key : Keyed) (arr : Array Keyed) (base i : Nat) : Bool := if left then decide (K arr (base + i) < kn key) else !decide (kn key < K arr (base + i))
section
variable {prog : Program} {w : World} {A : Around} {E : Value → Shared → Prop} {s : Shared}
theorem zi4 {st : SortSt} {x y : Keyed} {Q : Option Bool → SortSt → Prop} (hk : kindOf st = oneType') (hx : zfw x) (hy : zfw y) (h : Q (some (decide (kn x < kn y))) st) :
  wpS (model prog w) A E s (lt' x y) Q st := by
 obtain ⟨a, t, e1⟩ := hx
 obtain ⟨b, u, e2⟩ := hy
 obtain ⟨x1, x2⟩ := x
 obtain ⟨y1, y2⟩ := y
 cases e1; cases e2
 rw [lt'_eq]
 refine wpS_bind (wpS_get ?_)
 rw [hk, keyLt'_oneType]
 refine wpS_bind (wpS_lift (wpAny_attempt (oneLt_int ⟨rfl, ?_⟩)))
 exact wpS_pure h
theorem zbd {st : SortSt} {arr : Array Keyed} {i : Nat} {p : Keyed} {Q : Keyed → SortSt → Prop} (hp : arr[i]? = some p) (h : Q p st) : wpS (model prog w) A E s (elem' arr i) Q st := by
 rw [elem'_eq, hp]; exact wpS_pure h
theorem zc8 {st : SortSt} {left : Bool} {key : Keyed} {arr : Array Keyed} {base n hint : Nat} {Q : Option Nat → SortSt → Prop} (hk : kindOf st = oneType') (hkey : zfw key)
  (hall : ∀ i, i < n → ∃ p, arr[base + i]? = some p ∧ zfw p) (hs : ∀ i j, i ≤ j → j < n → K arr (base + i) ≤ K arr (base + j)) (hn : hint < n)
  (h : ∀ k, k ≤ n → (∀ i, i < k → gp left key arr base i = true) → (∀ i, k ≤ i → i < n → gp left key arr base i = false) → Q (some k) st) :
  wpS (model prog w) A E s (zrx left key arr base n hint) Q st := by
 have hb : ∀ (i : Nat) (R : Option Bool → SortSt → Prop), i < n → R (some (gp left key arr base i)) st →
   wpS (model prog w) A E s (elem' arr (base + i) >>= fun x => if left = true then lt' x key else lt' key x >>= fun b => pure (b.map (!·))) R st := by
  intro i R hi hR
  obtain ⟨p, hp, ip⟩ := hall i hi
  refine wpS_bind (zbd hp ?_)
  unfold gp at hR
  rw [zc1 hp] at hR
  cases left with
  | true => exact zi4 hk ip hkey hR
  | false => exact wpS_bind (zi4 hk hkey ip (wpS_pure hR))
 have mono : ∀ i j, i ≤ j → j < n → gp left key arr base j = true → gp left key arr base i = true := by
  intro i j hij hj hg
  have := hs i j hij hj
  unfold gp at hg ⊢
  cases left <;> simp at hg ⊢ <;> omega
 have anti : ∀ i j, i ≤ j → j < n → gp left key arr base i = false → gp left key arr base j = false := by
  intro i j hij hj hg
  cases hgj : gp left key arr base j with
  | false => rfl
  | true => rw [mono i j hij hj hgj] at hg; cases hg
 refine wpS_bind (hb hint _ hn ?_)
 dsimp only
 cases hr : gp left key arr base hint with
 | true =>
  rw [if_pos rfl]
  refine wpS_bind (wpS_mono (wpS_forRange
   (I := fun x c st' => st = st' ∧ ∃ la of, c = (none, la, of) ∧ la < of ∧ hint + la < n ∧ x + 1 ≤ of ∧ gp left key arr base (hint + la) = true)
   (Q := fun c st' => st = st' ∧ ∃ la of, c = (none, la, of) ∧ la < of ∧ hint + la < n ∧ gp left key arr base (hint + la) = true ∧ (of ≥ n - hint ∨ (hint + of < n ∧ gp left key arr base (hint + of) = false)))
   ?_ ?_ ⟨rfl, 0, 1, rfl, by omega, by omega, by omega, hr⟩) ?_)
  ·rintro x c st' _ hx ⟨rfl, la, of, rfl, k1, k2, k3, k4⟩
   dsimp only
   by_cases hge : of ≥ n - hint
   ·rw [if_pos hge]
    exact wpS_pure ⟨rfl, la, of, rfl, k1, k2, k4, .inl hge⟩
   ·rw [if_neg hge]
    refine wpS_bind (hb _ _ (by omega) ?_)
    dsimp only
    cases hm : gp left key arr base (hint + of) with
    | true => exact wpS_pure ⟨rfl, of, 2 * of + 1, rfl, by omega, by omega, by omega, hm⟩
    | false => exact wpS_pure ⟨rfl, la, of, rfl, k1, k2, k4, .inr ⟨by omega, hm⟩⟩
  ·rintro c st' ⟨rfl, la, of, rfl, k1, k2, k3, k4⟩
   exact ⟨rfl, la, of, rfl, k1, k2, k4, .inl (by omega)⟩
  ·rintro c st' ⟨rfl, la, of, rfl, k1, k2, k4, k5⟩
   dsimp only
   have g1 : hint + la + 1 ≤ hint + min of (n - hint) := by omega
   have g2 : hint + min of (n - hint) ≤ n := by omega
   have g3 : ∀ i, i < hint + la + 1 → gp left key arr base i = true := fun i hi => mono i _ (by omega) k2 k4
   have g4 : ∀ i, hint + min of (n - hint) ≤ i → i < n → gp left key arr base i = false := fun i h1 h2 => by
    rcases k5 with z | ⟨z, hz⟩
    ·omega
    ·exact anti _ i (by omega) h2 hz
   refine wpS_bind (wpS_mono (wpS_forRange
    (I := fun x c st' => st = st' ∧ ∃ lo hi, c = (none, lo, hi) ∧ lo ≤ hi ∧ hi ≤ n ∧ hi - lo ≤ n - x ∧ (∀ i, i < lo → gp left key arr base i = true) ∧ (∀ i, hi ≤ i → i < n → gp left key arr base i = false))
    (Q := fun c st' => st = st' ∧ ∃ hi, c = (none, hi, hi) ∧ hi ≤ n ∧ (∀ i, i < hi → gp left key arr base i = true) ∧ (∀ i, hi ≤ i → i < n → gp left key arr base i = false))
    ?_ ?_ ⟨rfl, _, _, rfl, g1, g2, by omega, g3, g4⟩) ?_)
   ·rintro x c st' _ hx ⟨rfl, lo, hi, rfl, k1, k2, k3, k4, k5⟩
    dsimp only
    by_cases hge : lo ≥ hi
    ·rw [if_pos hge]
     have : lo = hi := by omega
     subst this
     exact wpS_pure ⟨rfl, lo, rfl, k2, k4, k5⟩
    ·rw [if_neg hge]
     refine wpS_bind (hb _ _ (by omega) ?_)
     dsimp only
     by_cases hm : gp left key arr base (lo + (hi - lo) / 2) = true
     ·rw [if_pos hm]
      exact wpS_pure ⟨rfl, _, _, rfl, by omega, k2, by omega, fun i hi' => mono i _ (by omega) (by omega) hm, k5⟩
     ·rw [if_neg hm]
      exact wpS_pure ⟨rfl, _, _, rfl, by omega, by omega, by omega, k4, fun i h1 h2 => anti _ i h1 h2 (by simpa using hm)⟩
   ·rintro c st' ⟨rfl, lo, hi, rfl, k1, k2, k3, k4, k5⟩
    have : lo = hi := by omega
    subst this
    exact ⟨rfl, lo, rfl, k2, k4, k5⟩
   ·rintro c st' ⟨rfl, hi, rfl, k2, k4, k5⟩
    exact wpS_pure (h hi k2 k4 k5)
 | false =>
  rw [if_neg (by decide)]
  refine wpS_bind (wpS_mono (wpS_forRange
   (I := fun x c st' => st = st' ∧ ∃ la of, c = (none, la, of) ∧ la < of ∧ la ≤ hint ∧ x + 1 ≤ of ∧ gp left key arr base (hint - la) = false)
   (Q := fun c st' => st = st' ∧ ∃ la of, c = (none, la, of) ∧ la < of ∧ la ≤ hint ∧ gp left key arr base (hint - la) = false ∧ (of ≥ hint + 1 ∨ (of ≤ hint ∧ gp left key arr base (hint - of) = true)))
   ?_ ?_ ⟨rfl, 0, 1, rfl, by omega, by omega, by omega, hr⟩) ?_)
  ·rintro x c st' _ hx ⟨rfl, la, of, rfl, k1, k2, k3, k4⟩
   dsimp only
   by_cases hge : of ≥ hint + 1
   ·rw [if_pos hge]
    exact wpS_pure ⟨rfl, la, of, rfl, k1, k2, k4, .inl hge⟩
   ·rw [if_neg hge]
    refine wpS_bind (hb _ _ (by omega) ?_)
    dsimp only
    cases hm : gp left key arr base (hint - of) with
    | false => exact wpS_pure ⟨rfl, of, 2 * of + 1, rfl, by omega, by omega, by omega, hm⟩
    | true => exact wpS_pure ⟨rfl, la, of, rfl, k1, k2, k4, .inr ⟨by omega, hm⟩⟩
  ·rintro c st' ⟨rfl, la, of, rfl, k1, k2, k3, k4⟩
   exact ⟨rfl, la, of, rfl, k1, k2, k4, .inl (by omega)⟩
  ·rintro c st' ⟨rfl, la, of, rfl, k1, k2, k4, k5⟩
   dsimp only
   have g1 : hint + 1 - min of (hint + 1) ≤ hint - la := by omega
   have g2 : hint - la ≤ n := by omega
   have g3 : ∀ i, i < hint + 1 - min of (hint + 1) → gp left key arr base i = true := fun i hi => by
    rcases k5 with z | ⟨z, hz⟩
    ·omega
    ·exact mono i _ (by omega) (by omega) hz
   have g4 : ∀ i, hint - la ≤ i → i < n → gp left key arr base i = false := fun i h1 h2 => anti _ i h1 h2 k4
   refine wpS_bind (wpS_mono (wpS_forRange
    (I := fun x c st' => st = st' ∧ ∃ lo hi, c = (none, lo, hi) ∧ lo ≤ hi ∧ hi ≤ n ∧ hi - lo ≤ n - x ∧ (∀ i, i < lo → gp left key arr base i = true) ∧ (∀ i, hi ≤ i → i < n → gp left key arr base i = false))
    (Q := fun c st' => st = st' ∧ ∃ hi, c = (none, hi, hi) ∧ hi ≤ n ∧ (∀ i, i < hi → gp left key arr base i = true) ∧ (∀ i, hi ≤ i → i < n → gp left key arr base i = false))
    ?_ ?_ ⟨rfl, _, _, rfl, g1, g2, by omega, g3, g4⟩) ?_)
   ·rintro x c st' _ hx ⟨rfl, lo, hi, rfl, k1, k2, k3, k4, k5⟩
    dsimp only
    by_cases hge : lo ≥ hi
    ·rw [if_pos hge]
     have : lo = hi := by omega
     subst this
     exact wpS_pure ⟨rfl, lo, rfl, k2, k4, k5⟩
    ·rw [if_neg hge]
     refine wpS_bind (hb _ _ (by omega) ?_)
     dsimp only
     by_cases hm : gp left key arr base (lo + (hi - lo) / 2) = true
     ·rw [if_pos hm]
      exact wpS_pure ⟨rfl, _, _, rfl, by omega, k2, by omega, fun i hi' => mono i _ (by omega) (by omega) hm, k5⟩
     ·rw [if_neg hm]
      exact wpS_pure ⟨rfl, _, _, rfl, by omega, by omega, by omega, k4, fun i h1 h2 => anti _ i h1 h2 (by simpa using hm)⟩
   ·rintro c st' ⟨rfl, lo, hi, rfl, k1, k2, k3, k4, k5⟩
    have : lo = hi := by omega
    subst this
    exact ⟨rfl, lo, rfl, k2, k4, k5⟩
   ·rintro c st' ⟨rfl, hi, rfl, k2, k4, k5⟩
    exact wpS_pure (h hi k2 k4 k5)
end
end Srt
set_option maxHeartbeats 4000000
namespace Srt
open PySem PyProof PyProof.Rows
def kle (x y : Keyed) : Prop := kn x ≤ kn y
theorem zjw {x y z : Keyed} (h : kle x y) (g : kle y z) : kle x z := Int.le_trans h g
structure MI (A B out : List Keyed) (ia ib : Nat) : Prop where
 perm : out.Perm (A.take ia ++ B.take ib)
 srt : out.Pairwise kle
 la : ∀ x ∈ out, ∀ y ∈ A.drop ia, kle x y
 lb : ∀ x ∈ out, ∀ y ∈ B.drop ib, kle x y
def SP (A B R : List Keyed) : Prop := R.Perm (A ++ B) ∧ R.Pairwise kle
theorem MI.swap {A B out : List Keyed} {ia ib : Nat} (m : MI A B out ia ib) : MI B A out ib ia :=
 ⟨m.perm.trans List.perm_append_comm, m.srt, m.lb, m.la⟩
theorem MI.more {A B out : List Keyed} {ia ib : Nat} (hA : A.Pairwise kle) (m : MI A B out ia ib) (k : Nat) (hx : ∀ x ∈ (A.drop ia).take k, ∀ y ∈ B.drop ib, kle x y) :
  MI A B (out ++ (A.drop ia).take k) (ia + k) ib := by
 have hd : (A.drop ia).Pairwise kle := hA.sublist (List.drop_sublist _ _)
 have hs : ((A.drop ia).take k ++ (A.drop ia).drop k).Pairwise kle := by rw [List.take_append_drop]; exact hd
 obtain ⟨p1, p2, p3⟩ := List.pairwise_append.mp hs
 refine ⟨?_, List.pairwise_append.mpr ⟨m.srt, p1, fun x h y g => m.la x h y (List.mem_of_mem_take g)⟩, fun x h y g => ?_, fun x h y g => ?_⟩
 ·rw [List.take_add]
  refine (List.Perm.append_right _ m.perm).trans ?_
  rw [List.append_assoc, List.append_assoc]
  exact List.Perm.append_left _ List.perm_append_comm
 ·rw [← List.drop_drop] at g
  rcases List.mem_append.mp h with z | z
  ·exact m.la x z y (List.mem_of_mem_drop g)
  ·exact p3 x z y g
 ·rcases List.mem_append.mp h with z | z
  ·exact m.lb x z y g
  ·exact hx x z y g
theorem MI.fin {A B out : List Keyed} {ia ib : Nat} (m : MI A B out ia ib) (ha : A.length ≤ ia) (hb : B.length ≤ ib) : SP A B out := by
 have := m.perm
 rw [List.take_of_length_le ha, List.take_of_length_le hb] at this
 exact ⟨this, m.srt⟩
theorem MI.done {A B out : List Keyed} {ia ib : Nat} (hA : A.Pairwise kle) (m : MI A B out ia ib) (hb : B.length ≤ ib) : SP A B (out ++ A.drop ia ++ B.drop ib) := by
 have h := m.more hA A.length (fun x _ y g => by rw [List.drop_of_length_le hb] at g; cases g)
 rw [List.take_of_length_le (by rw [List.length_drop]; omega)] at h
 rw [List.drop_of_length_le hb, List.append_nil]
 exact h.fin (by omega) hb
theorem MI.last {A B out : List Keyed} {ia ib : Nat} (hA : A.Pairwise kle) (hB : B.Pairwise kle) (m : MI A B out ia ib) (hx : ∀ x ∈ B.drop ib, ∀ y ∈ A.drop ia, kle x y) :
  SP A B (out ++ B.drop ib ++ A.drop ia) := by
 have h := (m.swap.more hB B.length (fun x g y g2 => hx x (List.mem_of_mem_take g) y g2)).swap
 rw [List.take_of_length_le (by rw [List.length_drop]; omega)] at h
 have := h.done hA (Nat.le_add_left _ _)
 rwa [List.drop_of_length_le (l := B) (Nat.le_add_left _ _), List.append_nil] at this
theorem zfn {a : Array Keyed} {i : Nat} : (a.extract i a.size).toList = a.toList.drop i := by
 rw [Array.toList_extract, List.extract_eq_drop_take]
 rw [List.take_of_length_le]
 rw [List.length_drop, Array.length_toList]
 exact Nat.le_refl _
theorem ztp {a : Array Keyed} {i k : Nat} : (a.extract i (i + k)).toList = (a.toList.drop i).take k := by
 rw [Array.toList_extract, List.extract_eq_drop_take, Nat.add_sub_cancel_left]
theorem zeb {a : Array Keyed} {i : Nat} {p : Keyed} (h : a[i]? = some p) : (a.toList.drop i).take 1 = [p] := by
 have hi : i < a.toList.length := by
  rw [Array.length_toList]; exact (Array.getElem?_eq_some_iff.mp h).1
 have e : a.toList[i] = p := by
  obtain ⟨h1, h2⟩ := Array.getElem?_eq_some_iff.mp h
  rw [← h2]; exact Array.getElem_toList h1
 rw [List.drop_eq_getElem_cons hi, e]; rfl
theorem zph {a : Array Keyed} {i : Nat} {p : Keyed} (h : a[i]? = some p) : p ∈ a.toList := by
 obtain ⟨h1, h2⟩ := Array.getElem?_eq_some_iff.mp h
 rw [← h2]; exact Array.getElem_mem_toList h1
theorem MI.one {a b out : Array Keyed} {ia ib : Nat} {p : Keyed} (hA : a.toList.Pairwise kle) (m : MI a.toList b.toList out.toList ia ib) (hp : a[ia]? = some p) (hx : ∀ y ∈ b.toList.drop ib, kle p y) :
  MI a.toList b.toList (out.push p).toList (ia + 1) ib := by
 have := m.more hA 1 (by rw [zeb hp]; intro x hx' y hy; rw [List.mem_singleton.mp hx']; exact hx y hy)
 rw [zeb hp] at this
 rwa [Array.toList_push]
theorem MI.blk {a b out : Array Keyed} {ia ib k : Nat} (hA : a.toList.Pairwise kle) (m : MI a.toList b.toList out.toList ia ib) (hx : ∀ x ∈ (a.toList.drop ia).take k, ∀ y ∈ b.toList.drop ib, kle x y) :
  MI a.toList b.toList (out ++ a.extract ia (ia + k)).toList (ia + k) ib := by
 rw [Array.toList_append, ztp]
 exact m.more hA k hx
theorem MI.doneA {a b out : Array Keyed} {ia ib : Nat} (hA : a.toList.Pairwise kle) (m : MI a.toList b.toList out.toList ia ib) (hb : b.size ≤ ib) :
  SP a.toList b.toList (out ++ a.extract ia a.size ++ b.extract ib b.size).toList := by
 rw [Array.toList_append, Array.toList_append, zfn, zfn]
 exact m.done hA hb
theorem MI.doneB {a b out : Array Keyed} {ia ib : Nat} (hB : b.toList.Pairwise kle) (m : MI a.toList b.toList out.toList ia ib) (ha : a.size ≤ ia) :
  SP a.toList b.toList (out ++ a.extract ia a.size ++ b.extract ib b.size).toList := by
 rw [Array.toList_append, Array.toList_append, zfn, zfn, List.drop_of_length_le (l := a.toList) (by rw [Array.length_toList]; exact ha), List.append_nil]
 have h := m.swap.done hB (by rw [Array.length_toList]; exact ha)
 rw [List.drop_of_length_le (l := a.toList) (by rw [Array.length_toList]; exact ha), List.append_nil] at h
 exact ⟨h.1.trans List.perm_append_comm, h.2⟩
theorem MI.lastA {a b out : Array Keyed} {ia ib : Nat} (hA : a.toList.Pairwise kle) (hB : b.toList.Pairwise kle) (m : MI a.toList b.toList out.toList ia ib) (hx : ∀ x ∈ b.toList, ∀ y ∈ a.toList.drop ia, kle x y) :
  SP a.toList b.toList (out ++ b.extract ib b.size ++ a.extract ia a.size).toList := by
 rw [Array.toList_append, Array.toList_append, zfn, zfn]
 exact m.last hA hB fun x h => hx x (List.mem_of_mem_drop h)
theorem MI.lastE {a b out : Array Keyed} {ia ib : Nat} (hA : a.toList.Pairwise kle) (hB : b.toList.Pairwise kle) (m : MI a.toList b.toList out.toList ia ib) (e : ia + 1 = a.size)
  (hx : ∀ x ∈ b.toList, ∀ y ∈ a.toList.drop (a.size - 1), kle x y) : SP a.toList b.toList (out ++ b.extract ib b.size ++ a.extract ia a.size).toList :=
 m.lastA hA hB (by rw [show ia = a.size - 1 by omega]; exact hx)
section
variable {prog : Program} {w : World} {A : Around} {E : Value → Shared → Prop} {s : Shared}
theorem zao {α : Type} {c : Prop} [Decidable c] {t e : StateT SortSt Sem α} {Q : α → SortSt → Prop} {st : SortSt} (h1 : c → wpS (model prog w) A E s t Q st) (h2 : ¬ c → wpS (model prog w) A E s e Q st) :
  wpS (model prog w) A E s (if c then t else e) Q st := by
 by_cases hc : c
 ·rw [if_pos hc]; exact h1 hc
 ·rw [if_neg hc]; exact h2 hc
abbrev zd8 (st : SortSt) (g : Nat) : SortSt := SortSt.mk' (kindOf st) (arrOf st) (pendingOf st) g (failedOf st)
theorem zk4 {a b : Array Keyed} {i j : Nat} {p q : Keyed} (hB : b.toList.Pairwise kle) (hq : b[j]? = some q) (h : kle p q) : ∀ y ∈ b.toList.drop j, kle p y := by
 intro y hy
 obtain ⟨h1, h2⟩ := Array.getElem?_eq_some_iff.mp hq
 have hi : j < b.toList.length := by rw [Array.length_toList]; exact h1
 have e : b.toList[j] = q := by rw [← h2]; exact Array.getElem_toList h1
 have hd := hB.sublist (List.drop_sublist j b.toList)
 rw [List.drop_eq_getElem_cons hi, e] at hy hd
 rcases List.mem_cons.mp hy with z | z
 ·rw [z]; exact h
 ·exact zjw h ((List.pairwise_cons.mp hd).1 y z)
theorem zqf {a : Array Keyed} (hA : a.toList.Pairwise kle) {i j : Nat} (hij : i ≤ j) (hj : j < a.size) : K a i ≤ K a j := by
 have hi : i < a.size := by omega
 rw [zc1 (Array.getElem?_eq_getElem hi), zc1 (Array.getElem?_eq_getElem hj)]
 by_cases e : i = j
 ·subst e; exact Int.le_refl _
 ·have := List.pairwise_iff_getElem.mp hA i j (by rw [Array.length_toList]; exact hi) (by rw [Array.length_toList]; exact hj) (by omega)
  rw [Array.getElem_toList, Array.getElem_toList] at this
  exact this
theorem ze7 {a : Array Keyed} {i : Nat} {x : Keyed} (h : x ∈ a.toList.drop i) : ∃ j, i ≤ j ∧ j < a.size ∧ a[j]? = some x := by
 obtain ⟨j, hj, e⟩ := List.mem_iff_getElem.mp h
 rw [List.length_drop, Array.length_toList] at hj
 rw [List.getElem_drop, Array.getElem_toList] at e
 exact ⟨i + j, by omega, by omega, by rw [Array.getElem?_eq_getElem (by omega), e]⟩
theorem zd2 {a : Array Keyed} {i k : Nat} {x : Keyed} (h : x ∈ (a.toList.drop i).take k) : ∃ j, j < k ∧ i + j < a.size ∧ a[i + j]? = some x := by
 obtain ⟨j, hj, e⟩ := List.mem_iff_getElem.mp h
 rw [List.length_take, List.length_drop, Array.length_toList] at hj
 rw [List.getElem_take, List.getElem_drop, Array.getElem_toList] at e
 exact ⟨j, by omega, by omega, by rw [Array.getElem?_eq_getElem (by omega), e]⟩
theorem zim {q : Keyed} {a : Array Keyed} {i j : Nat} {x : Keyed} (h : gp false q a i j = true) (hx : a[i + j]? = some x) : kle x q := by
 unfold gp at h; rw [zc1 hx] at h
 simp at h; exact h
theorem zhi {q : Keyed} {a : Array Keyed} {i j : Nat} {x : Keyed} (h : gp false q a i j = false) (hx : a[i + j]? = some x) : kle q x := by
 unfold gp at h; rw [zc1 hx] at h
 simp at h; exact Int.le_of_lt h
theorem zkj {q : Keyed} {a : Array Keyed} {i j : Nat} {x : Keyed} (h : gp true q a i j = true) (hx : a[i + j]? = some x) : kle x q := by
 unfold gp at h; rw [zc1 hx] at h
 simp at h; exact Int.le_of_lt h
theorem zjd {q : Keyed} {a : Array Keyed} {i j : Nat} {x : Keyed} (h : gp true q a i j = false) (hx : a[i + j]? = some x) : kle q x := by
 unfold gp at h; rw [zc1 hx] at h
 simp at h; exact h
structure MV (a b out : Array Keyed) (ia ib : Nat) : Prop where
 m : MI a.toList b.toList out.toList ia ib
 ha : ia + 2 ≤ a.size
 hb : ib < b.size
theorem zlp {st : SortSt} {a b : Array Keyed} {Q : Array Keyed → SortSt → Prop} (hk : kindOf st = oneType') (iA : ∀ x ∈ a.toList, zfw x) (iB : ∀ x ∈ b.toList, zfw x)
  (hA : a.toList.Pairwise kle) (hB : b.toList.Pairwise kle) (na : 0 < a.size) (nb : 0 < b.size)
  (hb0 : ∀ x ∈ b.toList.take 1, ∀ y ∈ a.toList, kle x y) (hla : ∀ x ∈ b.toList, ∀ y ∈ a.toList.drop (a.size - 1), kle x y)
  (h : ∀ r g, SP a.toList b.toList r.toList → Q r (zd8 st g)) :
  wpS (model prog w) A E s (zp9 a b) Q st := by
 refine wpS_bind (wpS_lift (wpAny_rule ⟨rfl, ?_⟩))
 refine wpS_bind (zbd (Array.getElem?_eq_getElem nb) ?_)
 have m0 : MI a.toList b.toList (#[b[0]] : Array Keyed).toList 0 1 := by
  have z : MI b.toList a.toList (#[] : Array Keyed).toList 0 0 := ⟨List.Perm.refl _, List.Pairwise.nil, nofun, nofun⟩
  exact (z.one hB (Array.getElem?_eq_getElem nb) (fun y hy => hb0 _ (by have := zeb (Array.getElem?_eq_getElem nb); rw [List.drop_zero] at this; rw [this]; exact List.mem_singleton.mpr rfl) y hy)).swap
 have pA : ∀ {i}, i < a.size → ∃ p, a[i]? = some p ∧ zfw p := fun hi => ⟨_, Array.getElem?_eq_getElem hi, iA _ (Array.getElem_mem_toList hi)⟩
 have pB : ∀ {i}, i < b.size → ∃ p, b[i]? = some p ∧ zfw p := fun hi => ⟨_, Array.getElem?_eq_getElem hi, iB _ (Array.getElem_mem_toList hi)⟩
 refine zao (fun c1 => wpS_pure (h _ (gallopOf st) (m0.doneA hA (Nat.le_of_eq (beq_iff_eq.mp c1).symm)))) (fun c1 => ?_)
 refine zao (fun c2 => wpS_pure (h _ (gallopOf st) (m0.lastE hA hB (beq_iff_eq.mp c2) hla))) (fun c2 => ?_)
 replace c1 : 1 ≠ b.size := fun z => c1 (beq_iff_eq.mpr z)
 replace c2 : 0 + 1 ≠ a.size := fun z => c2 (beq_iff_eq.mpr z)
 refine wpS_bind (wpS_get ?_)
 refine wpS_bind (wpS_mono (wpS_forRange
  (I := fun x c st' => (∃ g, zd8 st g = st') ∧ ∃ out ia ib mg, c = (none, out, ia, ib, mg) ∧ MV a b out ia ib ∧ x + 1 ≤ ia + ib)
  (Q := fun c st' => (∃ g, zd8 st g = st') ∧ ∃ r rest, c = (some r, rest) ∧ SP a.toList b.toList r.toList)
  ?_ ?_ ⟨⟨gallopOf st, rfl⟩, _, 0, 1, _, rfl, ⟨m0, by omega, by omega⟩, by omega⟩) ?_)
 ·rintro x0 c st' _ hx0 ⟨⟨g, rfl⟩, out, ia, ib, mg, rfl, v, hx⟩
  refine wpS_bind (wpS_mono (wpS_forRange
   (I := fun x c st' => zd8 st g = st' ∧ ∃ out ia ib ac bc, c = (none, out, ia, ib, ac, bc) ∧ MV a b out ia ib ∧ x0 + 1 + x ≤ ia + ib)
   (Q := fun c st' => zd8 st g = st' ∧ ((∃ r rest, c = (some r, rest) ∧ SP a.toList b.toList r.toList) ∨ ∃ out ia ib ac bc, c = (none, out, ia, ib, ac, bc) ∧ MV a b out ia ib ∧ x0 + 2 ≤ ia + ib))
   ?_ ?_ ⟨rfl, out, ia, ib, 0, 0, rfl, v, by omega⟩) ?_)
  ·rintro x c st' _ hx1 ⟨rfl, out, ia, ib, ac, bc, rfl, v, hx⟩
   obtain ⟨p, hp, ip⟩ := pA (show ia < a.size by have := v.ha; omega)
   obtain ⟨q, hq, iq⟩ := pB v.hb
   refine wpS_bind (zbd hq (wpS_bind (zbd hp (wpS_bind (zi4 hk iq ip ?_)))))
   dsimp only
   have va := v.ha
   have vb := v.hb
   refine zao (fun c3 => ?_) (fun c3 => ?_)
   ·have c3' : kle q p := Int.le_of_lt (of_decide_eq_true c3)
    have m2 := (v.m.swap.one hB hq (zk4 (a := b) (i := ib) hA hp c3')).swap
    refine wpS_bind (zbd hq ?_)
    refine zao (fun c4 => wpS_pure ⟨rfl, .inl ⟨_, _, rfl, m2.doneA hA (Nat.le_of_eq (beq_iff_eq.mp c4).symm)⟩⟩) (fun c4 => ?_)
    have c4' : ib + 1 ≠ b.size := fun z => c4 (beq_iff_eq.mpr z)
    exact zao (fun c5 => wpS_pure ⟨rfl, .inr ⟨_, _, _, _, _, rfl, ⟨m2, va, by omega⟩, by omega⟩⟩) (fun c5 => wpS_pure ⟨rfl, _, _, _, _, _, rfl, ⟨m2, va, by omega⟩, by omega⟩)
   ·have c3' : kle p q := Int.not_lt.mp (fun z => c3 (decide_eq_true z))
    have m2 := v.m.one hA hp (zk4 (a := a) (i := ia) hB hq c3')
    refine wpS_bind (zbd hp ?_)
    refine zao (fun c4 => wpS_pure ⟨rfl, .inl ⟨_, _, rfl, m2.lastE hA hB (beq_iff_eq.mp c4) hla⟩⟩) (fun c4 => ?_)
    have c4' : ia + 1 + 1 ≠ a.size := fun z => c4 (beq_iff_eq.mpr z)
    exact zao (fun c5 => wpS_pure ⟨rfl, .inr ⟨_, _, _, _, _, rfl, ⟨m2, by omega, vb⟩, by omega⟩⟩) (fun c5 => wpS_pure ⟨rfl, _, _, _, _, _, rfl, ⟨m2, by omega, vb⟩, by omega⟩)
  ·rintro c st' ⟨rfl, out, ia, ib, ac, bc, rfl, v, hx⟩
   have va := v.ha
   have vb := v.hb
   omega
  ·rintro c st' ⟨rfl, ⟨r, rest, rfl, hr⟩ | ⟨out, ia, ib, ac, bc, rfl, v, hx⟩⟩
   ·exact wpS_pure ⟨⟨g, rfl⟩, r, _, rfl, hr⟩
   refine wpS_bind (wpS_lift (wpAny_rule ⟨rfl, ?_⟩))
   refine wpS_bind (wpS_mono (wpS_forRange
    (I := fun x c st' => (∃ g, zd8 st g = st') ∧ ∃ out ia ib mg ac bc, c = (none, out, ia, ib, mg, ac, bc) ∧ MV a b out ia ib ∧ x0 + 2 + x ≤ ia + ib)
    (Q := fun c st' => (∃ g, zd8 st g = st') ∧ ((∃ r rest, c = (some r, rest) ∧ SP a.toList b.toList r.toList) ∨ ∃ out ia ib mg ac bc, c = (none, out, ia, ib, mg, ac, bc) ∧ MV a b out ia ib ∧ x0 + 2 ≤ ia + ib))
    ?_ ?_ ⟨⟨g, rfl⟩, out, ia, ib, _, ac, bc, rfl, v, by omega⟩) ?_)
   ·rintro x c st' _ hx1 ⟨⟨g, rfl⟩, out, ia, ib, mg, ac, bc, rfl, v, hx⟩
    have va := v.ha
    have vb := v.hb
    obtain ⟨q, hq, iq⟩ := pB vb
    dsimp (config := { zeta := false, zetaHave := false, zetaUnused := false }) only
    extract_lets _ _ _ _ _ _ _ _ _ _ _ _ jp
    suffices hj : ∀ mg', wpS (model prog w) A E s (jp () mg') _ (zd8 st g) from zao (fun _ => hj _) (fun _ => hj _)
    intro mg'
    refine wpS_bind (wpS_modify ?_)
    refine wpS_bind (zbd hq ?_)
    refine wpS_bind (zc8 (left := false) (arr := a) (base := ia) (n := a.size - ia) (hint := 0) hk iq (fun i hi => pA (i := ia + i) (by omega)) (fun i j hij hj => zqf hA (by omega) (by omega)) (by omega) fun k k1 k2 k3 => ?_)
    have le1 : ∀ x ∈ (a.toList.drop ia).take k, ∀ y ∈ b.toList.drop ib, kle x y := fun x hx y hy => by
     obtain ⟨j, h1, h2, h3⟩ := zd2 hx
     exact zk4 (a := a) (i := 0) hB hq (zim (k2 j h1) h3) y hy
    have le2 : ∀ y ∈ a.toList.drop (ia + k), kle q y := fun y hy => by
     obtain ⟨j, h1, h2, h3⟩ := ze7 hy
     exact zhi (k3 (j - ia) (by omega) (by omega)) (by rw [show ia + (j - ia) = j by omega]; exact h3)
    dsimp (config := { zeta := false, zetaHave := false, zetaUnused := false }) only
    extract_lets _ jp2
    suffices hj2 : ∀ (o2 : Array Keyed) (i2 : Nat), MI a.toList b.toList o2.toList i2 ib → i2 + 2 ≤ a.size → ia ≤ i2 → (∀ y ∈ a.toList.drop i2, kle q y) → wpS (model prog w) A E s (jp2 () o2 i2) _ (zd8 st mg') by
     refine zao (fun c3 => ?_) (fun c3 => hj2 out ia v.m va (Nat.le_refl _) (by rw [show ia = ia + k by omega]; exact le2))
     have m2 := v.m.blk hA le1
     refine zao (fun c4 => wpS_pure ⟨⟨mg', rfl⟩, .inl ⟨_, _, rfl, m2.lastE hA hB (beq_iff_eq.mp c4) hla⟩⟩) (fun c4 => ?_)
     refine zao (fun c5 => wpS_pure ⟨⟨mg', rfl⟩, .inl ⟨_, _, rfl, m2.doneB hB (Nat.le_of_eq (beq_iff_eq.mp c5).symm)⟩⟩) (fun c5 => ?_)
     have c4' : ia + k + 1 ≠ a.size := fun z => c4 (beq_iff_eq.mpr z)
     have c5' : ia + k ≠ a.size := fun z => c5 (beq_iff_eq.mpr z)
     exact hj2 _ (ia + k) m2 (by omega) (by omega) le2
    intro o2 i2 m2 hi2 hle qle
    obtain ⟨p, hp, ip⟩ := pA (show i2 < a.size by omega)
    refine wpS_bind (zbd hq ?_)
    have m3 := (m2.swap.one hB hq qle).swap
    refine zao (fun c4 => wpS_pure ⟨⟨mg', rfl⟩, .inl ⟨_, _, rfl, m3.doneA hA (Nat.le_of_eq (beq_iff_eq.mp c4).symm)⟩⟩) (fun c4 => ?_)
    have c4' : ib + 1 ≠ b.size := fun z => c4 (beq_iff_eq.mpr z)
    refine wpS_bind (zbd hp ?_)
    refine wpS_bind (zc8 (left := true) (arr := b) (base := ib + 1) (n := b.size - (ib + 1)) (hint := 0) hk ip (fun i hi => pB (i := ib + 1 + i) (by omega)) (fun i j hij hj => zqf hB (by omega) (by omega)) (by omega) fun k' l1 l2 l3 => ?_)
    have le3 : ∀ x ∈ (b.toList.drop (ib + 1)).take k', ∀ y ∈ a.toList.drop i2, kle x y := fun x hx y hy => by
     obtain ⟨j, h1, h2, h3⟩ := zd2 hx
     exact zk4 (a := a) (i := 0) hA hp (zkj (l2 j h1) h3) y hy
    have le4 : ∀ y ∈ b.toList.drop (ib + 1 + k'), kle p y := fun y hy => by
     obtain ⟨j, h1, h2, h3⟩ := ze7 hy
     exact zjd (l3 (j - (ib + 1)) (by omega) (by omega)) (by rw [show ib + 1 + (j - (ib + 1)) = j by omega]; exact h3)
    dsimp (config := { zeta := false, zetaHave := false, zetaUnused := false }) only
    extract_lets _ _ jp3
    suffices hj3 : ∀ (o3 : Array Keyed) (i3 : Nat), MI a.toList b.toList o3.toList i2 i3 → i3 < b.size → ib + 1 ≤ i3 → (∀ y ∈ b.toList.drop i3, kle p y) → wpS (model prog w) A E s (jp3 () o3 i3) _ (zd8 st mg') by
     refine zao (fun c3 => ?_) (fun c3 => hj3 _ (ib + 1) m3 (by omega) (Nat.le_refl _) (by rw [show ib + 1 = ib + 1 + k' by omega]; exact le4))
     have m4 := (m3.swap.blk hB le3).swap
     refine zao (fun c5 => wpS_pure ⟨⟨mg', rfl⟩, .inl ⟨_, _, rfl, m4.doneA hA (Nat.le_of_eq (beq_iff_eq.mp c5).symm)⟩⟩) (fun c5 => ?_)
     have c5' : ib + 1 + k' ≠ b.size := fun z => c5 (beq_iff_eq.mpr z)
     exact hj3 _ (ib + 1 + k') m4 (by omega) (by omega) le4
    intro o3 i3 m4 hi3 hle3 ple
    refine wpS_bind (zbd hp ?_)
    have m5 := m4.one hA hp ple
    refine zao (fun c5 => wpS_pure ⟨⟨mg', rfl⟩, .inl ⟨_, _, rfl, m5.lastE hA hB (beq_iff_eq.mp c5) hla⟩⟩) (fun c5 => ?_)
    have c5' : i2 + 1 + 1 ≠ a.size := fun z => c5 (beq_iff_eq.mpr z)
    exact zao (fun c6 => wpS_pure ⟨⟨mg', rfl⟩, .inr ⟨_, _, _, _, _, _, rfl, ⟨m5, by omega, hi3⟩, by omega⟩⟩) (fun c6 => wpS_pure ⟨⟨mg', rfl⟩, _, _, _, _, _, _, rfl, ⟨m5, by omega, hi3⟩, by omega⟩)
   ·rintro c st' ⟨⟨g, rfl⟩, out, ia, ib, mg, ac, bc, rfl, v, hx⟩
    have va := v.ha
    have vb := v.hb
    omega
   ·rintro c st' ⟨⟨g, rfl⟩, ⟨r, rest, rfl, hr⟩ | ⟨out, ia, ib, mg, ac, bc, rfl, v, hx⟩⟩
    ·exact wpS_pure ⟨⟨g, rfl⟩, r, _, rfl, hr⟩
    ·exact wpS_bind (wpS_modify (wpS_pure ⟨⟨_, rfl⟩, _, _, _, _, rfl, v, by omega⟩))
 ·rintro c st' ⟨⟨g, rfl⟩, out, ia, ib, mg, rfl, v, hx⟩
  have va := v.ha
  have vb := v.hb
  omega
 ·rintro c st' ⟨⟨g, rfl⟩, r, rest, rfl, hr⟩
  exact wpS_pure (h r g hr)
end
end Srt
set_option maxHeartbeats 4000000
namespace Srt
open PySem PyProof PyProof.Rows
structure MH (A B out : List Keyed) (na nb : Nat) : Prop where
 perm : out.Perm (A.drop na ++ B.drop nb)
 srt : out.Pairwise fun x y => kle y x
 la : ∀ x ∈ out, ∀ y ∈ A.take na, kle y x
 lb : ∀ x ∈ out, ∀ y ∈ B.take nb, kle y x
theorem MH.swap {A B out : List Keyed} {na nb : Nat} (m : MH A B out na nb) : MH B A out nb na :=
 ⟨m.perm.trans List.perm_append_comm, m.srt, m.lb, m.la⟩
theorem MH.more {A B out : List Keyed} {na nb : Nat} (hA : A.Pairwise kle) (m : MH A B out na nb) {k : Nat} (hk : k ≤ na) (hn : na ≤ A.length) (hx : ∀ x ∈ (A.take na).drop k, ∀ y ∈ B.take nb, kle y x) :
    MH A B (out ++ ((A.take na).drop k).reverse) k nb := by
  have hd : (A.take na).Pairwise kle := hA.sublist (List.take_sublist _ _)
  have hs : ((A.take na).take k ++ (A.take na).drop k).Pairwise kle := by rw [List.take_append_drop]; exact hd
  obtain ⟨p1, p2, p3⟩ := List.pairwise_append.mp hs
  rw [List.take_take, Nat.min_eq_left hk] at p3
  have ed : A.drop k = (A.take na).drop k ++ A.drop na := by
    conv => lhs; rw [← List.take_append_drop na A]
    rw [List.drop_append_of_le_length (by rw [List.length_take]; omega)]
  refine ⟨?_, List.pairwise_append.mpr ⟨m.srt, List.pairwise_reverse.mpr p2, fun x h y g => m.la x h y (List.mem_of_mem_drop (List.mem_reverse.mp g))⟩, fun x h y g => ?_, fun x h y g => ?_⟩
  · rw [ed]
    refine (List.Perm.append m.perm (List.reverse_perm _)).trans ?_
    refine List.perm_append_comm.trans ?_
    rw [List.append_assoc]
  · rcases List.mem_append.mp h with z | z
    · exact m.la x z y (by have : A.take k = (A.take na).take k := by rw [List.take_take, Nat.min_eq_left hk]
                           rw [this] at g; exact List.mem_of_mem_take g)
    · exact p3 y g x (List.mem_reverse.mp z)
  · rcases List.mem_append.mp h with z | z
    · exact m.lb x z y g
    · exact hx x (List.mem_reverse.mp z) y g
theorem MH.fin {A B out : List Keyed} (m : MH A B out 0 0) : SP A B out.reverse :=
 ⟨(List.reverse_perm _).trans m.perm, List.pairwise_reverse.mpr m.srt⟩
theorem MH.allA {A B out : List Keyed} {na : Nat} (hA : A.Pairwise kle) (m : MH A B out na 0) (hn : na ≤ A.length) : SP A B (A.take na ++ out.reverse) := by
 have h := (m.more hA (Nat.zero_le _) hn (fun x _ y g => by rw [List.take_zero] at g; cases g)).fin
 rwa [List.drop_zero, List.reverse_append, List.reverse_reverse] at h
theorem MH.allB {A B out : List Keyed} {nb : Nat} (hB : B.Pairwise kle) (m : MH A B out 0 nb) (hn : nb ≤ B.length) : SP A B (B.take nb ++ out.reverse) := by
 have h := m.swap.allA hB hn
 exact ⟨h.1.trans List.perm_append_comm, h.2⟩
theorem MH.first {A B out : List Keyed} {na nb : Nat} (hA : A.Pairwise kle) (hB : B.Pairwise kle) (m : MH A B out na nb) (ha : na ≤ A.length) (hb : nb ≤ B.length) (hx : ∀ x ∈ B.take nb, ∀ y ∈ A.take na, kle x y) :
  SP A B (B.take nb ++ A.take na ++ out.reverse) := by
 have h := (m.more hA (Nat.zero_le _) ha (fun x g y g2 => hx y g2 x (by rwa [List.drop_zero] at g))).allB hB hb
 rwa [List.drop_zero, List.reverse_append, List.reverse_reverse, ← List.append_assoc] at h
theorem zpa {a : Array Keyed} {k : Nat} : (a.extract 0 k).toList = a.toList.take k := by
 rw [Array.toList_extract, List.extract_eq_drop_take, List.drop_zero, Nat.sub_zero]
theorem zkb {a : Array Keyed} {i k : Nat} : (a.extract i k).toList = (a.toList.take k).drop i := by
 rw [Array.toList_extract, List.extract_eq_drop_take, List.drop_take]
theorem zjx {a : Array Keyed} {n : Nat} {p : Keyed} (h : a[n - 1]? = some p) (hn : 0 < n) (hs : n ≤ a.size) : (a.toList.take n).drop (n - 1) = [p] := by
 have := zeb h
 rw [List.drop_take, show n - (n - 1) = 1 by omega]
 exact this
theorem MH.one {a b out : Array Keyed} {na nb : Nat} {p : Keyed} (hA : a.toList.Pairwise kle) (m : MH a.toList b.toList out.toList na nb) (hp : a[na - 1]? = some p) (hn : 0 < na) (hs : na ≤ a.size) (hx : ∀ y ∈ b.toList.take nb, kle y p) :
  MH a.toList b.toList (out.push p).toList (na - 1) nb := by
 have := m.more hA (k := na - 1) (by omega) (by rw [Array.length_toList]; exact hs) (by rw [zjx hp hn hs]; intro x hx' y hy; rw [List.mem_singleton.mp hx']; exact hx y hy)
 rw [zjx hp hn hs] at this
 rwa [Array.toList_push]
theorem MH.blk {a b out : Array Keyed} {na nb k : Nat} (hA : a.toList.Pairwise kle) (m : MH a.toList b.toList out.toList na nb) (hk : k ≤ na) (hs : na ≤ a.size) (hx : ∀ x ∈ (a.toList.take na).drop k, ∀ y ∈ b.toList.take nb, kle y x) :
  MH a.toList b.toList (out ++ (a.extract k na).reverse).toList k nb := by
 rw [Array.toList_append, Array.toList_reverse, zkb]
 exact m.more hA hk (by rw [Array.length_toList]; exact hs) hx
theorem MH.done0 {a b out : Array Keyed} {na nb : Nat} (hA : a.toList.Pairwise kle) (m : MH a.toList b.toList out.toList na nb) (e : nb = 0) (hs : na ≤ a.size) :
  SP a.toList b.toList (a.extract 0 na ++ b.extract 0 nb ++ out.reverse).toList := by
 subst e
 rw [Array.toList_append, Array.toList_append, Array.toList_reverse, zpa, zpa, List.take_zero, List.append_nil]
 exact m.allA hA (by rw [Array.length_toList]; exact hs)
theorem MH.doneZ {a b out : Array Keyed} {na nb : Nat} (hB : b.toList.Pairwise kle) (m : MH a.toList b.toList out.toList na nb) (e : na = 0) (hs : nb ≤ b.size) :
  SP a.toList b.toList (a.extract 0 na ++ b.extract 0 nb ++ out.reverse).toList := by
 subst e
 rw [Array.toList_append, Array.toList_append, Array.toList_reverse, zpa, zpa, List.take_zero, List.nil_append]
 exact m.allB hB (by rw [Array.length_toList]; exact hs)
theorem MH.firstB {a b out : Array Keyed} {na nb : Nat} (hA : a.toList.Pairwise kle) (hB : b.toList.Pairwise kle) (m : MH a.toList b.toList out.toList na nb) (e : nb = 1) (ha : na ≤ a.size) (hb : 0 < b.size)
  (hx : ∀ x ∈ b.toList.take 1, ∀ y ∈ a.toList, kle x y) : SP a.toList b.toList (b.extract 0 nb ++ a.extract 0 na ++ out.reverse).toList := by
 subst e
 rw [Array.toList_append, Array.toList_append, Array.toList_reverse, zpa, zpa]
 exact m.first hA hB (by rw [Array.length_toList]; exact ha) (by rw [Array.length_toList]; exact hb) fun x h y g => hx x h y (List.mem_of_mem_take g)
theorem zeo {a : Array Keyed} {n : Nat} {x : Keyed} (h : x ∈ a.toList.take n) : ∃ j, j < n ∧ j < a.size ∧ a[j]? = some x := by
 obtain ⟨j, h1, h2, h3⟩ := zd2 (i := 0) (k := n) (by rw [List.drop_zero]; exact h)
 rw [Nat.zero_add] at h2 h3
 exact ⟨j, h1, h2, h3⟩
theorem zep {a : Array Keyed} {n k : Nat} {x : Keyed} (h : x ∈ (a.toList.take n).drop k) : ∃ j, k ≤ j ∧ j < n ∧ j < a.size ∧ a[j]? = some x := by
 rw [List.drop_take] at h
 obtain ⟨j, h1, h2, h3⟩ := zd2 h
 exact ⟨k + j, by omega, by omega, h2, h3⟩
theorem zki {b : Array Keyed} {n : Nat} {p q : Keyed} (hB : b.toList.Pairwise kle) (hq : b[n - 1]? = some q) (h : kle q p) (hn : n ≤ b.size) (h0 : 0 < n) : ∀ y ∈ b.toList.take n, kle y p := by
 intro y hy
 obtain ⟨j, h1, h2, h3⟩ := zeo hy
 have := zqf hB (i := j) (j := n - 1) (by omega) (by omega)
 rw [zc1 h3, zc1 hq] at this
 exact zjw this h
structure MW (a b out : Array Keyed) (na nb : Nat) : Prop where
 m : MH a.toList b.toList out.toList na nb
 a1 : 1 ≤ na
 a2 : na ≤ a.size
 b1 : 2 ≤ nb
 b2 : nb ≤ b.size
section
variable {prog : Program} {w : World} {A : Around} {E : Value → Shared → Prop} {s : Shared}
theorem zk8 {st : SortSt} {a b : Array Keyed} {Q : Array Keyed → SortSt → Prop} (hk : kindOf st = oneType') (iA : ∀ x ∈ a.toList, zfw x) (iB : ∀ x ∈ b.toList, zfw x)
  (hA : a.toList.Pairwise kle) (hB : b.toList.Pairwise kle) (na0 : 0 < a.size) (nb0 : 0 < b.size)
  (hb0 : ∀ x ∈ b.toList.take 1, ∀ y ∈ a.toList, kle x y) (hla : ∀ x ∈ b.toList, ∀ y ∈ a.toList.drop (a.size - 1), kle x y)
  (h : ∀ r g, SP a.toList b.toList r.toList → Q r (zd8 st g)) :
  wpS (model prog w) A E s (zp1 a b) Q st := by
 have pA : ∀ {i}, i < a.size → ∃ p, a[i]? = some p ∧ zfw p := fun hi => ⟨_, Array.getElem?_eq_getElem hi, iA _ (Array.getElem_mem_toList hi)⟩
 have pB : ∀ {i}, i < b.size → ∃ p, b[i]? = some p ∧ zfw p := fun hi => ⟨_, Array.getElem?_eq_getElem hi, iB _ (Array.getElem_mem_toList hi)⟩
 obtain ⟨z, hz, iz⟩ := pA (show a.size - 1 < a.size by omega)
 refine wpS_bind (wpS_lift (wpAny_rule ⟨rfl, ?_⟩))
 refine wpS_bind (zbd hz ?_)
 have m0 : MH a.toList b.toList (#[z] : Array Keyed).toList (a.size - 1) b.size := by
  have e : MH a.toList b.toList (#[] : Array Keyed).toList a.size b.size := ⟨by rw [List.drop_of_length_le (Nat.le_of_eq Array.length_toList), List.drop_of_length_le (Nat.le_of_eq Array.length_toList)]; exact List.Perm.refl _, List.Pairwise.nil, nofun, nofun⟩
  exact e.one hA hz na0 (Nat.le_refl _) fun y hy => hla y (List.mem_of_mem_take hy) z (List.mem_of_mem_take (i := 1) (by rw [zeb hz]; exact List.mem_singleton.mpr rfl))
 refine zao (fun c1 => wpS_pure (h _ (gallopOf st) (m0.doneZ hB (beq_iff_eq.mp c1) (Nat.le_refl _)))) (fun c1 => ?_)
 refine zao (fun c2 => wpS_pure (h _ (gallopOf st) (m0.firstB hA hB (beq_iff_eq.mp c2) (by omega) nb0 hb0))) (fun c2 => ?_)
 replace c1 : a.size - 1 ≠ 0 := fun z => c1 (beq_iff_eq.mpr z)
 replace c2 : b.size ≠ 1 := fun z => c2 (beq_iff_eq.mpr z)
 refine wpS_bind (wpS_get ?_)
 refine wpS_bind (wpS_mono (wpS_forRange
  (I := fun x c st' => (∃ g, zd8 st g = st') ∧ ∃ na nb out mg, c = (none, na, nb, out, mg) ∧ MW a b out na nb ∧ x + 1 + na + nb ≤ a.size + b.size)
  (Q := fun c st' => (∃ g, zd8 st g = st') ∧ ∃ r rest, c = (some r, rest) ∧ SP a.toList b.toList r.toList)
  ?_ ?_ ⟨⟨gallopOf st, rfl⟩, _, _, _, _, rfl, ⟨m0, by omega, by omega, by omega, by omega⟩, by omega⟩) ?_)
 ·rintro x0 c st' _ hx0 ⟨⟨g, rfl⟩, na, nb, out, mg, rfl, v, hx⟩
  refine wpS_bind (wpS_mono (wpS_forRange
   (I := fun x c st' => zd8 st g = st' ∧ ∃ na nb out ac bc, c = (none, na, nb, out, ac, bc) ∧ MW a b out na nb ∧ x0 + 1 + x + na + nb ≤ a.size + b.size)
   (Q := fun c st' => zd8 st g = st' ∧ ((∃ r rest, c = (some r, rest) ∧ SP a.toList b.toList r.toList) ∨ ∃ na nb out ac bc, c = (none, na, nb, out, ac, bc) ∧ MW a b out na nb ∧ x0 + 2 + na + nb ≤ a.size + b.size))
   ?_ ?_ ⟨rfl, na, nb, out, 0, 0, rfl, v, by omega⟩) ?_)
  ·rintro x c st' _ hx1 ⟨rfl, na, nb, out, ac, bc, rfl, v, hx⟩
   obtain ⟨vm, a1, a2, b1, b2⟩ := v
   obtain ⟨p, hp, ip⟩ := pA (show na - 1 < a.size by omega)
   obtain ⟨q, hq, iq⟩ := pB (show nb - 1 < b.size by omega)
   refine wpS_bind (zbd hq (wpS_bind (zbd hp (wpS_bind (zi4 hk iq ip ?_)))))
   dsimp only
   refine zao (fun c3 => ?_) (fun c3 => ?_)
   ·have c3' : kle q p := Int.le_of_lt (of_decide_eq_true c3)
    have m2 := vm.one hA hp a1 a2 (zki hB hq c3' b2 (by omega))
    refine wpS_bind (zbd hp ?_)
    refine zao (fun c4 => wpS_pure ⟨rfl, .inl ⟨_, _, rfl, m2.doneZ hB (beq_iff_eq.mp c4) b2⟩⟩) (fun c4 => ?_)
    have c4' : na - 1 ≠ 0 := fun z => c4 (beq_iff_eq.mpr z)
    exact zao (fun c5 => wpS_pure ⟨rfl, .inr ⟨_, _, _, _, _, rfl, ⟨m2, by omega, by omega, b1, b2⟩, by omega⟩⟩) (fun c5 => wpS_pure ⟨rfl, _, _, _, _, _, rfl, ⟨m2, by omega, by omega, b1, b2⟩, by omega⟩)
   ·have c3' : kle p q := Int.not_lt.mp (fun z => c3 (decide_eq_true z))
    have m2 := (vm.swap.one hB hq (by omega) b2 (zki hA hp c3' a2 a1)).swap
    refine wpS_bind (zbd hq ?_)
    refine zao (fun c4 => wpS_pure ⟨rfl, .inl ⟨_, _, rfl, m2.firstB hA hB (beq_iff_eq.mp c4) a2 nb0 hb0⟩⟩) (fun c4 => ?_)
    have c4' : nb - 1 ≠ 1 := fun z => c4 (beq_iff_eq.mpr z)
    exact zao (fun c5 => wpS_pure ⟨rfl, .inr ⟨_, _, _, _, _, rfl, ⟨m2, a1, a2, by omega, by omega⟩, by omega⟩⟩) (fun c5 => wpS_pure ⟨rfl, _, _, _, _, _, rfl, ⟨m2, a1, a2, by omega, by omega⟩, by omega⟩)
  ·rintro c st' ⟨rfl, na, nb, out, ac, bc, rfl, ⟨vm, a1, a2, b1, b2⟩, hx⟩
   omega
  ·rintro c st' ⟨rfl, ⟨r, rest, rfl, hr⟩ | ⟨na, nb, out, ac, bc, rfl, v, hx⟩⟩
   ·exact wpS_pure ⟨⟨g, rfl⟩, r, _, rfl, hr⟩
   refine wpS_bind (wpS_lift (wpAny_rule ⟨rfl, ?_⟩))
   refine wpS_bind (wpS_mono (wpS_forRange
    (I := fun x c st' => (∃ g, zd8 st g = st') ∧ ∃ na nb out mg ac bc, c = (none, na, nb, out, mg, ac, bc) ∧ MW a b out na nb ∧ x0 + 2 + x + na + nb ≤ a.size + b.size)
    (Q := fun c st' => (∃ g, zd8 st g = st') ∧ ((∃ r rest, c = (some r, rest) ∧ SP a.toList b.toList r.toList) ∨ ∃ na nb out mg ac bc, c = (none, na, nb, out, mg, ac, bc) ∧ MW a b out na nb ∧ x0 + 2 + na + nb ≤ a.size + b.size))
    ?_ ?_ ⟨⟨g, rfl⟩, na, nb, out, _, ac, bc, rfl, v, by omega⟩) ?_)
   ·rintro x c st' _ hx1 ⟨⟨g, rfl⟩, na, nb, out, mg, ac, bc, rfl, ⟨vm, a1, a2, b1, b2⟩, hx⟩
    obtain ⟨q, hq, iq⟩ := pB (show nb - 1 < b.size by omega)
    dsimp (config := { zeta := false, zetaHave := false, zetaUnused := false }) only
    extract_lets _ _ _ _ _ _ _ _ _ _ _ _ jp
    suffices hj : ∀ mg', wpS (model prog w) A E s (jp () mg') _ (zd8 st g) from zao (fun _ => hj _) (fun _ => hj _)
    intro mg'
    refine wpS_bind (wpS_modify ?_)
    refine wpS_bind (zbd hq ?_)
    refine wpS_bind (zc8 (left := false) (arr := a) (base := 0) (n := na) (hint := na - 1) hk iq (fun i hi => by rw [Nat.zero_add]; exact pA (i := i) (by omega)) (fun i j hij hj => by rw [Nat.zero_add, Nat.zero_add]; exact zqf hA hij (by omega)) (by omega) fun k k1 k2 k3 => ?_)
    have le1 : ∀ x ∈ (a.toList.take na).drop k, ∀ y ∈ b.toList.take nb, kle y x := fun x hx y hy => by
     obtain ⟨j, h1, h2, h3, h4⟩ := zep hx
     exact zki hB hq (zhi (k3 j h1 h2) (by rw [Nat.zero_add]; exact h4)) b2 (by omega) y hy
    have le2 : ∀ y ∈ a.toList.take k, kle y q := fun y hy => by
     obtain ⟨j, h1, h2, h3⟩ := zeo hy
     exact zim (k2 j h1) (by rw [Nat.zero_add]; exact h3)
    dsimp (config := { zeta := false, zetaHave := false, zetaUnused := false }) only
    extract_lets _ _ jp2
    suffices hj2 : ∀ (n2 : Nat) (o2 : Array Keyed), MH a.toList b.toList o2.toList n2 nb → 1 ≤ n2 → n2 ≤ na → (∀ y ∈ a.toList.take n2, kle y q) → wpS (model prog w) A E s (jp2 () n2 o2) _ (zd8 st mg') by
     refine zao (fun c3 => ?_) (fun c3 => hj2 na out vm a1 (Nat.le_refl _) (by have c3' : ¬ (na - k > 0) := c3; rw [show na = k by omega]; exact le2))
     have m2 := vm.blk hA k1 a2 le1
     refine zao (fun c4 => wpS_pure ⟨⟨mg', rfl⟩, .inl ⟨_, _, rfl, m2.doneZ hB (beq_iff_eq.mp c4) b2⟩⟩) (fun c4 => ?_)
     have c4' : k ≠ 0 := fun z => c4 (beq_iff_eq.mpr z)
     exact hj2 k _ m2 (by omega) k1 le2
    intro n2 o2 m2 hn2 hle qle
    obtain ⟨p, hp, ip⟩ := pA (show n2 - 1 < a.size by omega)
    refine wpS_bind (zbd hq ?_)
    have m3 := (m2.swap.one hB hq (by omega) b2 qle).swap
    refine zao (fun c4 => wpS_pure ⟨⟨mg', rfl⟩, .inl ⟨_, _, rfl, m3.firstB hA hB (beq_iff_eq.mp c4) (by omega) nb0 hb0⟩⟩) (fun c4 => ?_)
    have c4' : nb - 1 ≠ 1 := fun z => c4 (beq_iff_eq.mpr z)
    refine wpS_bind (zbd hp ?_)
    refine wpS_bind (zc8 (left := true) (arr := b) (base := 0) (n := nb - 1) (hint := nb - 1 - 1) hk ip (fun i hi => by rw [Nat.zero_add]; exact pB (i := i) (by omega)) (fun i j hij hj => by rw [Nat.zero_add, Nat.zero_add]; exact zqf hB hij (by omega)) (by omega) fun k' l1 l2 l3 => ?_)
    have le3 : ∀ x ∈ (b.toList.take (nb - 1)).drop k', ∀ y ∈ a.toList.take n2, kle y x := fun x hx y hy => by
     obtain ⟨j, h1, h2, h3, h4⟩ := zep hx
     exact zki hA hp (zjd (l3 j h1 h2) (by rw [Nat.zero_add]; exact h4)) (by omega) hn2 y hy
    have le4 : ∀ y ∈ b.toList.take k', kle y p := fun y hy => by
     obtain ⟨j, h1, h2, h3⟩ := zeo hy
     exact zkj (l2 j h1) (by rw [Nat.zero_add]; exact h3)
    dsimp (config := { zeta := false, zetaHave := false, zetaUnused := false }) only
    extract_lets _ _ _ jp3
    suffices hj3 : ∀ (n3 : Nat) (o3 : Array Keyed), MH a.toList b.toList o3.toList n2 n3 → 2 ≤ n3 → n3 ≤ nb - 1 → (∀ y ∈ b.toList.take n3, kle y p) → wpS (model prog w) A E s (jp3 () n3 o3) _ (zd8 st mg') by
     refine zao (fun c3 => ?_) (fun c3 => hj3 (nb - 1) _ m3 (by omega) (Nat.le_refl _) (by have c3' : ¬ (nb - 1 - k' > 0) := c3; rw [show nb - 1 = k' by omega]; exact le4))
     have m4 := (m3.swap.blk hB l1 (by omega) le3).swap
     refine zao (fun c5 => wpS_pure ⟨⟨mg', rfl⟩, .inl ⟨_, _, rfl, m4.firstB hA hB (beq_iff_eq.mp c5) (by omega) nb0 hb0⟩⟩) (fun c5 => ?_)
     refine zao (fun c6 => wpS_pure ⟨⟨mg', rfl⟩, .inl ⟨_, _, rfl, m4.done0 hA (beq_iff_eq.mp c6) (by omega)⟩⟩) (fun c6 => ?_)
     have c5' : k' ≠ 1 := fun z => c5 (beq_iff_eq.mpr z)
     have c6' : k' ≠ 0 := fun z => c6 (beq_iff_eq.mpr z)
     exact hj3 k' _ m4 (by omega) l1 le4
    intro n3 o3 m4 hn3 hle3 ple
    refine wpS_bind (zbd hp ?_)
    have m5 := m4.one hA hp hn2 (by omega) ple
    refine zao (fun c5 => wpS_pure ⟨⟨mg', rfl⟩, .inl ⟨_, _, rfl, m5.doneZ hB (beq_iff_eq.mp c5) (by omega)⟩⟩) (fun c5 => ?_)
    have c5' : n2 - 1 ≠ 0 := fun z => c5 (beq_iff_eq.mpr z)
    exact zao (fun c6 => wpS_pure ⟨⟨mg', rfl⟩, .inr ⟨_, _, _, _, _, _, rfl, ⟨m5, by omega, by omega, hn3, by omega⟩, by omega⟩⟩) (fun c6 => wpS_pure ⟨⟨mg', rfl⟩, _, _, _, _, _, _, rfl, ⟨m5, by omega, by omega, hn3, by omega⟩, by omega⟩)
   ·rintro c st' ⟨⟨g, rfl⟩, na, nb, out, mg, ac, bc, rfl, ⟨vm, a1, a2, b1, b2⟩, hx⟩
    omega
   ·rintro c st' ⟨⟨g, rfl⟩, ⟨r, rest, rfl, hr⟩ | ⟨na, nb, out, mg, ac, bc, rfl, v, hx⟩⟩
    ·exact wpS_pure ⟨⟨g, rfl⟩, r, _, rfl, hr⟩
    ·exact wpS_bind (wpS_modify (wpS_pure ⟨⟨_, rfl⟩, _, _, _, _, rfl, v, by omega⟩))
 ·rintro c st' ⟨⟨g, rfl⟩, na, nb, out, mg, rfl, ⟨vm, a1, a2, b1, b2⟩, hx⟩
  omega
 ·rintro c st' ⟨⟨g, rfl⟩, r, rest, rfl, hr⟩
  exact wpS_pure (h r g hr)
end
end Srt
set_option maxHeartbeats 4000000
namespace Srt
open PySem PyProof PyProof.Rows
def AllI (xs : Array Keyed) : Prop := ∀ p ∈ xs.toList, zfw p
theorem AllI.perm {xs ys : Array Keyed} (h : AllI xs) (hp : ys.Perm xs) : AllI ys := fun p hm => h p ((Array.perm_iff_toList_perm.mp hp).mem_iff.mp hm)
def zbc (xs : Array Keyed) (i j : Nat) : Prop := ∀ p q, i ≤ p → p ≤ q → q < j → K xs p ≤ K xs q
def zey (xs : Array Keyed) (at' n : Nat) (l : List Keyed) : Array Keyed := (l.zipIdx n).foldl (fun a (p : Keyed × Nat) => a.setIfInBounds (at' + p.2) p.1) xs
theorem zf8 : ∀ (l : List Keyed) (xs : Array Keyed) (at' n : Nat), at' + n + l.length ≤ xs.size → ∀ k : Nat,
  (zey xs at' n l)[k]? = if at' + n ≤ k ∧ k < at' + n + l.length then l[k - (at' + n)]? else xs[k]?
 | [], xs, at', n, _, k => by
  show xs[k]? = _
  rw [if_neg (by rw [List.length_nil]; omega)]
 | p :: l, xs, at', n, h, k => by
  rw [List.length_cons] at h ⊢
  show (zey (xs.setIfInBounds (at' + n) p) at' (n + 1) l)[k]? = _
  rw [zf8 l _ at' (n + 1) (by rw [Array.size_setIfInBounds]; omega) k]
  by_cases e : k = at' + n
  ·subst e
   rw [if_neg (by omega), if_pos (by omega), Nat.sub_self, List.getElem?_cons_zero, Array.getElem?_setIfInBounds_self_of_lt (by omega)]
  ·by_cases g : at' + n ≤ k ∧ k < at' + n + (l.length + 1)
   ·rw [if_pos g, if_pos (by omega), show k - (at' + n) = (k - (at' + (n + 1))) + 1 by omega, List.getElem?_cons_succ]
   ·rw [if_neg g, if_neg (by omega), Array.getElem?_setIfInBounds_ne (by omega)]
theorem zmh {xs : Array Keyed} {at' : Nat} {l : List Keyed} (h : at' + l.length ≤ xs.size) :
  (zey xs at' 0 l).toList = xs.toList.take at' ++ (l ++ xs.toList.drop (at' + l.length)) := by
 have hlt : (xs.toList.take at').length = at' := by rw [List.length_take, Array.length_toList]; omega
 apply List.ext_getElem?
 intro k
 have e := zf8 l xs at' 0 (by omega) k
 rw [Nat.add_zero] at e
 rw [Array.getElem?_toList, e]
 by_cases h1 : k < at'
 ·rw [if_neg (by omega), List.getElem?_append_left (by omega), List.getElem?_take, if_pos h1, Array.getElem?_toList]
 ·rw [List.getElem?_append_right (by omega), hlt]
  by_cases h2 : k < at' + l.length
  ·rw [if_pos (by omega), List.getElem?_append_left (by omega)]
  ·rw [if_neg (by omega), List.getElem?_append_right (by omega), List.getElem?_drop, Array.getElem?_toList, show at' + l.length + (k - at' - l.length) = k by omega]
theorem zp7 {xs : Array Keyed} {i j : Nat} (h : i ≤ j) : xs.toList = xs.toList.take i ++ ((xs.extract i j).toList ++ xs.toList.drop j) := by
 rw [zkb, ← List.append_assoc]
 have : xs.toList.take i ++ (xs.toList.take j).drop i = xs.toList.take j := by
  conv => rhs; rw [← List.take_append_drop i (xs.toList.take j)]
  rw [List.take_take, Nat.min_eq_left h]
 rw [this, List.take_append_drop]
theorem zsc {xs : Array Keyed} {i j : Nat} (h : zbc xs i j) (hj : j ≤ xs.size) : (xs.extract i j).toList.Pairwise kle := by
 rw [List.pairwise_iff_getElem]
 intro p q hp hq hpq
 rw [zkb, List.length_drop, List.length_take, Array.length_toList] at hp hq
 simp only [zkb, List.getElem_drop, List.getElem_take, Array.getElem_toList]
 have := h (i + p) (i + q) (by omega) (by omega) (by omega)
 rw [zc1 (Array.getElem?_eq_getElem (by omega)), zc1 (Array.getElem?_eq_getElem (by omega))] at this
 exact this
section
variable {prog : Program} {w : World} {A : Around} {E : Value → Shared → Prop} {s : Shared}
theorem zl3 {st : SortSt} {i sa na sb nb pw pw2 : Nat} {Q : Bool → SortSt → Prop} (hk : kindOf st = oneType') (hf : failedOf st = none) (hI : AllI (arrOf st))
  (h1 : (pendingOf st)[i]? = some (sa, na, pw)) (h2 : (pendingOf st)[i + 1]? = some (sb, nb, pw2)) (hsb : sb = sa + na) (hna : 1 ≤ na) (hnb : 1 ≤ nb) (hsz : sb + nb ≤ (arrOf st).size)
  (s1 : zbc (arrOf st) sa sb) (s2 : zbc (arrOf st) sb (sb + nb))
  (h : ∀ xs g, xs.Perm (arrOf st) → zbc xs sa (sb + nb) → (∀ k, k < sa ∨ sb + nb ≤ k → K xs k = K (arrOf st) k) →
   Q true (SortSt.mk' oneType' xs (((pendingOf st).setIfInBounds i (sa, na + nb, pw)).eraseIdxIfInBounds (i + 1)) g none)) :
  wpS (model prog w) A E s (mergeAt' i) Q st := by
 obtain ⟨kd, xs, pd, g0, fl⟩ := st
 cases hk
 cases hf
 refine wpS_bind (wpS_get ?_)
 have h1' : pd[i]? = some (sa, na, pw) := h1
 have h2' : pd[i + 1]? = some (sb, nb, pw2) := h2
 replace hI : AllI xs := hI
 replace hsz : sb + nb ≤ xs.size := hsz
 replace s1 : zbc xs sa sb := s1
 replace s2 : zbc xs sb (sb + nb) := s2
 replace h : ∀ ys g, ys.Perm xs → zbc ys sa (sb + nb) → (∀ k, k < sa ∨ sb + nb ≤ k → K ys k = K xs k) →
   Q true (SortSt.mk' oneType' ys ((pd.setIfInBounds i (sa, na + nb, pw)).eraseIdxIfInBounds (i + 1)) g none) := h
 dsimp only
 rw [h1', h2']
 dsimp only
 have pX : ∀ {i}, i < xs.size → ∃ p, xs[i]? = some p ∧ zfw p := fun hi => ⟨_, Array.getElem?_eq_getElem hi, hI _ (Array.getElem_mem_toList hi)⟩
 refine wpS_bind (wpS_modify ?_)
 obtain ⟨q, hq, iq⟩ := pX (show sb < xs.size by omega)
 refine wpS_bind (zbd hq ?_)
 refine wpS_bind (zc8 (left := false) (arr := xs) (base := sa) (n := na) (hint := 0) rfl iq (fun i hi => pX (i := sa + i) (by omega)) (fun i j hij hj => s1 _ _ (by omega) (by omega) (by omega)) (by omega) fun k k1 k2 k3 => ?_)
 have f1 : ∀ p, sa ≤ p → p < sa + k → K xs p ≤ K xs sb := fun p p1 p2 => by
  obtain ⟨u, hu, _⟩ := pX (show p < xs.size by omega)
  rw [zc1 hu, zc1 hq]
  exact zim (k2 (p - sa) (by omega)) (by rw [show sa + (p - sa) = p by omega]; exact hu)
 have f2 : ∀ p, sa + k ≤ p → p < sb → K xs sb ≤ K xs p := fun p p1 p2 => by
  obtain ⟨u, hu, _⟩ := pX (show p < xs.size by omega)
  rw [zc1 hu, zc1 hq]
  exact zhi (k3 (p - sa) (by omega) (by omega)) (by rw [show sa + (p - sa) = p by omega]; exact hu)
 refine zao (fun c1 => wpS_pure ?_) (fun c1 => ?_)
 ·have c1' : na - k = 0 := beq_iff_eq.mp c1
  refine h xs g0 (Array.Perm.refl _) (fun p q' p1 p2 p3 => ?_) (fun _ _ => rfl)
  by_cases hp : q' < sb
  ·exact s1 _ _ p1 p2 hp
  ·by_cases hp2 : p < sb
   ·exact Int.le_trans (f1 p p1 (by omega)) (s2 _ _ (Nat.le_refl _) (by omega) p3)
   ·exact s2 _ _ (by omega) p2 p3
 have c1' : na - k ≠ 0 := fun z => c1 (beq_iff_eq.mpr z)
 obtain ⟨u, hu, iu⟩ := pX (show sb - 1 < xs.size by omega)
 have eu : sa + k + (na - k) - 1 = sb - 1 := by omega
 refine wpS_bind (zbd (p := u) (by rw [eu]; exact hu) ?_)
 refine wpS_bind (zc8 (left := true) (arr := xs) (base := sb) (n := nb) (hint := nb - 1) rfl iu (fun i hi => pX (i := sb + i) (by omega)) (fun i j hij hj => s2 _ _ (by omega) (by omega) (by omega)) (by omega) fun n' n1 n2 n3 => ?_)
 have f3 : ∀ p, sb ≤ p → p < sb + n' → K xs p ≤ K xs (sb - 1) := fun p p1 p2 => by
  obtain ⟨v, hv, _⟩ := pX (show p < xs.size by omega)
  rw [zc1 hv, zc1 hu]
  exact zkj (n2 (p - sb) (by omega)) (by rw [show sb + (p - sb) = p by omega]; exact hv)
 have f4 : ∀ p, sb + n' ≤ p → p < sb + nb → K xs (sb - 1) ≤ K xs p := fun p p1 p2 => by
  obtain ⟨v, hv, _⟩ := pX (show p < xs.size by omega)
  rw [zc1 hv, zc1 hu]
  exact zjd (n3 (p - sb) (by omega) (by omega)) (by rw [show sb + (p - sb) = p by omega]; exact hv)
 refine zao (fun c2 => wpS_pure ?_) (fun c2 => ?_)
 ·have c2' : n' = 0 := beq_iff_eq.mp c2
  refine h xs g0 (Array.Perm.refl _) (fun p q' p1 p2 p3 => ?_) (fun _ _ => rfl)
  by_cases hp : q' < sb
  ·exact s1 _ _ p1 p2 hp
  ·by_cases hp2 : p < sb
   ·exact Int.le_trans (s1 p (sb - 1) p1 (by omega) (by omega)) (f4 _ (by omega) p3)
   ·exact s2 _ _ (by omega) p2 p3
 have c2' : n' ≠ 0 := fun z => c2 (beq_iff_eq.mpr z)
 have zX : (xs.extract (sa + k) sb).size = sb - (sa + k) := by rw [Array.size_extract]; omega
 have zY : (xs.extract sb (sb + n')).size = n' := by rw [Array.size_extract]; omega
 have gX : ∀ x ∈ (xs.extract (sa + k) sb).toList, ∃ j, sa + k ≤ j ∧ j < sb ∧ xs[j]? = some x := fun x hx => by
  rw [zkb] at hx
  obtain ⟨j, j1, j2, j3, j4⟩ := zep hx
  exact ⟨j, j1, j2, j4⟩
 have gY : ∀ x ∈ (xs.extract sb (sb + n')).toList, ∃ j, sb ≤ j ∧ j < sb + n' ∧ xs[j]? = some x := fun x hx => by
  rw [zkb] at hx
  obtain ⟨j, j1, j2, j3, j4⟩ := zep hx
  exact ⟨j, j1, j2, j4⟩
 have iX : ∀ x ∈ (xs.extract (sa + k) sb).toList, zfw x := fun x hx => by
  obtain ⟨j, _, _, hj⟩ := gX x hx
  exact hI x (zph hj)
 have iY : ∀ x ∈ (xs.extract sb (sb + n')).toList, zfw x := fun x hx => by
  obtain ⟨j, _, _, hj⟩ := gY x hx
  exact hI x (zph hj)
 have pwX : (xs.extract (sa + k) sb).toList.Pairwise kle := zsc (fun p q p1 p2 p3 => s1 p q (by omega) p2 p3) (by omega)
 have pwY : (xs.extract sb (sb + n')).toList.Pairwise kle := zsc (fun p q p1 p2 p3 => s2 p q p1 p2 (by omega)) (by omega)
 have hb0 : ∀ x ∈ (xs.extract sb (sb + n')).toList.take 1, ∀ y ∈ (xs.extract (sa + k) sb).toList, kle x y := fun x hx y hy => by
  have e0 : (xs.extract sb (sb + n'))[0]? = some q := by
   rw [Array.getElem?_extract, if_pos (by omega), Nat.add_zero]; exact hq
  have := zeb e0
  rw [List.drop_zero] at this
  rw [this] at hx
  rw [List.mem_singleton.mp hx]
  obtain ⟨j, j1, j2, j3⟩ := gX y hy
  have := f2 j j1 j2
  rwa [zc1 hq, zc1 j3] at this
 have hla : ∀ x ∈ (xs.extract sb (sb + n')).toList, ∀ y ∈ (xs.extract (sa + k) sb).toList.drop ((xs.extract (sa + k) sb).size - 1), kle x y := fun x hx y hy => by
  have e0 : (xs.extract (sa + k) sb)[(xs.extract (sa + k) sb).size - 1]? = some u := by
   rw [zX, Array.getElem?_extract, if_pos (by omega), show sa + k + (sb - (sa + k) - 1) = sb - 1 by omega]; exact hu
  have hy' : y = u := by
   obtain ⟨j, j1, j2, j3⟩ := ze7 hy
   have : j = (xs.extract (sa + k) sb).size - 1 := by omega
   rw [this, e0] at j3
   exact (Option.some.inj j3).symm
  rw [hy']
  obtain ⟨j, j1, j2, j3⟩ := gY x hx
  have := f3 j j1 j2
  rwa [zc1 hu, zc1 j3] at this
 have fin : ∀ (r : Array Keyed) (g : Nat), SP (xs.extract (sa + k) sb).toList (xs.extract sb (sb + n')).toList r.toList →
   Q true (SortSt.mk' oneType' (zey xs (sa + k) 0 r.toList) ((pd.setIfInBounds i (sa, na + nb, pw)).eraseIdxIfInBounds (i + 1)) g none) := by
  intro r g hr
  have hl : r.toList.length = sb - (sa + k) + n' := by
   rw [hr.1.length_eq, List.length_append, Array.length_toList, Array.length_toList, zX, zY]
  have hget := zf8 r.toList xs (sa + k) 0 (by omega)
  have hmid : ∀ p, sa + k ≤ p → p < sb + n' → ∃ x, (zey xs (sa + k) 0 r.toList)[p]? = some x ∧ r.toList[p - (sa + k)]? = some x ∧ x ∈ r.toList := fun p p1 p2 => by
   have e := hget p
   rw [if_pos (by omega), Nat.add_zero] at e
   have hp : p - (sa + k) < r.toList.length := by omega
   rw [List.getElem?_eq_getElem hp] at e ⊢
   exact ⟨_, e, rfl, List.getElem_mem hp⟩
  have hout : ∀ p, p < sa + k ∨ sb + n' ≤ p → K (zey xs (sa + k) 0 r.toList) p = K xs p := fun p hp => by
   have e := hget p
   rw [if_neg (by omega)] at e
   exact K_congr e
  have hbd : ∀ x ∈ r.toList, K xs sb ≤ kn x ∧ kn x ≤ K xs (sb - 1) := fun x hx => by
   rcases List.mem_append.mp (hr.1.mem_iff.mp hx) with z | z
   ·obtain ⟨j, j1, j2, j3⟩ := gX x z
    rw [← zc1 j3]
    exact ⟨f2 j j1 j2, s1 _ _ (by omega) (by omega) (by omega)⟩
   ·obtain ⟨j, j1, j2, j3⟩ := gY x z
    rw [← zc1 j3]
    exact ⟨s2 _ _ (Nat.le_refl _) j1 (by omega), f3 j j1 j2⟩
  have hKm : ∀ p, sa + k ≤ p → p < sb + n' → K xs sb ≤ K (zey xs (sa + k) 0 r.toList) p ∧ K (zey xs (sa + k) 0 r.toList) p ≤ K xs (sb - 1) := fun p p1 p2 => by
   obtain ⟨x, x1, x2, x3⟩ := hmid p p1 p2
   rw [zc1 x1]
   exact hbd x x3
  refine h _ g ?_ ?_ (fun p hp => hout p (by omega))
  ·refine Array.perm_iff_toList_perm.mpr ?_
   rw [zmh (by omega), hl, show sa + k + (sb - (sa + k) + n') = sb + n' by omega]
   conv => rhs; rw [zp7 (xs := xs) (i := sa + k) (j := sb + n') (by omega)]
   refine List.Perm.append_left _ (List.Perm.append_right _ (hr.1.trans ?_))
   rw [zkb, zkb, zkb]
   have e1 : (xs.toList.take (sb + n')).drop (sa + k) = (xs.toList.take sb).drop (sa + k) ++ (xs.toList.take (sb + n')).drop sb := by
    conv => lhs; rw [← List.take_append_drop sb (xs.toList.take (sb + n'))]
    rw [List.take_take, Nat.min_eq_left (by omega), List.drop_append_of_le_length (by rw [List.length_take, Array.length_toList]; omega)]
   rw [e1]
  ·intro p q' p1 p2 p3
   by_cases a1 : q' < sa + k
   ·rw [hout p (.inl (by omega)), hout q' (.inl a1)]
    exact s1 _ _ p1 p2 (by omega)
   ·by_cases a2 : q' < sb + n'
    ·by_cases a3 : p < sa + k
     ·rw [hout p (.inl a3)]
      exact Int.le_trans (f1 p p1 a3) (hKm q' (by omega) a2).1
     ·obtain ⟨x, x1, x2, _⟩ := hmid p (by omega) (by omega)
      obtain ⟨y, y1, y2, _⟩ := hmid q' (by omega) a2
      rw [zc1 x1, zc1 y1]
      by_cases a4 : p = q'
      ·subst a4
       rw [x1] at y1
       rw [Option.some.inj y1]
       exact Int.le_refl _
      ·obtain ⟨i1, e1⟩ := List.getElem?_eq_some_iff.mp x2
       obtain ⟨i2, e2⟩ := List.getElem?_eq_some_iff.mp y2
       have := List.pairwise_iff_getElem.mp hr.2 _ _ i1 i2 (by omega)
       rwa [e1, e2] at this
    ·rw [hout q' (.inr (by omega))]
     by_cases a3 : p < sa + k
     ·rw [hout p (.inl a3)]
      exact Int.le_trans (f1 p p1 a3) (s2 _ _ (Nat.le_refl _) (by omega) p3)
     ·by_cases a4 : p < sb + n'
      ·exact Int.le_trans (hKm p (by omega) a4).2 (f4 q' (by omega) p3)
      ·rw [hout p (.inr (by omega))]
       exact s2 _ _ (by omega) p2 p3
 refine zao (fun c3 => ?_) (fun c3 => ?_)
 ·refine wpS_bind (zlp rfl iX iY pwX pwY (by omega) (by omega) hb0 hla fun r g hr => ?_)
  exact wpS_bind (wpS_modify (wpS_bind (wpS_get (wpS_pure (fin r g hr)))))
 ·refine wpS_bind (zk8 rfl iX iY pwX pwY (by omega) (by omega) hb0 hla fun r g hr => ?_)
  exact wpS_bind (wpS_modify (wpS_bind (wpS_get (wpS_pure (fin r g hr)))))
end
end Srt
set_option maxHeartbeats 4000000
namespace Srt
open PySem PyProof PyProof.Rows
theorem ztn {xs : Array Keyed} {i : Nat} : zbc xs i (i + 1) := fun p q p1 p2 p3 => by
 have : p = q := by omega
 subst this; exact Int.le_refl _
def zl4 (xs : Array Keyed) (i j : Nat) : Prop := ∀ p q, i ≤ p → p ≤ q → q < j → K xs q ≤ K xs p
section
variable {prog : Program} {w : World} {A : Around} {E : Value → Shared → Prop} {s : Shared}
theorem zfs {st : SortSt} {xs : Array Keyed} {i j : Nat} {Q : Option Bool → SortSt → Prop} (hk : kindOf st = oneType') (hI : AllI xs) (hi : i < xs.size) (hj : j < xs.size)
  (h : Q (some (decide (K xs i < K xs j))) (setArr st xs)) : wpS (model prog w) A E s (ltAt' i j) Q (setArr st xs) := by
 have e1 := Array.getElem?_eq_getElem hi
 have e2 := Array.getElem?_eq_getElem hj
 rw [ltAt'_eq]
 refine wpS_bind (wpS_get ?_)
 refine wpS_bind (zbd e1 (wpS_bind (zbd e2 (zi4 hk (hI _ (Array.getElem_mem_toList hi)) (hI _ (Array.getElem_mem_toList hj)) ?_))))
 rw [zc1 e1, zc1 e2] at h
 exact h
theorem zjh {st : SortSt} {xs : Array Keyed} {lo nrem : Nat} {Q : Option Nat → SortSt → Prop} (hk : kindOf st = oneType') (hI : AllI xs) (hn : lo + nrem ≤ xs.size) (h1 : 1 ≤ nrem)
  (h : ∀ m ys, ys.Perm xs → (∀ k, k < lo → K ys k = K xs k) → 1 ≤ m → m ≤ nrem → zbc ys lo (lo + m) → Q (some m) (setArr st ys)) :
  wpS (model prog w) A E s (countRun' lo nrem) Q (setArr st xs) := by
 refine wpS_bind (wpS_mono (wpS_forRange
  (I := fun x c st' => setArr st xs = st' ∧ c = (none, x) ∧ x ≤ nrem ∧ zbc xs lo (lo + x))
  (Q := fun c st' => setArr st xs = st' ∧ ∃ n, c = (none, n) ∧ 1 ≤ n ∧ n ≤ nrem ∧ zbc xs lo (lo + n) ∧ (n = nrem ∨ K xs (lo + n) < K xs (lo + n - 1)))
  ?_ ?_ ⟨rfl, rfl, h1, ztn⟩) ?_)
 ·rintro x c st' hx1 hx2 ⟨rfl, rfl, hx, hs⟩
  dsimp only
  refine wpS_bind (zfs hk hI (by omega) (by omega) ?_)
  dsimp only
  refine zao (fun c1 => wpS_pure ⟨rfl, x, rfl, hx1, by omega, hs, .inr (of_decide_eq_true c1)⟩) (fun c1 => wpS_pure ⟨rfl, rfl, by omega, fun p q p1 p2 p3 => ?_⟩)
  have c1' : K xs (lo + x - 1) ≤ K xs (lo + x) := Int.not_lt.mp fun z => c1 (decide_eq_true z)
  by_cases hq : q < lo + x
  ·exact hs p q p1 p2 hq
  ·have : q = lo + x := by omega
   subst this
   by_cases hp : p = lo + x
   ·subst hp; exact Int.le_refl _
   ·exact Int.le_trans (hs p (lo + x - 1) p1 (by omega) (by omega)) c1'
 ·rintro c st' ⟨rfl, rfl, hx, hs⟩
  rw [show max 1 nrem = nrem by omega] at hs ⊢
  exact ⟨rfl, _, rfl, h1, Nat.le_refl _, hs, .inl rfl⟩
 rintro c st' ⟨rfl, n, rfl, n1, n2, hs, hor⟩
 refine zao (c := (n == nrem) = true) (fun c1 => wpS_pure (h n xs (Array.Perm.refl _) (fun _ _ => rfl) n1 n2 hs)) (fun c1 => ?_)
 have c1' : n ≠ nrem := fun z => c1 (beq_iff_eq.mpr z)
 have hlt := hor.resolve_left c1'
 extract_lets _ _ jp
 suffices hj : ∀ ys, ys.Perm xs → (∀ k, k < lo → K ys k = K xs k) → zl4 ys lo (lo + (n + 1)) → wpS (model prog w) A E s (jp ()) Q (setArr st ys) by
  refine zao (fun c2 => ?_) (fun c2 => ?_)
  ·refine wpS_bind (zfs hk hI (by omega) (by omega) ?_)
   refine zao (c := decide (K xs lo < K xs (lo + n - 1)) = true) (fun c3 => wpS_pure (h n xs (Array.Perm.refl _) (fun _ _ => rfl) n1 n2 hs)) (fun c3 => ?_)
   have c3' : K xs (lo + n - 1) ≤ K xs lo := Int.not_lt.mp fun z => c3 (decide_eq_true z)
   have all : ∀ k, lo ≤ k → k < lo + n → K xs k = K xs (lo + n - 1) := fun k k1 k2 => by
    have a1 := hs lo k (Nat.le_refl _) k1 k2
    have a2 := hs k (lo + n - 1) k1 (by omega) (by omega)
    omega
   refine wpS_bind (wpS_modify ?_)
   have e := K_mirror_equal (i := lo) (j := lo + n) (xs := xs) (by omega) all
   refine hj (mirror xs lo (lo + n) ((lo + n - lo) / 2)) (mirror_perm _ _ _ _) (fun k _ => e k) (fun p q p1 p2 p3 => ?_)
   rw [e, e]
   by_cases hq : q < lo + n
   ·rw [all q (by omega) hq, all p p1 (by omega)]; exact Int.le_refl _
   ·have : q = lo + n := by omega
    subst this
    by_cases hp : p = lo + n
    ·subst hp; exact Int.le_refl _
    ·rw [all p p1 (by omega)]; exact Int.le_of_lt hlt
  ·refine hj xs (Array.Perm.refl _) (fun _ _ => rfl) (fun p q p1 p2 p3 => ?_)
   have c2' : ¬ n > 1 := c2
   have : n = 1 := by omega
   subst this
   by_cases hp : p = q
   ·subst hp; exact Int.le_refl _
   ·have : p = lo := by omega
    have : q = lo + 1 := by omega
    subst p q
    exact Int.le_of_lt hlt
 intro ys yp yl yd
 have yz : ys.size = xs.size := yp.size_eq
 refine wpS_bind (wpS_lift (wpAny_rule ⟨rfl, ?_⟩))
 refine wpS_bind (wpS_mono (wpS_forRange
  (I := fun x c st' => ∃ zs neq, setArr st zs = st' ∧ c = (none, x, neq) ∧ zs.Perm xs ∧ (∀ k, k < lo → K zs k = K xs k) ∧ zl4 zs lo (lo + x) ∧ x ≤ nrem ∧ neq + 1 ≤ x ∧ (∀ i, lo + x - (neq + 1) ≤ i → i < lo + x → K zs i = K zs (lo + x - 1)))
  (Q := fun c st' => ∃ zs m neq, setArr st zs = st' ∧ c = (none, m, neq) ∧ zs.Perm xs ∧ (∀ k, k < lo → K zs k = K xs k) ∧ zl4 zs lo (lo + m) ∧ 1 ≤ m ∧ m ≤ nrem ∧ neq + 1 ≤ m ∧ (∀ i, lo + m - (neq + 1) ≤ i → i < lo + m → K zs i = K zs (lo + m - 1)))
  ?_ ?_ ⟨ys, 0, rfl, rfl, yp, yl, yd, by omega, by omega, fun i i1 i2 => by rw [show i = lo + (n + 1) - 1 by omega]⟩) ?_)
 ·rintro x c st' hx1 hx2 ⟨zs, neq, rfl, rfl, zp, zl, zd, z1, z2, z3⟩
  have zz : zs.size = xs.size := zp.size_eq
  have hx1' : n + 1 ≤ x := hx1
  refine wpS_bind (zfs hk (hI.perm zp) (by show lo + x < zs.size; omega) (by show lo + x - 1 < zs.size; omega) ?_)
  have grow : ∀ us : Array Keyed, (∀ k, K us k = K zs k) → K zs (lo + x) ≤ K zs (lo + x - 1) → zl4 us lo (lo + (x + 1)) := fun us hu hle p q p1 p2 p3 => by
   rw [hu, hu]
   by_cases hq : q < lo + x
   ·exact zd p q p1 p2 hq
   ·have : q = lo + x := by omega
    subst this
    by_cases hp : p = lo + x
    ·subst hp; exact Int.le_refl _
    ·exact Int.le_trans hle (zd p (lo + x - 1) p1 (by omega) (by omega))
  refine zao (c := decide (K zs (lo + x) < K zs (lo + x - 1)) = true) (fun c3 => ?_) (fun c3 => ?_)
  ·have c3' := of_decide_eq_true c3
   have e := K_mirror_equal (i := lo + x - (neq + 1)) (j := lo + x) (xs := zs) (by omega) z3
   refine zao (c := neq > 0) (fun c4 => ?_) (fun c4 => ?_)
   ·exact wpS_bind (wpS_modify (wpS_pure ⟨mirror zs (lo + x - (neq + 1)) (lo + x) ((lo + x - (lo + x - (neq + 1))) / 2), 0, rfl, rfl, (mirror_perm _ _ _ _).trans zp, fun k hk' => by rw [e]; exact zl k hk', grow _ e (Int.le_of_lt c3'), by omega, by omega, fun i i1 i2 => by rw [show i = lo + (x + 1) - 1 by omega]⟩))
   ·exact wpS_pure ⟨zs, 0, rfl, rfl, zp, zl, grow _ (fun _ => rfl) (Int.le_of_lt c3'), by omega, by omega, fun i i1 i2 => by rw [show i = lo + (x + 1) - 1 by omega]⟩
  ·have c3' := Int.not_lt.mp fun z => c3 (decide_eq_true z)
   refine wpS_bind (zfs hk (hI.perm zp) (by show lo + x - 1 < zs.size; omega) (by show lo + x < zs.size; omega) ?_)
   refine zao (c := decide (K zs (lo + x - 1) < K zs (lo + x)) = true) (fun c4 => wpS_pure ⟨zs, x, neq, rfl, rfl, zp, zl, zd, by omega, z1, z2, z3⟩) (fun c4 => ?_)
   have c4' := Int.not_lt.mp fun z => c4 (decide_eq_true z)
   have ex : K zs (lo + x) = K zs (lo + x - 1) := by omega
   refine wpS_pure ⟨zs, neq + 1, rfl, rfl, zp, zl, grow _ (fun _ => rfl) c4', by omega, by omega, fun i i1 i2 => ?_⟩
   rw [show lo + (x + 1) - 1 = lo + x by omega]
   by_cases hi : i = lo + x
   ·rw [hi]
   ·rw [ex]; exact z3 i (by omega) (by omega)
 ·rintro c st' ⟨zs, neq, rfl, rfl, zp, zl, zd, z1, z2, z3⟩
  have e : max (n + 1) nrem = nrem := by omega
  rw [e] at zd z2 z3
  exact ⟨zs, nrem, neq, rfl, by rw [e], zp, zl, zd, h1, Nat.le_refl _, z2, z3⟩
 rintro c st' ⟨zs, m, neq, rfl, rfl, zp, zl, zd, m1, z1, z2, z3⟩
 have zz : zs.size = xs.size := zp.size_eq
 dsimp (config := { zeta := false, zetaHave := false, zetaUnused := false }) only
 extract_lets
 rename_i jp2
 suffices hj2 : ∀ us, us.Perm xs → (∀ k, k < lo → K us k = K xs k) → zl4 us lo (lo + m) → wpS (model prog w) A E s (jp2 ()) Q (setArr st us) by
  have e := K_mirror_equal (i := lo + m - (neq + 1)) (j := lo + m) (xs := zs) (by omega) z3
  refine zao (fun c4 => ?_) (fun c4 => hj2 zs zp zl zd)
  exact wpS_bind (wpS_modify (hj2 (mirror zs (lo + m - (neq + 1)) (lo + m) ((lo + m - (lo + m - (neq + 1))) / 2)) ((mirror_perm _ _ _ _).trans zp) (fun k hk' => by rw [e]; exact zl k hk') (fun p q p1 p2 p3 => by rw [e, e]; exact zd p q p1 p2 p3)))
 intro us up ul ud
 have uz : us.size = xs.size := up.size_eq
 refine wpS_bind (wpS_modify ?_)
 have hm := K_mirror (xs := us) (i := lo) (j := lo + m) (by omega)
 have vs : zbc (mirror us lo (lo + m) ((lo + m - lo) / 2)) lo (lo + m) := fun p q p1 p2 p3 => by
  rw [hm, hm, if_pos ⟨p1, by omega⟩, if_pos ⟨by omega, p3⟩]
  exact ud _ _ (by omega) (by omega) (by omega)
 have vl : ∀ k, k < lo → K (mirror us lo (lo + m) ((lo + m - lo) / 2)) k = K xs k := fun k hk' => by
  rw [hm, if_neg (by omega)]; exact ul k hk'
 have vp : (mirror us lo (lo + m) ((lo + m - lo) / 2)).Perm xs := (mirror_perm _ _ _ _).trans up
 show wpS _ _ _ _ _ _ (setArr st (mirror us lo (lo + m) ((lo + m - lo) / 2)))
 generalize mirror us lo (lo + m) ((lo + m - lo) / 2) = vv at vs vl vp
 have vz : vv.size = xs.size := vp.size_eq
 refine wpS_bind (wpS_mono (wpS_forRange
  (I := fun x c st' => setArr st vv = st' ∧ c = (none, x) ∧ x ≤ nrem ∧ zbc vv lo (lo + x))
  (Q := fun c st' => setArr st vv = st' ∧ ∃ n, c = (none, n) ∧ 1 ≤ n ∧ n ≤ nrem ∧ zbc vv lo (lo + n))
  ?_ ?_ ⟨rfl, rfl, z1, vs⟩) ?_)
 ·rintro x c st' hx1 hx2 ⟨rfl, rfl, hx, hs'⟩
  have hx1' : m ≤ x := hx1
  refine wpS_bind (zfs hk (hI.perm vp) (by show lo + x < vv.size; omega) (by show lo + x - 1 < vv.size; omega) ?_)
  refine zao (c := decide (K vv (lo + x) < K vv (lo + x - 1)) = true) (fun c1 => wpS_pure ⟨rfl, x, rfl, by omega, by omega, hs'⟩) (fun c1 => wpS_pure ⟨rfl, rfl, by omega, fun p q p1 p2 p3 => ?_⟩)
  have c1' : K vv (lo + x - 1) ≤ K vv (lo + x) := Int.not_lt.mp fun z => c1 (decide_eq_true z)
  by_cases hq : q < lo + x
  ·exact hs' p q p1 p2 hq
  ·have : q = lo + x := by omega
   subst this
   by_cases hp : p = lo + x
   ·subst hp; exact Int.le_refl _
   ·exact Int.le_trans (hs' p (lo + x - 1) p1 (by omega) (by omega)) c1'
 ·rintro c st' ⟨rfl, rfl, hx, hs'⟩
  have e : max m nrem = nrem := by omega
  rw [e] at hs'
  exact ⟨rfl, nrem, by rw [e], h1, Nat.le_refl _, hs'⟩
 ·rintro c st' ⟨rfl, n', rfl, n1', n2', hs'⟩
  exact wpS_pure (h n' vv vp vl n1' n2' hs')
end
end Srt
set_option maxHeartbeats 4000000
namespace Srt
open PySem PyProof PyProof.Rows
def Chain (xs : Array Keyed) : Nat → List (Nat × Nat × Nat) → Nat → Prop
 | a, [], b => a = b
 | a, p :: l, b => p.1 = a ∧ 1 ≤ p.2.1 ∧ zbc xs a (a + p.2.1) ∧ Chain xs (a + p.2.1) l b
theorem Chain.len {xs : Array Keyed} : ∀ {l : List (Nat × Nat × Nat)} {a b : Nat}, Chain xs a l b → a + l.length ≤ b
 | [], a, b, h => by cases h; exact Nat.le_refl _
 | p :: l, a, b, h => by
  have := Chain.len h.2.2.2
  have := h.2.1
  rw [List.length_cons]; omega
theorem Chain.congr {xs ys : Array Keyed} : ∀ {l : List (Nat × Nat × Nat)} {a b : Nat}, Chain xs a l b → (∀ k, a ≤ k → k < b → K ys k = K xs k) → Chain ys a l b
 | [], a, b, h, _ => h
 | p :: l, a, b, h, e => by
  have hl := Chain.len h.2.2.2
  exact ⟨h.1, h.2.1, fun i j i1 i2 i3 => by rw [e i (by omega) (by omega), e j (by omega) (by omega)]; exact h.2.2.1 i j i1 i2 i3, Chain.congr h.2.2.2 fun k k1 k2 => e k (by omega) k2⟩
theorem Chain.app {xs : Array Keyed} : ∀ {l m : List (Nat × Nat × Nat)} {a b c : Nat}, Chain xs a l b → Chain xs b m c → Chain xs a (l ++ m) c
 | [], m, a, b, c, h, g => by cases h; exact g
 | p :: l, m, a, b, c, h, g => ⟨h.1, h.2.1, h.2.2.1, Chain.app h.2.2.2 g⟩
theorem Chain.split {xs : Array Keyed} : ∀ {l m : List (Nat × Nat × Nat)} {a c : Nat}, Chain xs a (l ++ m) c → ∃ b, Chain xs a l b ∧ Chain xs b m c
 | [], m, a, c, h => ⟨a, rfl, h⟩
 | p :: l, m, a, c, h => by
  obtain ⟨b, h1, h2⟩ := Chain.split h.2.2.2
  exact ⟨b, ⟨h.1, h.2.1, h.2.2.1, h1⟩, h2⟩
theorem Chain.pw {xs : Array Keyed} : ∀ {l m : List (Nat × Nat × Nat)} {a b : Nat}, l.map (fun p => (p.1, p.2.1)) = m.map (fun p => (p.1, p.2.1)) → Chain xs a l b → Chain xs a m b
 | [], [], a, b, _, h => h
 | [], q :: m, a, b, e, h => by cases e
 | p :: l, [], a, b, e, h => by cases e
 | p :: l, q :: m, a, b, e, h => by
  rw [List.map_cons, List.map_cons] at e
  obtain ⟨e1, e2⟩ := List.cons.inj e
  have e3 := (Prod.mk.inj e1)
  refine ⟨e3.1 ▸ h.1, e3.2 ▸ h.2.1, e3.2 ▸ h.2.2.1, ?_⟩
  rw [← e3.2]
  exact Chain.pw e2 h.2.2.2
theorem zo6 {α : Type} {l : List α} {i : Nat} (h : i + 1 < l.length) : ∃ l1 x y l2, l = l1 ++ x :: y :: l2 ∧ l1.length = i := by
 refine ⟨l.take i, l[i], l[i+1], l.drop (i + 2), ?_, by rw [List.length_take]; omega⟩
 rw [← List.drop_eq_getElem_cons, ← List.drop_eq_getElem_cons, List.take_append_drop]
theorem zlm {α : Type} {pd : Array α} {l1 l2 : List α} {x y z : α} (h : pd.toList = l1 ++ x :: y :: l2) :
  ((pd.setIfInBounds l1.length z).eraseIdxIfInBounds (l1.length + 1)).toList = l1 ++ z :: l2 := by
 have hz : pd.size = l1.length + (l2.length + 2) := by rw [← Array.length_toList, h, List.length_append]; rfl
 rw [Array.eraseIdxIfInBounds, dif_pos (by rw [Array.size_setIfInBounds]; omega), Array.toList_eraseIdx, Array.toList_setIfInBounds, h]
 rw [List.set_append_right _ _ (Nat.le_refl _), Nat.sub_self, List.set_cons_zero, List.eraseIdx_append_of_length_le (by omega)]
 rw [show l1.length + 1 - l1.length = 1 by omega]
 rfl
structure SB (a₀ : Array Keyed) (st : SortSt) (lo : Nat) : Prop where
 perm : (arrOf st).Perm a₀
 kind : kindOf st = oneType'
 failed : failedOf st = none
 chain : Chain (arrOf st) 0 (pendingOf st).toList lo
 le : lo ≤ a₀.size
section
variable {prog : Program} {w : World} {A : Around} {E : Value → Shared → Prop} {s : Shared} {a₀ : Array Keyed}
theorem ziy {st : SortSt} {i lo : Nat} {Q : Bool → SortSt → Prop} (h0 : AllI a₀) (hB : SB a₀ st lo) (hi : i + 1 < (pendingOf st).size)
  (h : ∀ st', SB a₀ st' lo → (pendingOf st').size + 1 = (pendingOf st).size → (∀ k, lo ≤ k → K (arrOf st') k = K (arrOf st) k) → Q true st') :
  wpS (model prog w) A E s (mergeAt' i) Q st := by
 obtain ⟨l1, ⟨sa, na, pw⟩, ⟨sb, nb, pw2⟩, l2, hl, rfl⟩ := zo6 (l := (pendingOf st).toList) (by rw [Array.length_toList]; exact hi)
 have hc := hB.chain
 rw [hl] at hc
 obtain ⟨b, c1, e1, n1, s1, e2, n2, s2, c2⟩ := hc.split
 dsimp only at e1 n1 s1 e2 n2 s2 c2
 subst e1
 subst e2
 have hl2 := c2.len
 have hsz : (arrOf st).size = a₀.size := hB.perm.size_eq
 have hle := hB.le
 refine zl3 (sa := sa) (na := na) (sb := sa + na) (nb := nb) (pw := pw) (pw2 := pw2) hB.kind hB.failed (h0.perm hB.perm) ?_ ?_ rfl n1 n2 (by omega) s1 s2 fun xs g xp xs1 xk => ?_
 ·rw [← Array.getElem?_toList, hl, List.getElem?_append_right (Nat.le_refl _), Nat.sub_self]; rfl
 ·rw [← Array.getElem?_toList, hl, List.getElem?_append_right (by omega), show l1.length + 1 - l1.length = 1 by omega]; rfl
 have hm := zlm (z := (sa, na + nb, pw)) hl
 refine h _ ⟨xp.trans hB.perm, rfl, rfl, ?_, hle⟩ ?_ fun k hk => xk k (.inr (by omega))
 ·show Chain xs 0 (((pendingOf st).setIfInBounds l1.length (sa, na + nb, pw)).eraseIdxIfInBounds (l1.length + 1)).toList lo
  rw [hm]
  refine (c1.congr fun k _ k2 => xk k (.inl k2)).app ⟨rfl, by dsimp only; omega, ?_, ?_⟩
  ·dsimp only
   rw [← Nat.add_assoc]; exact xs1
  ·dsimp only
   rw [← Nat.add_assoc]; exact c2.congr fun k k1 _ => xk k (.inr k1)
 ·show (((pendingOf st).setIfInBounds l1.length (sa, na + nb, pw)).eraseIdxIfInBounds (l1.length + 1)).size + 1 = _
  rw [← Array.length_toList, hm, ← Array.length_toList, hl, List.length_append, List.length_append]
  rfl
theorem zhy {st : SortSt} {xs : Array Keyed} {lo n ok : Nat} {Q : Bool → SortSt → Prop} (hk : kindOf st = oneType') (hI : AllI xs) (hn : lo + n ≤ xs.size) (hok : ok ≤ n) (h1 : 1 ≤ ok) (hs : zbc xs lo (lo + ok))
  (h : ∀ ys, ys.Perm xs → (∀ k, k < lo → K ys k = K xs k) → zbc ys lo (lo + n) → Q true (setArr st ys)) : wpS (model prog w) A E s (binarySort' lo n ok) Q (setArr st xs) := by
 rw [binarySort'_eq]
 refine wpS_bind (wpS_mono (wpS_forRange (I := fun k c st' => ∃ ys, c = (none, ()) ∧ setArr st ys = st' ∧ ys.Perm xs ∧ (∀ k, k < lo → K ys k = K xs k) ∧ zbc ys lo (lo + min k n))
  (Q := fun c st' => ∃ ys, c = (none, ()) ∧ setArr st ys = st' ∧ ys.Perm xs ∧ (∀ k, k < lo → K ys k = K xs k) ∧ zbc ys lo (lo + n)) ?step ?fin ?init) ?post)
 case post =>
  rintro c st' ⟨ys, rfl, rfl, yp, yl, ys1⟩
  exact wpS_pure (h ys yp yl ys1)
 case init => exact ⟨xs, rfl, rfl, Array.Perm.refl _, fun _ _ => rfl, by rw [show min (max ok 1) n = ok by omega]; exact hs⟩
 case fin =>
  rintro c st' ⟨ys, hc, he, yp, yl, ys1⟩
  refine ⟨ys, hc, he, yp, yl, ?_⟩
  rwa [show min (max (max ok 1) n) n = n by omega] at ys1
 case step =>
  rintro k c st' hak hkn ⟨ys, rfl, rfl, yp, yl, hs'⟩
  rw [show min k n = k by omega] at hs'
  have yz : ys.size = xs.size := yp.size_eq
  have hkz : lo + k < ys.size := by omega
  refine wpS_bind (wpS_mono (wpS_forRange (I := fun x c st'' => setArr st ys = st'' ∧ ∃ l r, c = (none, l, r) ∧ l ≤ r ∧ r ≤ k ∧ r - l ≤ k - x ∧
    (∀ i, i < l → K ys (lo + i) ≤ K ys (lo + k)) ∧ (∀ i, r ≤ i → i < k → K ys (lo + k) < K ys (lo + i)))
   (Q := fun c st'' => setArr st ys = st'' ∧ ∃ l r, c = (none, l, r) ∧ l ≤ k ∧
    (∀ i, i < l → K ys (lo + i) ≤ K ys (lo + k)) ∧ (∀ i, l ≤ i → i < k → K ys (lo + k) < K ys (lo + i))) ?istep ?ifin ?iinit) ?ipost)
  case iinit => exact ⟨rfl, 0, k, rfl, by omega, by omega, by omega, fun i hi => by omega, fun i h1 h2 => by omega⟩
  case ifin =>
   rintro c st'' ⟨rfl, l, r, rfl, hlr, hrk, hm, hlo, hhi⟩
   have : l = r := by omega
   subst this
   exact ⟨rfl, l, l, rfl, hrk, hlo, hhi⟩
  case istep =>
   rintro x c st'' _ hxk ⟨rfl, l, r, rfl, hlr, hrk, hm, hlo, hhi⟩
   refine zao (c := l ≥ r) (fun hge => ?_) (fun hge => ?_)
   ·have : l = r := by omega
    subst this
    exact wpS_pure ⟨rfl, l, l, rfl, hrk, hlo, hhi⟩
   ·refine wpS_bind (zfs hk (hI.perm yp) hkz (by show lo + (l + r) / 2 < ys.size; omega) ?_)
    refine zao (c := decide (K ys (lo + k) < K ys (lo + (l + r) / 2)) = true) (fun c1 => ?_) (fun c1 => ?_)
    ·have hless := of_decide_eq_true c1
     refine wpS_pure ⟨rfl, l, (l + r) / 2, rfl, by omega, by omega, by omega, hlo, fun i h1 h2 => ?_⟩
     exact Int.lt_of_lt_of_le hless (hs' _ _ (by omega) (by omega) (by omega))
    ·have hless := Int.not_lt.mp fun z => c1 (decide_eq_true z)
     refine wpS_pure ⟨rfl, (l + r) / 2 + 1, r, rfl, by omega, by omega, by omega, fun i h1 => ?_, hhi⟩
     exact Int.le_trans (hs' (lo + i) (lo + (l + r) / 2) (by omega) (by omega) (by omega)) hless
  case ipost =>
   rintro c st'' ⟨rfl, l, r, rfl, hlk, hlo, hhi⟩
   refine wpS_bind (wpS_modify (wpS_pure ⟨bubble ys (lo + k) (lo + k - (lo + l)), rfl, rfl, (bubble_perm _ _ _).trans yp, fun i hi => ?_, ?_⟩))
   ·rw [K_bubble hkz (by omega), if_neg (by omega), if_neg (by omega)]; exact yl i hi
   rw [show min (k + 1) n = k + 1 by omega]
   intro i j i1 hij hj
   rw [K_bubble hkz (by omega), K_bubble hkz (by omega), show lo + k - (lo + k - (lo + l)) = lo + l by omega]
   have lo' : ∀ i, lo ≤ i → i < lo + l → K ys i ≤ K ys (lo + k) := fun i a b => by
    have := hlo (i - lo) (by omega)
    rwa [show lo + (i - lo) = i by omega] at this
   have hi' : ∀ i, lo + l ≤ i → i < lo + k → K ys (lo + k) ≤ K ys i := fun i a b => by
    have := hhi (i - lo) (by omega) (by omega)
    rw [show lo + (i - lo) = i by omega] at this
    exact Int.le_of_lt this
   repeat' split
   all_goals first
    | (exfalso; omega)
    | exact Int.le_refl _
    | exact lo' _ (by omega) (by omega)
    | exact hi' _ (by omega) (by omega)
    | exact hs' _ _ (by omega) (by omega) (by omega)
end
end Srt
set_option maxHeartbeats 4000000
namespace Srt
open PySem PyProof PyProof.Rows
section
variable {prog : Program} {w : World} {A : Around} {E : Value → Shared → Prop} {s : Shared} {a₀ : Array Keyed}
theorem zjl {st : SortSt} {Q : Unit → SortSt → Prop} (h0 : AllI a₀) (hB : SBase a₀ st)
  (h : ∀ st', (arrOf st').Perm a₀ → failedOf st' = none → SortedTo (arrOf st') a₀.size → Q () st') : wpS (model prog w) A E s sortRuns' Q st := by
 rw [sortRuns'_eq]
 refine wpS_bind (wpS_get ?_)
 have hz := hB.size
 extract_lets size mr
 have hz' : size = a₀.size := hz
 clear_value size mr
 subst hz'
 have hS0 : SB a₀ st 0 := ⟨hB.perm, hB.kind, hB.failed, by rw [hB.pend]; rfl, Nat.zero_le _⟩
 refine wpS_bind (wpS_mono (wpS_forRange
  (I := fun x c st' => ∃ lo, c = (none, lo) ∧ x ≤ lo ∧ SB a₀ st' lo)
  (Q := fun c st' => c = (none, a₀.size) ∧ SB a₀ st' a₀.size) ?step ?fin ⟨0, rfl, Nat.le_refl _, hS0⟩) ?post)
 case fin =>
  rintro c st' ⟨lo, rfl, h1, h2⟩
  have := h2.le
  have : lo = a₀.size := by omega
  subst this
  exact ⟨rfl, h2⟩
 case step =>
  rintro x c st' _ hx ⟨lo, rfl, hxl, hS⟩
  have hle := hS.le
  dsimp (config := { zeta := false, zetaHave := false, zetaUnused := false }) only
  refine zao (c := lo ≥ a₀.size) (fun c1 => ?_) (fun c1 => ?_)
  ·have : lo = a₀.size := by omega
   subst this
   exact wpS_pure ⟨rfl, hS⟩
  have hsz : (arrOf st').size = a₀.size := hS.perm.size_eq
  obtain ⟨R, hR⟩ : ∃ R : ForInStep (Option Unit × Nat) → SortSt → Prop, R = fun r st'' => ∃ lo, r = ForInStep.yield (none, lo) ∧ x + 1 ≤ lo ∧ SB a₀ st'' lo := ⟨_, rfl⟩
  refine wpS_mono (Q := R) ?_ (by rw [hR]; rintro r st'' ⟨lo, rfl, h1, h2⟩; exact ⟨lo, rfl, h1, h2⟩)
  refine wpS_bind (zjh (st := st') (xs := arrOf st') hS.kind (h0.perm hS.perm) (by omega) (by omega) fun m ys yp yl m1 m2 ys1 => ?_)
  dsimp (config := { zeta := false, zetaHave := false, zetaUnused := false }) only
  extract_lets n jp force nf
  have hn : n = m := rfl
  clear_value n
  subst hn
  suffices hj : ∀ (n' : Nat) (zs : Array Keyed), zs.Perm (arrOf st') → (∀ k, k < lo → K zs k = K (arrOf st') k) → zbc zs lo (lo + n') → 1 ≤ n' → lo + n' ≤ a₀.size →
    wpS (model prog w) A E s (jp () n') R (setArr st' zs) by
   refine zao (fun c2 => ?_) (fun c2 => hj n ys yp yl ys1 m1 (by omega))
   refine wpS_bind (wpS_lift (wpAny_rule ⟨rfl, ?_⟩))
   have hf : force = min (a₀.size - lo) mr := rfl
   have yz : ys.size = (arrOf st').size := yp.size_eq
   refine wpS_bind (zhy hS.kind ((h0.perm hS.perm).perm yp) (by omega) (by omega) m1 ys1 fun zs zp zl zs1 => ?_)
   exact hj force zs (zp.trans yp) (fun k hk => (zl k hk).trans (yl k hk)) zs1 (by omega) (by omega)
  clear ys yp yl ys1 m1 m2
  intro n' zs zp zl zs1 n1 n2
  have hS1 : SB a₀ (setArr st' zs) lo := ⟨zp.trans hS.perm, hS.kind, hS.failed, hS.chain.congr fun k _ hk => zl k hk, hle⟩
  have hs2 : zbc (arrOf (setArr st' zs)) lo (lo + n') := zs1
  generalize setArr st' zs = st2 at hS1 hs2
  clear zs zp zl zs1
  refine wpS_bind (wpS_get ?_)
  extract_lets lo2 jp2
  suffices hj2 : ∀ st3, SB a₀ st3 lo → zbc (arrOf st3) lo (lo + n') → wpS (model prog w) A E s (jp2 ()) R st3 by
   cases hb : (pendingOf st2).back? with
   | none => exact hj2 st2 hS1 hs2
   | some p =>
    obtain ⟨p1, p2, p3⟩ := p
    dsimp (config := { zeta := false, zetaHave := false, zetaUnused := false }) only
    extract_lets pw
    clear_value pw
    refine wpS_bind (wpS_mono (wpS_forRange (I := fun x c st'' => c = (none, ()) ∧ SB a₀ st'' lo ∧ zbc (arrOf st'') lo (lo + n')) (Q := fun c st'' => c = (none, ()) ∧ SB a₀ st'' lo ∧ zbc (arrOf st'') lo (lo + n')) ?_ (fun _ _ hh => hh) ⟨rfl, hS1, hs2⟩) ?_)
    ·rintro y c st3 _ hy ⟨rfl, hS3, hs3⟩
     refine wpS_bind (wpS_get ?_)
     extract_lets p
     by_cases hp : p.size > 1
     ·have hl : p.size - 2 < p.size := by omega
      rw [if_pos hp, Array.getElem?_eq_getElem hl]
      dsimp (config := { zeta := false, zetaHave := false, zetaUnused := false }) only
      refine zao (fun c3 => wpS_pure ⟨rfl, hS3, hs3⟩) (fun c3 => ?_)
      refine wpS_bind (ziy h0 hS3 (show p.size - 2 + 1 < p.size by omega) fun st4 hS4 hp4 hk4 => ?_)
      exact wpS_pure ⟨rfl, hS4, fun i j i1 i2 i3 => by rw [hk4 i i1, hk4 j (by omega)]; exact hs3 i j i1 i2 i3⟩
     ·rw [if_neg hp]
      exact wpS_pure ⟨rfl, hS3, hs3⟩
    ·rintro c st3 ⟨rfl, hS3, hs3⟩
     refine wpS_bind (wpS_modify (hj2 _ ⟨hS3.perm, hS3.kind, hS3.failed, ?_, hle⟩ hs3))
     refine hS3.chain.pw ?_
     show _ = ((pendingOf st3).modify _ _).toList.map _
     rw [Array.toList_modify]
     generalize (pendingOf st3).toList = l
     generalize (pendingOf st3).size - 1 = i
     apply List.ext_getElem?
     intro k
     rw [List.getElem?_map, List.getElem?_map, List.getElem?_modify]
     cases l[k]? with
     | none => rfl
     | some q =>
      by_cases e : i = k
      ·simp [e]
      ·simp [e]
  intro st3 hS3 hs3
  refine wpS_bind (wpS_modify (wpS_pure ?_))
  rw [hR]
  refine ⟨lo + n', rfl, by omega, hS3.perm, hS3.kind, hS3.failed, ?_, n2⟩
  show Chain (arrOf st3) 0 ((pendingOf st3).push (lo, n', 0)).toList (lo + n')
  rw [Array.toList_push]
  exact hS3.chain.app ⟨rfl, n1, hs3, rfl⟩
 case post =>
  rintro c st' ⟨rfl, hS⟩
  dsimp (config := { zeta := false, zetaHave := false, zetaUnused := false }) only
  refine wpS_bind (wpS_mono (wpS_forRange (I := fun x c st'' => c = (none, ()) ∧ SB a₀ st'' a₀.size ∧ (pendingOf st'').size + x ≤ a₀.size) (Q := fun c st'' => c = (none, ()) ∧ SB a₀ st'' a₀.size ∧ (pendingOf st'').size ≤ 1) ?_ ?_ ?_) ?_)
  ·rintro x c st'' _ hx ⟨rfl, hS', hp⟩
   refine wpS_bind (wpS_get ?_)
   refine zao (c := (pendingOf st'').size ≤ 1) (fun c1 => wpS_pure ⟨rfl, hS', c1⟩) (fun c1 => ?_)
   extract_lets i before i'
   have hi' : i' + 1 < (pendingOf st'').size := by
    have : i' = i - 1 ∨ i' = i := by
     show (if _ then i - 1 else i) = i - 1 ∨ (if _ then i - 1 else i) = i
     split
     ·exact .inl rfl
     ·exact .inr rfl
    have hi : i = (pendingOf st'').size - 2 := rfl
    omega
   clear_value i'
   refine wpS_bind (ziy h0 hS' hi' fun st3 hS3 hp3 _ => ?_)
   exact wpS_pure ⟨rfl, hS3, by omega⟩
  ·rintro c st'' ⟨hc, hS', hp⟩
   have : max 0 a₀.size = a₀.size := by omega
   rw [this] at hp
   exact ⟨hc, hS', by omega⟩
  ·have := hS.chain.len
   rw [Array.length_toList] at this
   exact ⟨rfl, hS, by omega⟩
  ·rintro c st'' ⟨rfl, hS', hp⟩
   refine wpS_pure (h _ hS'.perm hS'.failed ?_)
   have hc := hS'.chain
   have hl : (pendingOf st'').toList.length ≤ 1 := by rw [Array.length_toList]; exact hp
   generalize (pendingOf st'').toList = l at hc hl
   match l, hc, hl with
   | [], hc, _ =>
    have : a₀.size = 0 := hc.symm
    intro i j _ hj; omega
   | [p], hc, _ =>
    obtain ⟨_, _, hs, e⟩ := hc
    have e' : 0 + p.2.1 = a₀.size := e
    intro i j hij hj
    exact hs i j (Nat.zero_le _) hij (by omega)
end
end Srt
set_option maxHeartbeats 4000000
set_option maxRecDepth 100000
namespace Srt
open PySem PyProof PyProof.Rows
section
variable {prog : Program} {w : World} {A : Around} {E : Value → Shared → Prop} {s : Shared}
theorem zqj {a : Addr} {vs : List Value} {ns : List Int} {n : Nat} {P : Fin → Shared → Prop} (o0 : s.heap.get? a = some (seqObj "list" vs.toArray n)) (hI : IntsAre vs ns) (hz : vs.length ≤ sizeLine)
  (h : ∀ (out : Array Value) (ns' : List Int), IntsAre out.toList ns' → ns'.Perm ns → ns'.Pairwise (· ≤ ·) → P (.done (.ret .none)) { s with heap := sortedHeap s.heap a vs out }) :
  wpAny (model prog w) A (Builtin.«list.sort» ⟨[.ref a], []⟩) P E s := by
 rw [list_sort_plain]
 have la : a < s.heap.objs.size := Heap.lt_size o0
 obtain ⟨e1, o1⟩ : ∃ e, (s.heap.update a (Obj.mapSeq fun _ => #[])).get? a = some (seqObj "list" #[] e) := ⟨_, get?_update_seq o0 _⟩
 have o6 : (((s.heap.update a (Obj.mapSeq fun _ => #[])).push (seqObj "tuple" vs.toArray 0)).push (seqObj "list" #[] 0)).get? a = some (seqObj "list" #[] e1) := by
  rwa [Heap.get?_push_ne _ _ _ (by rw [size_push', Heap.size_update]; exact Nat.ne_of_lt (Nat.lt_succ_of_lt la)), Heap.get?_push_ne _ _ _ (by rw [Heap.size_update]; exact Nat.ne_of_lt la)]
 refine wpAny_bind (listItems_at o0 rfl (wpAny_bind (listUpdate_at o0 rfl ?_ (by simpa using hz) (Nat.zero_le _))))
 refine wpAny_bind (seqEpoch_at o1 rfl (wpAny_bind (wpAny_newTuple (wpAny_bind (wpAny_newList (wpAny_holding ?_))))))
 have fit : ∀ xs : Array Keyed, xs.Perm (pairsOf vs) → (xs.map (·.2)).size ≤ sizeLine := fun xs p => Nat.le_trans (Nat.le_of_eq ((Array.size_map ..).trans (p.size_eq.trans (pairsOf_size vs)))) hz
 have fin : ∀ xs : Array Keyed, xs.Perm (pairsOf vs) → SortedTo xs (pairsOf vs).size → P (.done (.ret .none)) { s with heap := sortedHeap s.heap a vs (xs.map (·.2)) } := fun xs p so => by
  obtain ⟨ms, m1, m2, m3⟩ := sorted_out hI p so
  exact h _ ms m1 m2 m3
 by_cases c : vs.toArray.size < 2
 ·rw [if_pos c, if_pos c]
  refine wpAny_bind (wpAny_pure (wpAny_bind (wpAny_pure ?_)))
  refine wpAny_bind (seqEpoch_at o6 rfl (wpAny_bind (listUpdate_at o6 rfl ?_ (Nat.zero_le _) (Nat.le_succ_of_le (fit _ (Array.Perm.refl _))))))
  simp only [bne_self_eq_false, Bool.false_eq_true, if_false]
  refine wpAny_pure (fin (pairsOf vs) (Array.Perm.refl _) fun i j i1 i2 => ?_)
  have hl : vs.length < 2 := by simpa using c
  have : i = j := by rw [pairsOf_size] at i2; omega
  subst this
  exact Int.le_refl _
 ·rw [if_neg c, if_neg c]
  obtain ⟨x, y, r, rfl⟩ : ∃ x y r, vs = x :: y :: r := by
   cases vs with
   | nil => exact absurd (show 0 < 2 by decide) c
   | cons x r => cases r with
    | nil => exact absurd (show 1 < 2 by decide) c
    | cons y r => exact ⟨x, y, r, rfl⟩
  rw [keyKind_ints hI]
  refine wpAny_bind (wpAny_pure (wpAny_bind (wpAny_mono (zjl (a₀ := pairsOf (x :: y :: r)) (st := SortSt.mk' oneType' (pairsOf (x :: y :: r)) #[] 7 none)
   (Q := fun _ st' => (arrOf st').Perm (pairsOf (x :: y :: r)) ∧ failedOf st' = none ∧ SortedTo (arrOf st') (pairsOf (x :: y :: r)).size) hI.intKeys ⟨Array.Perm.refl _, rfl, rfl, rfl⟩ fun _ b1 b2 b3 => ⟨b1, b2, b3⟩) ?_ fun _ _ e => e)))
  rintro ⟨u, st'⟩ s' ⟨rfl, b1, b2, b3⟩
  refine wpAny_bind (seqEpoch_at o6 rfl (wpAny_bind (listUpdate_at o6 rfl ?_ (Nat.zero_le _) (Nat.le_succ_of_le (fit _ b1)))))
  rw [b2]
  simp only [bne_self_eq_false, Bool.false_eq_true, if_false]
  exact wpAny_pure (fin _ b1 b3)
theorem sorted_any {l : Addr} {vs : List Value} {ns : List Int} {Q : Value → Shared → Prop} (hl : s.heap.IsList l vs.toArray) (hI : IntsAre vs ns) (hz : vs.length ≤ sizeLine)
  (h : ∀ (out : Array Value) (ns' : List Int), IntsAre out.toList ns' → ns'.Perm ns → ns'.Pairwise (· ≤ ·) → Q (.ref (s.heap.objs.size + 1)) { s with heap := sortedAll s.heap vs out }) :
  wpAny (model prog w) A (call (.builtin "sorted") [.ref l]) Q E s := by
 have ez : ((s.heap.push (seqObj "list" #[] 0)).update s.heap.objs.size (Obj.mapSeq (· ++ vs.toArray))).objs.size = s.heap.objs.size + 1 := by rw [Heap.size_update, size_push']
 have oL : (((s.heap.push (seqObj "list" #[] 0)).update s.heap.objs.size (Obj.mapSeq (· ++ vs.toArray))).push (seqObj "list" vs.toArray 0)).get? (s.heap.objs.size + 1) = some (seqObj "list" vs.toArray 0) := by
  rw [← ez]; exact Heap.get?_push_size _ rfl
 refine Calls.call_function_entry kind_sorted plain_sorted entry_sorted (args_sorted1 _) (wpAny_bind (m := checkCount "sorted" 1 1 _) (wpAny_pure (wpAny_bind (collect_list hl ?_ hz))))
 refine wpAny_bind (wpAny_newList ?_)
 rw [ez]
 refine wpAny_bind (wpAny_holding (wpAny_call_entry slot_list_sort ⟨_, oL, rfl⟩ entry_list_sort (zqj oL hI hz fun out ns' a1 a2 a3 => ⟨_, rfl, ?_⟩) (args_list_sort _)))
 exact wpAny_pure ⟨_, rfl, h out ns' a1 a2 a3⟩
end
end Srt
namespace L2
open PySem PySem.Spec PyProof.Rows
variable {X : Cx}
theorem zk3 : zd4 X (.builtin "sorted") (fun xs H Q => ∃ (p : Addr) (ns : List Int), xs = [.ref p] ∧ SqL X.K H p (ns.map V.int) ∧ ∀ ms : List Int, ms.Perm ns → ms.Pairwise (· ≤ ·) → ∀ l, H l = none → Q (.ref l) (upd H l (.lst (ms.map V.int)))) := by
 intro pins s σ H xs us Q I r h
 obtain ⟨p, ns, rfl, hq, q⟩ := h
 obtain ⟨u, rfl, rx⟩ := zfz r
 cases rx
 obtain ⟨its, rv, pl, hz'⟩ := I.list hq
 have hlen := rv.length
 rw [List.length_map] at hlen hz'
 refine Srt.sorted_any pl.isList (zdv rv) (by omega) fun out ms a1 a2 a3 => ?_
 obtain ⟨e, he⟩ := sortedAll_at s.heap its out
 have hm : ms.length = ns.length := a2.length_eq
 refine ⟨.ref (s.heap.objs.size + 1), _, I.laid (t' := s.toks) (fun b o => sortedAll_old) (Nat.le_succ _) (show ObjOk X.prog X.w _ _ _ (.lst (ms.map V.int)) from ⟨by rw [List.length_map, hm]; exact hz', out.toList, e, zhc a1, he⟩), rfl, q ms a2 a3 _ (I.hok.fresh (Nat.le_succ _))⟩
end L2
set_option maxRecDepth 100000
set_option maxHeartbeats 4000000
namespace Wd
open PySem L2 Ow
theorem zhk (m : Nat) (t1 : List Tie) : outside m t1 t1 = [] := List.filter_eq_nil_iff.mpr fun s hs => by rw [(mem_wareL.mp hs).2]; decide
end Wd
set_option maxRecDepth 100000
namespace L2
open PySem PySem.Spec PyProof.Rows
section
variable {κ : Type} [DecidableEq κ]
end
section
variable {P : Program} {w : World} {H : Hp} {h : Heap} {a : Addr}
end
section
variable {X : Cx} {pins : List (Addr × Obj)} {σ : St} {H : Hp} {s : Shared} {a : Addr} {y v : V} {u r : Value} {o : Option V} {A : Around} {E : Value → Shared → Prop}
end
section
variable {X : Cx} {pins : List (Addr × Obj)} {σ : St} {H : Hp} {s : Shared} {a : Addr} {kvs : List (Key × V)} {k : Key} {u : Value} {A : Around} {E : Value → Shared → Prop}
end
section
variable {X : Cx} {o i e value : Expr} {pos pos' tpos : Pos} {td ty tv : TE}
end
section
variable {X : Cx} {pos : Pos}
end
section
variable {X : Cx} {pins : List (Addr × Obj)} {σ : St} {H : Hp} {s : Shared} {a : Addr} {y d : V} {u r : Value} {o : Option V} {A : Around} {E : Value → Shared → Prop}
end
section
variable {X : Cx} {o e f : Expr} {apos cpos : Pos} {td ty tx : TE}
end
section
variable {X : Cx} {pins : List (Addr × Obj)} {σ : St} {H : Hp} {s : Shared} {a : Addr} {kvs : List (Key × V)} {A : Around} {E : Value → Shared → Prop}
end
section
variable {X : Cx} {pins : List (Addr × Obj)} {σ : St} {H : Hp} {s : Shared} {a : Addr} {y : V} {u : Value} {A : Around} {E : Value → Shared → Prop}
end
end L2
namespace L2
open PySem PySem.Spec PyProof.Rows
section
variable {X : Cx}
end
section
variable {κ : Type} [DecidableEq κ]
end
end L2
set_option maxRecDepth 100000
set_option maxHeartbeats 4000000
namespace L2
open PySem PySem.Spec
@[irreducible] def PEi (X : Cx) (e : Expr) (t : TE) : Prop := PE X e t
@[irreducible] def PSi (X : Cx) (e : Stmt) (t : TS) : Prop := PS X e t
@[irreducible] def PLi (X : Cx) (l : List Stmt) (t : TS) : Prop := PSs X l t
end L2
namespace Wd
open PySem L2 Ow
def zgu (m : Nat) (t1 t2 : List Tie) : PyData := match outside m t1 t2 with
 | s :: _ => .int (s : Int)
 | [] => zdy t1 (zhv t1) m (zdd t2) 9 1 0
def wIn (m : Nat) (t1 t2 : List Tie) : Bool := (outside m t1 t2).isEmpty
def zu5 (b : Bool) : Str := match b with | true => "in" | false => "out"
theorem zm5 (m : Nat) (t1 t2 : List Tie) : zen m t1 t2 = .tuple [.str (zu5 (wIn m t1 t2)), zgu m t1 t2] := by
 unfold zen wIn zgu
 cases outside m t1 t2 <;> rfl
def zua (a b : Bool) : Str := match a, b with | true, true => "same" | true, false => "more" | false, true => "fewer" | false, false => "neither"
def zqh (x : Str) (m : Nat) (t1 t2 : List Tie) : PyData := if x = ("fewer" : Str) then .tuple [.str x, zgu m t2 t1, zgu m t1 t2] else .tuple [.str x, zgu m t1 t2, zgu m t2 t1]
theorem zp8 (m : Nat) (t1 t2 : List Tie) : zqh "same" m t1 t2 = .tuple [.str ("same" : Str), zgu m t1 t2, zgu m t2 t1] := if_neg (by decide +kernel)
theorem zpj (m : Nat) (t1 t2 : List Tie) : zqh "more" m t1 t2 = .tuple [.str ("more" : Str), zgu m t1 t2, zgu m t2 t1] := if_neg (by decide +kernel)
theorem zmm (m : Nat) (t1 t2 : List Tie) : zqh "neither" m t1 t2 = .tuple [.str ("neither" : Str), zgu m t1 t2, zgu m t2 t1] := if_neg (by decide +kernel)
theorem zos (m : Nat) (t1 t2 : List Tie) : zqh "fewer" m t1 t2 = .tuple [.str ("fewer" : Str), zgu m t2 t1, zgu m t1 t2] := if_pos rfl
def ztm (m : Nat) (t1 t2 : List Tie) : PyData := zqh (zua (wIn m t1 t2) (wIn m t2 t1)) m t1 t2
def zm4 : Sp := fun vs H Q _ => ∃ (w1 w2 : Addr) (m : Nat) (t1 t2 : List Tie), vs = [.ref w1, .ref w2] ∧ WoodT H w1 m t1 ∧ WoodT H w2 m t2 ∧ 1 ≤ m ∧ m ≤ 9 ∧ ∀ (v : V) (H' : Hp), Same H H' → Dn H' (ztm m t1 t2) v → Q v H'
end Wd
set_option maxRecDepth 100000
set_option maxHeartbeats 4000000
namespace Wd
open PySem L2 Ow
def zkc (ts : List Tie) (w : Str) (y n : Nat) : Bool := decide (V.str w = V.str ("kept" : Str)) && (ts.all fun t => t.sk y n)
def zr6 : Sp := fun vs H Q _ => ∃ (wd : Addr) (m : Nat) (ts : List Tie) (w : Str) (y n : Nat), vs = [.ref wd, .str w, .int y, .int n] ∧ WoodT H wd m ts ∧ ∀ H', Same H H' → Q (.bl (zkc ts w y n)) H'
def zrv (f : Nat) : Sp := fun vs H Q _ => ∃ (w1 w2 : Addr) (m : Nat) (t1 t2 : List Tie) (t : WT) (v : V), vs = [.ref w1, .ref w2, v] ∧ WoodT H w1 m t1 ∧ WoodT H w2 m t2 ∧ Dn H t.toD v ∧ t.good ∧ t.depth < f ∧ ∀ H', Same H H' → Q (.bl (isT t1 m (zkc t2) t 1 0)) H'
section
variable {t1 t2 : List Tie} {m f y n : Nat}
end
end Wd
set_option maxRecDepth 100000
set_option maxHeartbeats 4000000
namespace L2
open PySem PySem.Spec PyProof.Rows
end L2
namespace Wd
open PySem L2 Ow
end Wd
set_option maxRecDepth 100000
set_option maxHeartbeats 4000000
namespace L2
open PySem PySem.Spec PyProof.Rows
abbrev zgb : List Value := [.type "ValueError", .type "Exception", .type "BaseException", .type "object"]
abbrev zfv : String := "ValueError.__new__"
structure XCls (h : Heap) (C : Addr) (bm : List Value) : Prop where
 ex : ∃ N nm qn bs hd sn sub ab col dd k0 k1 k2 k3 k5 mN, h.get? C = some (excClassObj nm qn C N bs bm hd sn sub ab col dd k0 k1 k2 k3 k5 zfv) ∧ h.Ns N mN ∧ mN "__init__" = none ∧ OwnTail h zgb bm
theorem XCls.mk' {K : PySem.W.Frag} {h : Heap} {C : Addr} (X : K.In h) (q : PySem.W.excIn K C zgb zfv = true) : ∃ bm, XCls h C bm := by
 unfold PySem.W.excIn at q
 split at q
 case h_2 => cases q
 case h_1 od cd sl hl =>
  split at q
  case h_2 => cases q
  case h_1 C2 bm a0 a1 a2 a3 nw a5 hm hs =>
   rw [Bool.and_eq_true, Bool.and_eq_true, Bool.and_eq_true, Bool.and_eq_true, Bool.and_eq_true, beq_iff_eq, beq_iff_eq, beq_iff_eq, Bool.not_eq_true'] at q
   obtain ⟨⟨⟨⟨⟨q1, q2⟩, q3⟩, q4⟩, q5⟩, q6⟩ := q
   subst q1 q2
   obtain ⟨f1, f2, f3, f4, f5, f6, f7, f8, f9, fa, fb⟩ := cd
   replace hm : f3 = .ref C2 :: bm := hm
   replace q3 : fb = false := q3
   subst hm q3
   obtain ⟨ls⟩ := sl
   replace hs : ls = [a0, a1, a2, a3, some (.builtin zfv), a5] := hs
   subst hs
   exact ⟨bm, ⟨_, _, _, _, _, _, _, _, _, _, _, _, _, _, _, _, X _ _ hl, .of_isNs (PySem.W.isNs_of_in X q5), PySem.W.nsMap_none_of_in X q5 q6, PySem.W.tail_of_in X q4⟩⟩
theorem zk9 {M : Model} {A : Around} {E : Value → Shared → Prop} {s : Shared} {C D e : Addr} {bC bD : List Value} {oe : Obj} {Q : Bool → Shared → Prop} (xC : XCls s.heap C bC) (xD : XCls s.heap D bD)
  (he : s.heap.get? e = some oe) (hcls : oe.cls = .ref D) (hin : (Value.ref D :: bD).contains (.ref C) = true) (hq : Q true s) : wpAny M A (excMatches (.ref e) (.ref C)) Q E s := by
 obtain ⟨N, nm, qn, bs, hd, sn, sub, ab, col, dd, k0, k1, k2, k3, k5, mN, hC, _, _, tC⟩ := xC.ex
 obtain ⟨N', nm', qn', bs', hd', sn', sub', ab', col', dd', k0', k1', k2', k3', k5', mN', hD, _, _, tD⟩ := xD.ex
 obtain ⟨h, g, d, t, os⟩ := s
 have hB : (Value.ref C :: bC).contains (.type "BaseException") = true := by rw [List.contains_cons, tC.hasType (b := true) (by decide), Bool.or_true]
 have f := tc_notTuple
 unfold excMatches
 repeat (first | (with_reducible refine wpAny_loadPart_at he ?_; rw [hcls]) | with_reducible refine wpAny_loadPart_at hC ?_ | (with_reducible refine wpAny_isSubtype_exc hC ?_; rw [hB]) | (with_reducible refine wpAny_isSubtype_exc hD ?_; rw [hin]) | wp_step)
 exact hq
section
variable {X : Cx} {pins : List (Addr × Obj)} {σ : St} {H H' : Hp} {s s' : Shared} {h2 : Heap}
theorem znt {h h' : Heap} {c : Addr} {v : Option Value} (u : h.UpToSlots h') (x : h.IsCell c v) : h'.IsCell c v := by
 obtain ⟨o, e, d⟩ := x
 obtain ⟨sl, e'⟩ := u c o e fun vs q => by rw [d] at q; cases q
 exact ⟨_, e', d⟩
theorem Inv.upto (I0 : Inv X pins σ H s) (I1 : Inv X pins σ H' s') (k : ∀ b o, s'.heap.get? b = some o → b ∉ frs X.stack → (H' b ≠ none ∨ ∃ u, s.heap.get? b = some u) → h2.get? b = some o) (u : s'.heap.UpToSlots h2) : Inv X pins σ H' { s' with heap := h2 } where
 ok := I1.ok
 os := I1.os
 bare := I1.bare
 base := by
  have nst : ∀ b o, X.s₀.heap.get? b = some o → b ∉ X.fs → b ∉ frs X.stack := fun b o e n z => by
   rcases List.mem_cons.mp (I1.stkSub b z) with r | r
   ·have h1 := Heap.lt_size e
    have h2 := I1.ok.above
    rw [r] at h1
    exact absurd (Nat.lt_of_lt_of_le h1 h2) (Nat.lt_irrefl _)
   ·exact n r
  refine ⟨fun b o e n hf hx => ?_, fun b o e n hf hx => ?_, I1.base.free, fun b o e hx => ?_, I1.base.tups, I1.base.frzs, I1.base.tbls⟩
  ·exact k b o (I1.base.keep b o e n hf hx) (nst b o e hf) (.inr ⟨_, I0.base.keep b o e n hf hx⟩)
  ·obtain ⟨sl, e1⟩ := I1.base.slot b o e n hf hx
   obtain ⟨_, o2, e2, d2⟩ := I1.funs.mem hf
   rw [e1] at e2
   cases e2
   obtain ⟨sl', e3⟩ := u b _ e1 d2
   exact ⟨sl', e3⟩
  ·obtain ⟨o1, e1⟩ := I1.base.there b o e hx
   by_cases hb : b ∈ frs X.stack
   ·obtain ⟨_, o2, e2, d2⟩ := I1.stack.mem hb
    obtain ⟨sl, e3⟩ := u b o2 e2 d2
    exact ⟨_, e3⟩
   ·obtain ⟨o0, e0⟩ := I0.base.there b o e hx
    exact ⟨o1, k b o1 e1 hb (.inr ⟨_, e0⟩)⟩
 loc := by
  obtain ⟨m, hn, hl⟩ := I1.loc
  refine ⟨m, u.ns hn, fun i x v h1 h2 h3 => ?_⟩
  obtain ⟨w, r, l⟩ := hl i x v h1 h2 h3
  refine ⟨w, r, ?_⟩
  rcases l with l | ⟨l, c, h4, h5⟩
  ·exact .inl l
  ·exact .inr ⟨l, c, h4, znt u h5⟩
 cell := fun x c e => let ⟨v, h⟩ := I1.cell x c e; ⟨v, znt u h⟩
 free := I1.free
 freeC := I1.freeC
 pin := fun p hp => by
  obtain ⟨h1, h2, h3, h4, h5⟩ := I1.pin p hp
  have nst : p.1 ∉ frs X.stack := fun z => by
   rcases List.mem_cons.mp (I1.stkSub _ z) with r | r
   ·exact h3 r
   ·exact h4 r
  exact ⟨k _ _ h1 nst (.inr ⟨_, (I0.pin p hp).1⟩), h2, h3, h4, h5⟩
 hok := fun a o e => by
  refine (I1.hok a o e).stay (fun b w hb q => ?_) (fun _ q => q) fun _ _ q => q
  have hn : H' b ≠ none := by
   rcases hb with rfl | hb
   ·rw [e]; exact Option.some_ne_none _
   ·rw [hb]; exact Option.some_ne_none _
  exact k b w q (fun z => hn (I1.stkFree b z)) (.inl hn)
 len := I1.len
end
def CXR (P : Program) (w : World) : CXT := fun outer H s E e s' => ∃ (ea D : Addr) (a0 : Value) (H' : Hp) (B : Heap), e = .ref ea ∧ s'.os = s.os ∧ AllBare s'.gens ∧ Un (frs outer) [] H H' s.heap s'.heap ∧ HOk P w H' s'.heap ∧
 Heap.FlyingW B outer ea (.ref D) a0 s'.heap ∧ (∀ b o, s'.heap.get? b = some o → b ∉ frs outer → (H' b ≠ none ∨ ∃ u, s.heap.get? b = some u) → B.get? b = some o) ∧ H' ea = none ∧ E (.ref D) none H'
theorem zm2 {P : Program} {w : World} {H : Hp} {h : Heap} {a : Addr} {o : HO} (x : ObjOk P w H h a o) : ∃ u, h.get? a = some u := by
 cases o with
 | lst xs => obtain ⟨_, _, _, _, e⟩ := x; exact ⟨_, e⟩
 | tup xs => obtain ⟨_, _, _, ob, e, _⟩ := x; exact ⟨_, e⟩
 | dK kvs => obtain ⟨_, _, _, _, ob, _, _, e, _⟩ := x; exact ⟨_, e⟩
 | dT kvs => obtain ⟨_, _, _, _, ob, _, _, e, _⟩ := x; exact ⟨_, e⟩
 | set S n => obtain ⟨ob, _, _, _, e, _⟩ := x; exact ⟨_, e⟩
 | ins C dx fs => obtain ⟨_, _, _, e, _⟩ := x; exact ⟨_, e⟩
 | own y => exact x
 | xd fs => obtain ⟨_, ⟨_, _, _, e, _⟩, _⟩ := x; exact ⟨_, e⟩
 | rng lo hi => obtain ⟨_, _, _, e⟩ := x; exact ⟨_, e⟩
 | frz ob u => obtain ⟨e, _⟩ := x; exact ⟨_, e⟩
 | tbl ps => exact ⟨_, (show h.get? a = some _ from x)⟩
 | met f y => exact ⟨_, (show h.get? a = some _ from x)⟩
 | ext φ => obtain ⟨_, e, _⟩ := x; exact e
theorem zr9 {l : List Env} : ∀ env ∈ l, ∀ b, env.frame = some b → b ∈ frs l := fun env he b hb => List.mem_filterMap.mpr ⟨env, he, hb⟩
theorem zq9 {P : Program} {w : World} {K : PySem.W.Frag} {mg : Str → Option Value} {base : Heap} {N : List Str} {qual : Str} {scope : Scope} {f : Addr} {cd : Value} {A : Around} {outer : List Env} {s0 : Shared} {H0 : Hp} {E : XK}
  {pins : List (Addr × Obj)} {σ : St} {H : Hp} {s : Shared} (I : Inv (zcj (CXR P w) P w K mg base N qual scope f cd A outer s0 H0 E) pins σ H s) {h1 : Heap} {e D : Addr} {vs : List Value} (hx : Heap.MadeExcOf s.heap h1 e (.ref D) vs) (hE : E (.ref D) none H) :
  (zcj (CXR P w) P w K mg base N qual scope f cd A outer s0 H0 E).xe (.ref e) { s with heap := h1 } := by
 have nst : ∀ b o, s0.heap.get? b = some o → b ∉ frs outer → b ∉ frs (envOfC qual scope s0.heap.objs.size f cd :: outer) := fun b o e n z => by
  rcases List.mem_cons.mp (I.stkSub b z) with r | r
  ·have h1 := Heap.lt_size e
   rw [r] at h1
   exact absurd h1 (Nat.lt_irrefl _)
  ·exact n r
 have hB : ∀ b o, s.heap.get? b = some o → b ∉ frs (envOfC qual scope s0.heap.objs.size f cd :: outer) → (PySem.W.hideAll s.heap (frs (envOfC qual scope s0.heap.objs.size f cd :: outer))).get? b = some o := fun b o e n => PySem.W.hideAll_get _ e n
 refine wpAny_leaves_madeW (base := PySem.W.hideAll s.heap (frs (envOfC qual scope s0.heap.objs.size f cd :: outer))) (h := s.heap) (L := s0.heap.objs.size) I.ok.frames rfl (fun b o q => PySem.W.of_hideAll _ q) (PySem.W.funFrames_hide I.stack zr9) hx fun h2 t x1 x2 x3 x4 => ?_
 have tr : ∀ b o, H b = some o → ∃ u, s.heap.get? b = some u ∧ (PySem.W.hideAll s.heap (frs (envOfC qual scope s0.heap.objs.size f cd :: outer))).get? b = some u := fun b o q => by
  obtain ⟨u, hu⟩ := zm2 (I.hok b o q)
  exact ⟨u, hu, hB b u hu fun z => by have := I.stkFree b z; rw [q] at this; cases this⟩
 refine ⟨e, D, .ref t, H, _, rfl, I.os, I.bare, ⟨fun b o q n hf hx => ?_, fun b o q n hf hx' => ?_, fun b o q n hx => I.base.free b o q n hx, fun b o q hx' => ?_, I.base.tups, I.base.frzs, I.base.tbls⟩, fun a o q => ?_, x1, fun b o q hf hb => ?_, ?_, hE⟩
 ·exact x1.1 _ _ (hB b o (I.base.keep b o q n hf hx) (nst b o q hf))
 ·obtain ⟨sl, e1⟩ := I.base.slot b o q n hf hx'
  obtain ⟨_, o2, e2, d2⟩ := I.funs.mem hf
  rw [e1] at e2
  cases e2
  obtain ⟨sl', e3⟩ := x4 b _ (hx.keeps _ _ e1) d2
  exact ⟨sl', e3⟩
 ·obtain ⟨o1, e1⟩ := I.base.there b o q hx'
  by_cases hb : b ∈ frs (envOfC qual scope s0.heap.objs.size f cd :: outer)
  ·obtain ⟨_, o2, e2, d2⟩ := I.stack.mem hb
   obtain ⟨sl, e3⟩ := x4 b o2 (hx.keeps _ _ e2) d2
   exact ⟨_, e3⟩
  ·exact ⟨o1, x1.1 _ _ (hB b o1 e1 hb)⟩
 ·refine (I.hok a o q).stay (fun b u hb r => ?_) (fun _ r => r) fun _ _ r => r
  have hn : b ∉ frs (envOfC qual scope s0.heap.objs.size f cd :: outer) := fun z => by
   have fr := I.stkFree b z
   rcases hb with rfl | hb
   ·rw [q] at fr; cases fr
   ·rw [hb] at fr; cases fr
  exact x1.1 _ _ (hB b u r hn)
 ·rcases hb with hb | ⟨u, hu⟩
  ·cases hq : H b with
   | none => exact absurd hq hb
   | some ho =>
    obtain ⟨u, _, h2'⟩ := tr b ho hq
    have := x1.1 _ _ h2'
    rw [q] at this
    cases this
    exact h2'
  ·obtain ⟨o1, e1⟩ := I.base.there b u hu (by intro z; cases z)
   have h2' := hB b o1 e1 (nst b u hu hf)
   have := x1.1 _ _ h2'
   rw [q] at this
   cases this
   exact h2'
 ·cases hq : H e with
  | none => rfl
  | some ho =>
   obtain ⟨u, hu, _⟩ := tr e ho hq
   rw [hx.new] at hu
   cases hu
theorem Fun.okR {P : Program} {w : World} {K : PySem.W.Frag} {mg : Str → Option Value} {base : Heap} {x qual : Str} {st : Stmt} {f : Addr} {fd : FuncData} {N ps : List Str} {k : Nat} {sp : Sp} (F : Fun K x qual st f fd) (S : zav N ps (zab st)) (len : ∀ vs H Q E, sp vs H Q E → vs.length = ps.length)
  (hb : ∀ (cdv : Value) (A : Around) (outer : List Env) (s : Shared) (H : Hp) (vs : List V) (Q : VK) (E : XK), Room k (A.deeper (envOfC qual (zab st) s.heap.objs.size f cdv)) → sp vs H Q E →
   ∃ t, PSs (zcj (CXR P w) P w K mg base N qual (zab st) f cdv A outer s H E) (zah st) t ∧ t { nx := fun _ H' => Q .non H', rt := Q } (zf1 N vs) H) : FnOk P w K mg base (CXR P w) (k + 1) f fd ps sp := by
 obtain ⟨_, _, _, _, _, _, cdv, _, _, rfl, lk, hcd⟩ := F.ex
 refine zqb lk hcd S len fun A outer s H vs Q E hr hsp => ?_
 exact hb cdv A outer s H vs Q E hr hsp
def zte (D : Addr) (W : XK) (t : TA) : TS := fun _ σ H => t σ H fun vs H1 => vs.length ≤ 1000 ∧ W (.ref D) none H1
theorem zpv {X : Cx} {x : Str} {D : Addr} {np cpos pos : Pos} {e : Expr} {es : List Expr} {ta : TA} {W : XK} (hc : X.calm = true) (hg : Gl X x) (hm : X.mg x = some (.ref D)) (hD : PySem.W.excIn X.K D zgb zfv = true) (ha : PA X (e :: es) ta)
  (hxe : ∀ (pins : List (Addr × Obj)) (σ : St) (H : Hp) (s : Shared) (h1 : Heap) (ea : Addr) (vs : List Value), Inv X pins σ H s → Heap.MadeExcOf s.heap h1 ea (.ref D) vs → W (.ref D) none H → X.xe (.ref ea) { s with heap := h1 })
  (he : starEach (e :: es) X.env = (false, eval e X.env) :: starEach es X.env := by rfl) (hplain : (backTo cpos (starEach es X.env)).any (·.1) = false := by rfl) (hd : (x == ("__debug__" : Str)) = false := by decide) :
  PS X (.Raise (some (.Call (.Name x np) (e :: es) [] cpos)) none pos) (zte D W ta) := by
 intro pins s σ H Dn I h
 obtain ⟨bm, xc⟩ := XCls.mk' I.mod.kin hD
 obtain ⟨N, nm, qn, bs, hdd, sn, sub, ab, col, dd, k0, k1, k2, k3, k5, mN, eC, eN, ei, eT⟩ := xc.ex
 have hs := ha cpos pins s σ H _ I h
 refine wpAny_Raise_call_subT (C := D) (nm := nm) (q := qn) (N := N) (bs := bs) (bm := bm) (hdct := hdd) (sn := sn) (sub := sub) (ab := ab) (col := col) (dd := dd) (k0 := k0) (k1 := k1) (k2 := k2) (k3 := k3) (k5 := k5) PySem.F.excBase_ValueError (mN := mN) (eT.hasType (b := true) (by decide)) (I.ok.hd hc)
  (by rw [he]; show (false || (backTo cpos (starEach es X.env)).any (·.1)) = false; rw [hplain]; rfl) ei (zfo I hg hm ⟨rfl, ?_⟩ hd)
 rw [he] at hs ⊢
 refine Calls.evalArgs_plain (wpAny_mono hs (fun us s2 ⟨vs, H1, I1, r, q1, q2⟩ => ?_) fun _ _ z => z)
 refine ⟨rfl, ?_, I1.bk _ _ eC, eN.keeps I1.bk, eT.keeps I1.bk, fun h1 ea hx => hxe pins σ H1 s2 h1 ea _ I1 hx q2⟩
 rw [← r.length]
 exact Nat.le_of_lt (zcy q1)
section
variable {X : Cx} {pins : List (Addr × Obj)} {σ : St} {H H' : Hp} {s s' : Shared} {h2 : Heap}
def XE (X : Cx) (pins : List (Addr × Obj)) (W : XK) : Value → Shared → Prop := fun e s' => ∃ (σ : St) (H : Hp) (s : Shared) (H' : Hp) (ea D : Addr) (a0 : Value) (B : Heap), e = .ref ea ∧ Inv X pins σ H s ∧ Inv X pins σ H' s' ∧ Heap.FlyingW B X.stack ea (.ref D) a0 s'.heap ∧
 (∀ b o, s'.heap.get? b = some o → b ∉ frs X.stack → (H' b ≠ none ∨ ∃ u, s.heap.get? b = some u) → B.get? b = some o) ∧ H' ea = none ∧ W (.ref D) none H'
abbrev Cx.tryX (X : Cx) (pins : List (Addr × Obj)) (W : XK) : Cx := { X with pn := X.pn ++ pins, xe := XE X pins W }
abbrev Cx.markX (X : Cx) (ea : Addr) : Cx := { X with A := X.A.mark (some (.ref ea)), calm := false, xe := fun _ _ => False }
theorem Inv.toTry (I : Inv X pins σ H s) (W : XK) : Inv (X.tryX pins W) [] σ H s :=
 ⟨⟨I.ok.mod, I.ok.kind, I.ok.glob, I.ok.blt, I.ok.above, I.ok.inj, I.ok.has, I.ok.cab, I.ok.hd, I.ok.frames, I.ok.stk, I.ok.exf, I.ok.bs, I.ok.bsz, I.ok.noex, I.ok.exfs, I.ok.funs, I.ok.frf⟩, I.os, I.bare, I.base, I.loc, I.cell, I.free, I.freeC, fun p hp => I.pin p (by rw [List.append_nil] at hp; exact hp), I.hok, I.len⟩
theorem Inv.ofTry {W : XK} {pins' : List (Addr × Obj)} (I : Inv (X.tryX pins W) pins' σ H s) : Inv X pins σ H s :=
 ⟨⟨I.ok.mod, I.ok.kind, I.ok.glob, I.ok.blt, I.ok.above, I.ok.inj, I.ok.has, I.ok.cab, I.ok.hd, I.ok.frames, I.ok.stk, I.ok.exf, I.ok.bs, I.ok.bsz, I.ok.noex, I.ok.exfs, I.ok.funs, I.ok.frf⟩, I.os, I.bare, I.base, I.loc, I.cell, I.free, I.freeC, fun p hp => I.pin p (List.mem_append_left _ hp), I.hok, I.len⟩
theorem Inv.toMark (I : Inv X pins σ H s) (ea : Addr) : Inv (X.markX ea) pins σ H s :=
 ⟨⟨I.ok.mod, I.ok.kind, I.ok.glob, I.ok.blt, I.ok.above, I.ok.inj, I.ok.has, I.ok.cab, fun z => (by cases z), I.ok.frames, I.ok.stk, I.ok.exf, I.ok.bs, I.ok.bsz, I.ok.noex, I.ok.exfs, I.ok.funs, I.ok.frf⟩, I.os, I.bare, I.base, I.loc, I.cell, I.free, I.freeC, I.pin, I.hok, I.len⟩
theorem Inv.ofMark {ea : Addr} (I : Inv (X.markX ea) pins σ H s) (hd : X.calm = true → X.A.handled = none) : Inv X pins σ H s :=
 ⟨⟨I.ok.mod, I.ok.kind, I.ok.glob, I.ok.blt, I.ok.above, I.ok.inj, I.ok.has, I.ok.cab, hd, I.ok.frames, I.ok.stk, I.ok.exf, I.ok.bs, I.ok.bsz, I.ok.noex, I.ok.exfs, I.ok.funs, I.ok.frf⟩, I.os, I.bare, I.base, I.loc, I.cell, I.free, I.freeC, I.pin, I.hok, I.len⟩
theorem SP.ofTry {W : XK} {D : zh4} {f : Flow} (h : SP (X.tryX pins W) [] D f s') : SP X pins D f s' := by
 cases f with
 | next => obtain ⟨a, b, I, q⟩ := h; exact ⟨a, b, I.ofTry, q⟩
 | brk => obtain ⟨a, b, I, q⟩ := h; exact ⟨a, b, I.ofTry, q⟩
 | cont => obtain ⟨a, b, I, q⟩ := h; exact ⟨a, b, I.ofTry, q⟩
 | ret u => obtain ⟨v, a, b, I, r, q⟩ := h; exact ⟨v, a, b, I.ofTry, r, q⟩
theorem zt3 {W : XK} : zga (CXR X.prog X.w) (X.tryX pins W) W := fun pins' σ H s e s' I h => by
 obtain ⟨ea, D, a0, H', B, rfl, os, bare, un, hok, fl, kB, hn, hW⟩ := h
 exact ⟨σ, H, s, H', ea, D, a0, B, rfl, I.ofTry, I.ofTry.call' os un hok bare (fun b z => by cases z), fl, kB, hn, hW⟩
theorem Inv.track {ea : Addr} {o : HO} (I0 : Inv X pins σ H s) (I1 : Inv X pins σ H' s') (hn : H' ea = none) (hp : s.heap.get? ea = none) (new : ObjOk X.prog X.w (upd H' ea o) s'.heap ea o) : Inv X pins σ (upd H' ea o) s' where
 ok := I1.ok
 os := I1.os
 bare := I1.bare
 base := ⟨I1.base.keep, I1.base.slot, fun b u e n hx => by
  rw [zan fun z => by
   obtain ⟨u', e'⟩ := I0.base.there b u e hx
   rw [z, hp] at e'
   cases e']
  exact I1.base.free b u e n hx, I1.base.there, fun b xs q => by
   have := I1.base.tups b xs q
   rw [zan (zaq this hn)]; exact this, fun b u xs q => by
   have := I1.base.frzs b u xs q
   rw [zan (zaq this hn)]; exact this, fun b ps q => by
   obtain ⟨more, e⟩ := I1.base.tbls b ps q
   exact ⟨more, by rw [zan (zaq e hn)]; exact e⟩⟩
 loc := I1.loc
 cell := I1.cell
 free := by
  rw [zan fun z => by
   obtain ⟨m, ⟨u, _, _, e, _⟩, _⟩ := I0.loc
   rw [z, hp] at e
   cases e]
  exact I1.free
 freeC := fun x c e => by
  rw [zan fun z => by
   obtain ⟨v, u, e', _⟩ := I0.cell x c e
   rw [z, hp] at e'
   cases e']
  exact I1.freeC x c e
 pin := fun p hq => by
  obtain ⟨h1, h2, h3⟩ := I1.pin p hq
  refine ⟨h1, ?_, h3⟩
  rw [zan fun z => by
   have := (I0.pin p hq).1
   rw [z, hp] at this
   cases this]
  exact h2
 hok := fun b u e => by
  by_cases hb : b = ea
  ·subst hb; rw [zaf] at e; cases e; exact new
  ·rw [zan hb] at e
   exact (I1.hok b u e).stay (fun _ _ _ q => q) (fun c q => by rw [zan (zaq q hn)]; exact q) fun c xs q => by rw [zan (zaq q hn)]; exact q
 len := I1.len
theorem Inv.gone {i t : Nat} {n : Str} {v : Option Value} (I : Inv X pins σ H s) (hN : X.N.Nodup) (hi : X.N[i]? = some n) (hk : X.env.kindOf n = some .local) {m : Str → Option Value} (hm : s.heap.Ns X.env.locals m) (hn : h2.Ns X.env.locals (fun x => if x = n then v else m x)) (hs : Heap.SameBut X.env.locals s.heap h2) : Inv X pins (σ.set i none) H { s with heap := h2, toks := t } := by
 obtain ⟨m', hm', hl⟩ := I.loc
 have em : m' = m := by
  obtain ⟨o1, es1, ep1, e1, d1, _, f1⟩ := hm'
  obtain ⟨o2, es2, ep2, e2, d2, _, f2⟩ := hm
  rw [e1] at e2
  cases e2
  rw [d1] at d2
  cases d2
  funext x
  rw [← f1 x, f2 x]
 subst em
 obtain ⟨oL, _, _, hoL, _⟩ := id hm
 have lt : ∀ b o, X.s₀.heap.get? b = some o → b ≠ X.env.locals := fun b o e => Nat.ne_of_lt (Nat.lt_of_lt_of_le (Heap.lt_size e) I.ok.above)
 refine ⟨I.ok, I.os, I.bare, ⟨fun b o e n hb hx => (hs.2 b (lt b o e)).trans (I.base.keep b o e n hb hx), fun b o e n hb hx => ?_, I.base.free, fun b o e hx => ?_, I.base.tups, I.base.frzs, I.base.tbls⟩, ⟨_, hn, fun j y v' e1 e2 e3 => ?_⟩, fun y c e => ?_, I.free, I.freeC, fun p hp => ?_, fun b ob e => ?_, by rw [List.length_set]; exact I.len⟩
 ·obtain ⟨sl, e1⟩ := I.base.slot b o e n hb hx
  exact ⟨sl, (hs.2 b (lt b o e)).trans e1⟩
 ·obtain ⟨o', e1⟩ := I.base.there b o e hx
  exact ⟨o', (hs.2 b (lt b o e)).trans e1⟩
 ·have hj : j ≠ i := fun z => by
   rw [z, List.getElem?_set_self (by rw [I.len]; exact (List.getElem?_eq_some_iff.mp hi).1)] at e2
   cases e2
  rw [List.getElem?_set_ne (Ne.symm hj)] at e2
  obtain ⟨u', r', q⟩ := hl j y v' e1 e2 e3
  refine ⟨u', r', ?_⟩
  rcases q with ⟨k, e⟩ | ⟨k, c, e, z⟩
  ·refine .inl ⟨k, ?_⟩
   have : y ≠ n := fun e => hj (zir hN e1 (e ▸ hi))
   show (if y = n then v else m' y) = some u'
   rw [if_neg this]
   exact e
  ·exact .inr ⟨k, c, e, z.sameBut hs (I.cne y c e)⟩
 ·obtain ⟨w', z⟩ := I.cell y c e
  exact ⟨w', z.sameBut hs (I.cne y c e)⟩
 ·obtain ⟨e, n', ne, nf, d⟩ := I.pin p hp
  exact ⟨(hs.2 p.1 ne).trans e, n', ne, nf, d⟩
 ·refine (I.hok b ob e).stay (fun c w' hc q => (hs.2 c ?_).trans q) (fun _ q => q) fun _ _ q => q
  rintro rfl
  have fr := I.free
  rcases hc with rfl | hc
  ·rw [fr] at e; cases e
  ·rw [fr] at hc; cases hc
end
def zqs (K : PySem.W.Frag) (D C : Addr) : Bool := match K.lookup D with
 | some ⟨_, _, .cls cd, _⟩ => cd.mro.contains (.ref C)
 | _ => false
theorem zrh {K : PySem.W.Frag} {h : Heap} {D C : Addr} {bD : List Value} (X : K.In h) (x : XCls h D bD) (q : zqs K D C = true) : (Value.ref D :: bD).contains (.ref C) = true := by
 unfold zqs at q
 split at q
 case h_2 => cases q
 case h_1 oc od cd sl hl =>
  obtain ⟨_, _, _, _, _, _, _, _, _, _, _, _, _, _, _, _, e, _⟩ := x.ex
  have := X _ _ hl
  rw [e] at this
  cases this
  exact q
def zji (ea D : Addr) : Heap → Prop := fun h => ∃ ob, h.get? ea = some ob ∧ ob.cls = .ref D
def ztc (i : Nat) (W : XK) (K : PySem.W.Frag) (C : Addr) (tb ts : TS) : TS := fun D σ H => tb D σ H ∧ ∀ (σ' : St) (H' : Hp) (ea Dc : Addr), σ'.length = σ.length → W (.ref Dc) none H' → H' ea = none →
 PySem.W.excIn K Dc zgb zfv = true ∧ zqs K Dc C = true ∧ ts { nx := fun σ2 H2 => D.nx (σ2.set i none) H2, rt := fun _ _ => False } (σ'.set i (some (.ref ea))) (upd H' ea (.ext (zji ea Dc)))
theorem zq1 {X : Cx} {body suite : List Stmt} {b0 : Stmt} {x n : Str} {i : Nat} {C : Addr} {tb ts : TS} {W : XK} {np hpos pos : Pos} (hst : X.stack = X.env :: X.outer) (hfr : X.env.frame = some X.env.locals) (hb : ∀ pins, PSs (X.tryX pins W) body tb) (hg : Gl X x) (hm : X.mg x = some (.ref C)) (hC : PySem.W.excIn X.K C zgb zfv = true)
  (hN : X.N.Nodup) (hi : X.N[i]? = some n) (hk : X.env.kindOf n = some .local) (hl : Loc X.env.scope n) (hs : ∀ ea, PSs (X.markX ea) (b0 :: suite) ts) (hf : X.fn n = true ∨ X.env.scope.names.lookup n = some .local := by first | exact .inl rfl | exact .inr rfl | assumption) (hd : (x == ("__debug__" : Str)) = false := by decide) :
  PS X (.Try body [.ExceptHandler (some (.Name x np)) (some n) (b0 :: suite) hpos] [] [] pos) (ztc i W X.K C tb ts) := by
 intro pins s σ H D I h
 refine wpAny_Try_except (wpAny_mono (hb pins [] s σ H D (I.toTry W) h.1) (fun f s1 q => ?_) fun e s1 q => ?_)
 ·cases f with
  | next => exact wpAny_execs_nil (SP.ofTry q)
  | brk => exact SP.ofTry q
  | cont => exact SP.ofTry q
  | ret u => exact SP.ofTry q
 obtain ⟨σ1, H0, s0, H1, ea, Dc, a0, B, rfl, I0, I1, fl, kB, hea, hW⟩ := q
 obtain ⟨r1, r2, r3⟩ := h.2 σ1 H1 ea Dc (I1.len.trans I.len.symm) hW hea
 rw [hst] at fl
 have hp0 : s0.heap.get? ea = none := by
  cases hq : s0.heap.get? ea with
  | none => rfl
  | some u =>
   obtain ⟨oe, vs, _, _, _, he, _, hdt, _⟩ := fl.2.2.2
   have nst : ea ∉ frs X.stack := fun z => by
    obtain ⟨_, o2, e2, d2⟩ := I1.stack.mem z
    rw [he] at e2
    cases e2
    exact d2 vs hdt
   have := kB ea oe he nst (.inr ⟨u, hq⟩)
   rw [fl.2.1] at this
   cases this
 refine wpAny_looks_onW (by rw [← hst]; exact I.ok.frames) hfr fl fun h2 hh2 u2 => ?_
 refine wpAny_landsW hh2 fun h3 fl3 u3 => ?_
 have I3 := I0.upto I1 (fun b o e n hb => fl3.1 _ _ (kB b o e n hb)) (u2.trans u3)
 obtain ⟨bC, xC⟩ := XCls.mk' I3.kIn hC
 obtain ⟨bD, xD⟩ := XCls.mk' I3.kIn r1
 obtain ⟨oe, he, hcls⟩ := fl3.there
 refine wpAny_handleBy_cons (codeAny_handlers_test (zfo (I3.toMark ea) hg hm ?_ hd)) (by intro q; cases q)
 refine zk9 xC xD he hcls (zrh I3.kIn xD r2) ?_
 refine codeAny_handlers_suite_as ?_
 refine lands_againW fl3 fun h4 fl4 u4 => ?_
 have I4 := I0.upto I1 (fun b o e n hb => fl4.1 _ _ (kB b o e n hb)) ((u2.trans u3).trans u4)
 obtain ⟨oe4, he4, hcls4⟩ := fl4.there
 have I5 := I0.track (o := .ext (zji ea Dc)) I4 hea hp0 ⟨⟨oe4, he4, hcls4⟩, ⟨oe4, he4⟩, fun g1 g2 ⟨ob, e1, e2⟩ k => ⟨ob, k ob e1, e2⟩⟩
 refine zij I5 hN hi hl (show RelV (.ref ea) (.ref ea) from rfl) (fun s5 I6 => ?_) hf
 refine wpAny_mono (hs ea pins s5 _ _ _ (I6.toMark ea) r3) (fun f s6 q => ?_) fun _ _ z => False.elim z
 cases f with
 | next =>
  obtain ⟨σ7, H7, I7, q7⟩ := q
  obtain ⟨m, hnm, _⟩ := id I7.loc
  exact wpAny_nameGoes_keeps hk hnm (by rw [I.ok.kind]; rfl) fun h8 v hn8 hs8 => ⟨_, H7, (I7.ofMark I.ok.hd).gone hN hi hk hnm hn8 hs8, q7⟩
 | brk => obtain ⟨_, _, _, q7⟩ := q; exact False.elim q7
 | cont => obtain ⟨_, _, _, q7⟩ := q; exact False.elim q7
 | ret u => obtain ⟨_, _, _, _, _, q7⟩ := q; exact False.elim q7
end L2
set_option maxRecDepth 100000
set_option maxHeartbeats 4000000
namespace L2
open PySem PySem.Spec PyProof.Rows
structure zg1 (K : PySem.W.Frag) (D : Addr) : Prop where
 cl : PySem.W.excIn K D zgb zfv = true
 ga : PySem.W.findIn K (.ref D) "__getattribute__" = some (some (.builtin "BaseException.__getattribute__"))
 gt : PySem.W.findIn K (.ref D) "__getattr__" = some none
 ck : PySem.W.findIn K (.ref D) "__class__" = some (some (.builtin "object.__class__"))
section
variable {prog : Program} {w : World} {A : Around} {E : Value → Shared → Prop} {h : Heap} {g : Array GenState} {d : Drawn} {t : Nat} {os : OsState} {a D : Addr} {o : Obj} {K : PySem.W.Frag} {bD : List Value}
theorem ztb {R : Result → Shared → Prop} (xD : XCls h D bD) (hx : h.get? a = some o) (hc : o.cls = .ref D) (hq : R (.ok (.ret (.ref D))) ⟨h, g, d, t, os⟩) :
  codeAny (model prog w) A (.call (.builtin "getset_descriptor.__get__") ⟨[.builtin "object.__class__", .ref a, .ref D], []⟩) R ⟨h, g, d, t, os⟩ := by
 obtain ⟨_, _, _, _, _, _, _, _, _, _, _, _, _, _, _, _, hD, _, _, tD⟩ := xD.ex
 have hb : (Value.ref D :: bD).contains (.type (".".intercalate ("object.__class__".cutAt '.').dropLast)) = true := by
  rw [PySem.F.owner_object_class, List.contains_cons, tD.hasType (b := true) (by decide)]; rfl
 refine codeAny_call_builtin PySem.F.slot_gs_get.plain PySem.F.entry_gs_get (PySem.F.slot_gs_get.check _ _ _ _ _ _ _ _ (show (⟨h, g, d, t, os⟩ : Shared).TypeIs (.builtin "object.__class__") "getset_descriptor" from PySem.F.typeOf_object_class) (PySem.F.args_gs_get _ _ _) ?_)
 repeat (any_goals (first | assumption | (with_reducible refine wpAny_loadPart_at hx ?_; rw [hc]) | (with_reducible refine wpAny_isSubtype_exc hD ?_; rw [hb]) | wp_step))
 refine ⟨Code.quiet_builtin _ (by decide +kernel), codeAny_builtin PySem.F.entry_object_class ?_⟩
 repeat (any_goals (first | assumption | (with_reducible refine wpAny_loadPart_at hx ?_; rw [hc]) | wp_step))
theorem zpl {tk : Tok} {Q : Fin → Shared → Prop} (X : K.In h) (G : zg1 K D) (xD : XCls h D bD) (hx : h.get? a = some o) (hc : o.cls = .ref D) (hq : Q (.done (.ret (.ref D))) ⟨h, g, d, t, os⟩) :
  wpAny (model prog w) A (Builtin.«object.__getattribute__» ⟨[.ref a, .str "__class__" tk], []⟩) Q E ⟨h, g, d, t, os⟩ := by
 have hT5 : (⟨h, g, d, t, os⟩ : Shared).TypeIs (.builtin "object.__class__") "getset_descriptor" := PySem.F.typeOf_object_class
 have f5 := PySem.F.typeOf_object_class
 have f6 := PySem.F.slot_gs_get.lookup
 have f7 := PySem.F.slot_gs_set.lookup
 repeat (any_goals (first | assumption | (with_reducible refine wpAny_loadPart_at hx ?_; rw [hc]) | (with_reducible refine (PySem.W.looks_findIn X G.ck).at ?_) | wp_step))
 refine ztb xD hx hc ?_
 repeat (any_goals (first | assumption | wp_step | done))
theorem zpk {M : Model} {v : Value} {Q : Unit → Shared → Prop} (xD : XCls h D bD) (hx : h.get? a = some o) (hc : o.cls = .ref D) (hq : Q () ⟨h, g, d, t, os⟩) : wpAny M A (checkBuiltinCall "BaseException.__getattribute__" ⟨[.ref a, v], []⟩) Q E ⟨h, g, d, t, os⟩ := by
 obtain ⟨_, _, _, _, _, _, _, _, _, _, _, _, _, _, _, _, hD, _, _, tD⟩ := xD.ex
 have h1 : builtinKind "BaseException.__getattribute__" = some .slot := by decide +kernel
 have h2 : splitId "BaseException.__getattribute__" = some ("BaseException", "__getattribute__") := by decide +kernel
 have hb : (Value.ref D :: bD).contains (.type "BaseException") = true := by rw [List.contains_cons, tD.hasType (b := true) (by decide), Bool.or_true]
 have ha := PySem.F.args_bexc_ga (.ref a) v
 simp only [checkBuiltinCall, h1, h2]
 refine wpAny_bind ?_
 unfold isInstance
 repeat (first | (with_reducible refine wpAny_loadPart_at hx ?_; rw [hc]) | (with_reducible refine wpAny_isSubtype_exc hD ?_; rw [hb]) | wp_step)
 exact hq
theorem zui {tk : Tok} {Q : Value → Shared → Prop} (X : K.In h) (G : zg1 K D) (xD : XCls h D bD) (FG : Slot "ValueError" "__getattribute__" "BaseException.__getattribute__") (hx : h.get? a = some o) (hc : o.cls = .ref D) (hq : Q (.ref D) ⟨h, g, d, t, os⟩) :
  wpAny (model prog w) A (getAttrBy (.ref a) (.str "__class__" tk) false) Q E ⟨h, g, d, t, os⟩ := by
 have f3 := FG.bind (.ref a)
 have hx2 : (Value.builtin "BaseException.__getattribute__" == Value.builtin "object.__getattribute__") = false := by decide +kernel
 have hx1 : (onTheHeap (Value.ref D) && Value.builtin "BaseException.__getattribute__" == Value.builtin "object.__getattribute__") = false := by rw [hx2]; rfl
 repeat (any_goals (first | assumption | (with_reducible refine wpAny_loadPart_at hx ?_; rw [hc]) | (with_reducible refine (PySem.W.looks_findIn X G.ga).at ?_) | (with_reducible refine (PySem.W.looks_findIn X G.gt).at ?_) | wp_step))
 refine codeAny_call_builtin FG.plain PySem.F.entry_bexc_ga (zpk xD hx hc (zpl X G xD hx hc ?_))
 repeat (any_goals (first | assumption | wp_step | done))
theorem zrp {Q : Option Value → Shared → Prop} (X : K.In h) (G : zg1 K D) (xD : XCls h D bD) (FG : Slot "ValueError" "__getattribute__" "BaseException.__getattribute__") (hx : h.get? a = some o) (hc : o.cls = .ref D) (hq : Q (some (.ref D)) ⟨h, g, d, t + 1, os⟩) :
  wpAny (model prog w) A (getAttr? (.ref a) "__class__") Q E ⟨h, g, d, t, os⟩ := by
 unfold getAttr? getAttrBy?
 repeat (any_goals (first | assumption | with_reducible apply zui X G xD FG hx hc | wp_step))
end
theorem zk5 {K : PySem.W.Frag} {a D : Addr} (G : zg1 K D) : PySem.W.KitX K (.ref a) (.ref D) (zji a D) where
 ty := fun M h _ ⟨_, h1, h2⟩ => h2 ▸ (PySem.W.Looks.ld h1).andThen .now
 it := fun _ h X _ => by
  obtain ⟨_, xD⟩ := XCls.mk' X G.cl
  obtain ⟨_, _, _, _, _, _, _, _, _, _, _, _, _, _, _, _, hD, _⟩ := xD.ex
  intro A' Q' E' s' k q
  unfold isType loadHead
  exact wpAny_bind (wpAny_loadPart (k _ _ hD) (wpAny_pure q))
 ne := fun h tp dd its n sl X htp => Bool.eq_false_iff.mpr fun q => by
  cases Value.ref.inj (beq_iff_eq.mp q)
  obtain ⟨_, xD⟩ := XCls.mk' X G.cl
  obtain ⟨_, _, _, _, _, _, _, _, _, _, _, _, _, _, _, _, hD, _⟩ := xD.ex
  have z := congrArg Obj.data (Option.some.inj (hD.symm.trans htp))
  cases z
 ca := fun {_ _ _ _ _ s} X p k => by
  obtain ⟨_, xD⟩ := XCls.mk' X G.cl
  obtain ⟨o, h1, h2⟩ := p
  obtain ⟨h, g, d, t, os⟩ := s
  exact zrp X G xD PySem.F.attr_ValueError.ga h1 h2 k
theorem zkw {X : Cx} {K : PySem.W.Frag} (hK : X.K = K := by rfl) : zd4 X (.builtin "isinstance") (fun xs H Q => ∃ (a D : Addr) (c : V) (b : Bool), xs = [.ref a, c] ∧ H a = some (.ext (zji a D)) ∧ zg1 K D ∧
  ((∃ C, c = .ref C ∧ PySem.W.kitOne K (.ref D) (.ref C) = some b) ∨ ∃ T, c = .ty T ∧ PySem.W.kitOne K (.ref D) (.type T) = some b) ∧ Q (.bl b) H) := by
 subst hK
 intro pins s σ H xs us Q I r h
 obtain ⟨a, D, c, b, rfl, ha, G, hc, q⟩ := h
 obtain ⟨u, w', rfl, rx, ry⟩ := zsd r
 cases (show u = Value.ref a from rx)
 have p : zji a D s.heap := (show ObjOk X.prog X.w H s.heap a (.ext (zji a D)) from I.hok a _ ha).1
 rcases hc with ⟨C, rfl, e⟩ | ⟨T, rfl, e⟩
 ·cases (show w' = Value.ref C from ry)
  exact PySem.W.kia_one (zk5 G) I.kIn p e (fun z => nomatch z) fun tk => ⟨.bl b, H, I.tok tk, rfl, q⟩
 ·cases (show w' = Value.type T from ry)
  exact PySem.W.kia_one (zk5 G) I.kIn p e (fun z => nomatch z) fun tk => ⟨.bl b, H, I.tok tk, rfl, q⟩
theorem zrk : bootBuiltins "ValueError" = some (.type "ValueError") := by decide +kernel
end L2
namespace Wd
open PySem L2 Ow
end Wd
set_option maxRecDepth 100000
set_option maxHeartbeats 4000000
namespace Wd
open PySem L2 Ow
end Wd
set_option maxRecDepth 100000
set_option maxHeartbeats 4000000
namespace L2
open PySem PySem.Spec PyProof.Rows
theorem zm3 {P : Program} {w : World} {K : PySem.W.Frag} {mg : Str → Option Value} {base : Heap} {N : List Str} {qual : Str} {scope : Scope} {f : Addr} {cd : Value} {A : Around} {outer : List Env} {s0 : Shared} {H0 : Hp} {E : XK} :
  zga (CXR P w) (zcj (CXR P w) P w K mg base N qual scope f cd A outer s0 H0 E) E := fun pins σ H s e s' I h => by
 obtain ⟨ea, D, a0, H', B, rfl, os, bare, un, hok, fl, kB, hn, hW⟩ := h
 have I1 := I.call' os un hok bare (fun b z => by cases z)
 refine wpAny_leaves_onW I.ok.frames rfl fl fun h2 fl2 u2 => ?_
 have I2 := I.upto I1 (fun b o e n hb => fl2.1 _ _ (kB b o e n hb)) u2
 refine ⟨ea, D, a0, H', B, rfl, I2.os, I2.bare, I2.base, I2.hok, fl2, fun b o q hf hb => ?_, hn, hW⟩
 have nst : b ∉ frs (envOfC qual scope s0.heap.objs.size f cd :: outer) := fun z => by
  rcases hb with hb | ⟨u, hu⟩
  ·exact hb (I1.stkFree b z)
  ·rcases List.mem_cons.mp (I.stkSub b z) with r | r
   ·have h1 := Heap.lt_size hu
    rw [r] at h1
    exact absurd h1 (Nat.lt_irrefl _)
   ·exact hf r
 rcases hb with hb | ⟨u, hu⟩
 ·cases hq : H' b with
  | none => exact absurd hq hb
  | some ho =>
   obtain ⟨u, hu⟩ := zm2 (I1.hok b ho hq)
   have h1 := kB b u hu nst (.inl hb)
   have h3 := fl2.1 _ _ h1
   rw [q] at h3
   cases h3
   exact h1
 ·obtain ⟨o1, e1⟩ := I.base.there b u hu (by intro z; cases z)
  obtain ⟨o2, e2⟩ := I1.base.there b u hu (by intro z; cases z)
  have h1 := kB b o2 e2 nst (.inr ⟨o1, e1⟩)
  have h3 := fl2.1 _ _ h1
  rw [q] at h3
  cases h3
  exact h1
end L2
set_option maxRecDepth 100000
set_option maxHeartbeats 4000000
namespace L2
open PySem PySem.Spec PyProof.Rows
def zk0 (P : Program) (w : World) (K : PySem.W.Frag) (mg : Str → Option Value) (base : Heap) (N : List Str) (q : Str) (scope : Scope) (f c : Addr) (cl : List (Str × Addr)) (A : Around) (outer : List Env) (s : Shared) (H : Hp) (E : XK) : Cx :=
 { zla P w K mg base N q scope f c cl A outer s H with xe := fun e s' => wpAny (model P w) (A.deeper (PySem.W.envX q scope s.heap.objs.size f (.ref c) cl)) (leaving (PySem.W.envX q scope s.heap.objs.size f (.ref c) cl) e) (fun _ s'' => CXR P w outer H s E e s'') (fun e' s'' => CXR P w outer H s E e' s'') s' }
theorem zj4 {P : Program} {w : World} {K : PySem.W.Frag} {mg : Str → Option Value} {base : Heap} {N : List Str} {qual : Str} {scope : Scope} {f c : Addr} {cl : List (Str × Addr)} {A : Around} {outer : List Env} {s0 : Shared} {H0 : Hp} {E : XK} :
  zga (CXR P w) (zk0 P w K mg base N qual scope f c cl A outer s0 H0 E) E := fun pins σ H s e s' I h => by
 obtain ⟨ea, D, a0, H', B, rfl, os, bare, un, hok, fl, kB, hn, hW⟩ := h
 have I1 := I.call' os un hok bare (fun b z => by cases z)
 refine wpAny_leaves_onW I.ok.frames rfl fl fun h2 fl2 u2 => ?_
 have I2 := I.upto I1 (fun b o e n hb => fl2.1 _ _ (kB b o e n hb)) u2
 refine ⟨ea, D, a0, H', B, rfl, I2.os, I2.bare, I2.base, I2.hok, fl2, fun b o q hf hb => ?_, hn, hW⟩
 have nst : b ∉ frs (PySem.W.envX qual scope s0.heap.objs.size f (.ref c) cl :: outer) := fun z => by
  rcases hb with hb | ⟨u, hu⟩
  ·exact hb (I1.stkFree b z)
  ·rcases List.mem_cons.mp (I.stkSub b z) with r | r
   ·have h1 := Heap.lt_size hu
    rw [r] at h1
    exact absurd h1 (Nat.lt_irrefl _)
   ·exact hf r
 rcases hb with hb | ⟨u, hu⟩
 ·cases hq : H' b with
  | none => exact absurd hq hb
  | some ho =>
   obtain ⟨u, hu⟩ := zm2 (I1.hok b ho hq)
   have h1 := kB b u hu nst (.inl hb)
   have h3 := fl2.1 _ _ h1
   rw [q] at h3
   cases h3
   exact h1
 ·obtain ⟨o1, e1⟩ := I.base.there b u hu (by intro z; cases z)
  obtain ⟨o2, e2⟩ := I1.base.there b u hu (by intro z; cases z)
  have h1 := kB b o2 e2 nst (.inr ⟨o1, e1⟩)
  have h3 := fl2.1 _ _ h1
  rw [q] at h3
  cases h3
  exact h1
theorem zr4 {P : Program} {w : World} {K : PySem.W.Frag} {mg : Str → Option Value} {base : Heap} {f c : Addr} {qual : Str} {params : Arguments} {body : Expr} {scope : Scope} {cl : List (Str × Addr)} {ps fr : List Str} {fv : List V} {k : Nat} {sp : Sp}
  (S : zfi ps fr scope) (hcl : ∀ x cc, cl.lookup x = some cc → ∃ v, base.IsCell cc v) (inj : ∀ x y cc, cl.lookup x = some cc → cl.lookup y = some cc → x = y) (has : ∀ y ∈ scope.names, y.2 = .free → ∃ cc, cl.lookup y.1 = some cc)
  (hfv : ∀ (i : Nat) (x : Str) (v : V), fr[i]? = some x → fv[i]? = some v → ∃ cc u, cl.lookup x = some cc ∧ RelV v u ∧ base.IsCell cc (some u)) (hlen : fv.length = fr.length)
  (hsame : ∀ pm ctv args, bindArgs (PySem.W.kla_fn "<lambda>" qual params body scope cl pm (.ref c) ctv) args = bindArgs (PySem.W.kla_fn "<lambda>" qual params body scope cl .none (.ref c) .none) args)
  (len : ∀ vs H Q E, sp vs H Q E → vs.length = ps.length)
  (lam : ∀ vs H Q E, sp vs H Q E → H f = some (.ext (zg6 f qual params body scope cl c)) ∧ H c = some (.ext (zec c)))
  (hbody : ∀ (q : Str) (A : Around) (outer : List Env) (s : Shared) (H : Hp) (vs : List V) (Q : VK) (E : XK), Room k (A.deeper (PySem.W.envX q scope s.heap.objs.size f (.ref c) cl)) → sp vs H Q E →
   ∃ t, PE (zk0 P w K mg base (ps ++ fr) q scope f c cl A outer s H E) body t ∧ t (vs.map some ++ fv.map some) H Q) :
  FnOk P w K mg base (CXR P w) (k + 1) f (PySem.W.kla_fn "<lambda>" qual params body scope cl .none (.ref c) .none) ps sp := by
 refine ⟨len, fun A outer s H args us vs Q E hr e0 hb r hsp => ?_⟩
 have hl := len _ _ _ _ hsp
 obtain ⟨hf, hc⟩ := lam _ _ _ _ hsp
 obtain ⟨pm, ctv, ho⟩ := zhf hf e0.hok
 obtain ⟨oc, vsc, q, t, hoc, hdc, hqc⟩ := zhf hc e0.hok
 have lim : s.heap.NoLimit := e0.mod.nolimit.keeps fun b o e => (e0.bs b o e).1
 have toS : ∀ {cc v}, base.IsCell cc v → s.heap.IsCell cc v ∧ H cc = none := fun {cc v} ⟨o, e, d⟩ => ⟨⟨o, (e0.bs _ _ e).1, d⟩, (e0.bs _ _ e).2⟩
 refine zk6 hr.depth ho rfl S.co S.gen rfl ⟨c, oc, vsc, t, rfl, hoc, hdc, hqc⟩ ?_
 rw [hsame]
 refine hb _ _ _ _ ?_
 have hloc : ∀ y ∈ ps.zip us, scope.names.lookup y.1 = some .local := fun ⟨n, v⟩ hy => S.par n (List.of_mem_zip hy).1
 refine wpAny_newFunctionEnv S.nocell hloc (fun h₁ hns hsb => ?_) S.kind
 have hk₁ : ∀ b o, s.heap.get? b = some o → h₁.get? b = some o := fun b o e => hsb.extBut b o (Nat.ne_of_lt (Heap.lt_size e)) (Heap.get?_push_of_some _ e)
 refine ⟨lim.keeps hk₁, ?_⟩
 obtain ⟨tt, ht, hq⟩ := hbody q A outer s H vs Q E (hr.deeper _) hsp
 have noA : ∀ b : Addr, b ∉ ([] : List Addr) := fun b z => by simp at z
 have kinds : ∀ x, (scope.names.lookup x = some .cell ∨ scope.names.lookup x = some .free) → ∃ cc, cl.lookup x = some cc := fun x hx => by
  rcases hx with z | z
  ·exact absurd rfl (S.nocell _ (PySem.mem_of_lookup z))
  ·exact has _ (PySem.mem_of_lookup z) rfl
 have I : Inv (zk0 P w K mg base (ps ++ fr) q scope f c cl A outer s H E) [] (vs.map some ++ fv.map some) H { s with heap := h₁, toks := s.toks + (ps.zip us).length } := by
  refine ⟨⟨e0.mod, S.kind, rfl, rfl, Nat.le_refl _, inj, kinds, fun x cc z => (by cases z), fun _ => hr.hd, Around.frames_deeper e0.frames, .inr ⟨rfl, rfl⟩, fun b z => absurd z (noA b), e0.bs, e0.bsz, fun b _ _ => noA b, fun b z => absurd z (noA b), e0.funs, e0.frf⟩,
   rfl, e0.bare, Un.kept hk₁, ⟨_, hns, fun i x v h1 h2 h3 => ?_⟩, fun x cc e => ?_, e0.hok.fresh (Nat.le_refl _), fun x cc e => ?_, fun p hp => absurd (show p ∈ ([] : List (Addr × Obj)) from hp) (by simp), e0.hok.kept hk₁, ?_⟩
  ·have h1' : (ps ++ fr)[i]? = some x := h1
   by_cases hi : i < ps.length
   ·rw [List.getElem?_append_left hi] at h1'
    rw [List.getElem?_append_left (by rw [List.length_map, hl]; exact hi), List.getElem?_map] at h2
    obtain ⟨v', hv, e⟩ := Option.map_eq_some_iff.mp h2
    cases e
    obtain ⟨u, hu, rv⟩ := r.get hv
    exact ⟨u, rv, .inl ⟨S.par x (List.mem_of_getElem? h1'), ze1 S.nd h1' hu⟩⟩
   ·rw [List.getElem?_append_right (by omega)] at h1'
    rw [List.getElem?_append_right (by rw [List.length_map, hl]; omega), List.getElem?_map, List.length_map, hl] at h2
    obtain ⟨v', hv, e⟩ := Option.map_eq_some_iff.mp h2
    cases e
    obtain ⟨cc, u, e1, ru, ic⟩ := hfv _ _ _ h1' hv
    exact ⟨u, ru, .inr ⟨.inr (S.fre x (List.mem_of_getElem? h1')), cc, e1, (toS ic).1.keeps hk₁⟩⟩
  ·obtain ⟨v, ic⟩ := hcl x cc e
   exact ⟨v, (toS ic).1.keeps hk₁⟩
  ·obtain ⟨v, ic⟩ := hcl x cc e
   exact (toS ic).2
  ·show (vs.map some ++ fv.map some).length = (ps ++ fr).length
   rw [List.length_append, List.length_append, List.length_map, List.length_map, hl, hlen]
 refine PySem.W.kla_codeExpr (wpAny_mono (ht [] _ _ H _ I hq) (fun u s' hs => ?_) fun e s' hs => hs)
 obtain ⟨v, H', J, rv, qq⟩ := hs
 exact ⟨v, H', J.os, J.bare, J.base, J.hok, rv, qq⟩
section
variable {X : Cx} {k : Nat} {f : Addr} {fd : FuncData} {ps : List Str} {x : Str} {p pos : Pos} {e : Expr} {es : List Expr} {t : TA}
theorem zpe {CX : CXT} {E : XK} {i : Nat} {φ : Heap → Prop} {sp : Sp} (F : FnOk X.prog X.w X.K X.mg X.base CX k f fd ps sp) (hr : Room k X.A) (hN : X.N[i]? = some x) (hv : Vis X.env.scope x) (hb : Binds X.K fd ps [])
  (hφ : ∀ h : Heap, φ h → ∃ o fd', h.get? f = some o ∧ o.data = .func fd') (hx : zga CX X E)
  (hdb : (x == ("__debug__" : Str)) = false := by decide) (hcd : (x == ("__classdict__" : Str)) = false := by decide) :
  PE X (.Call (.Name x p) [] [] pos) (fun σ H Q => σ[i]? = some (some (.ref f)) ∧ H f = some (.ext φ) ∧ sp [] H Q E) := by
 intro pins s σ H Q I h
 obtain ⟨hσ, e3, q⟩ := h
 refine wpAny_Call_Name_kw (wpAny_mono (znj hN hv hdb hcd pins s σ H (fun v H' => v = .ref f ∧ H' = H) I ⟨_, hσ, rfl, rfl⟩) (fun u s1 hu => ?_) fun _ _ z => z)
 obtain ⟨v, H', I', rv, e1, e2⟩ := hu
 subst e1
 subst e2
 obtain rfl : u = Value.ref f := rv
 refine PySem.W.callWith_of (by rfl) (P := fun h => ∃ o fd', h.get? f = some o ∧ o.data = .func fd') (fun h ⟨o, fd', e1, e2⟩ => ?_) (evalArgs_nil3 ⟨hφ _ (zhf e3 I'.hok), ?_⟩)
 ·obtain ⟨oc, od, od', os⟩ := o
  cases e2
  exact ⟨.frame, .inl rfl, (PySem.W.Looks.ld (part := none) e1).andThen .now⟩
 ·exact znc (ds := []) (dvs := []) (us := []) F hr hb .nil hx I' .nil (by rw [List.append_nil]; exact q)
theorem LamB.keeps {mg : Str → Option Value} {base base' : Heap} {c P : Addr} (B : LamB mg base c P) (k : ∀ b o, base.get? b = some o → base'.get? b = some o) : LamB mg base' c P := by
 obtain ⟨bm, ob, h1, h2, h3, h4⟩ := B.blt
 exact ⟨B.code.keeps k, bm, ob, h1, h2, k _ _ h3, h4⟩
theorem zg3 (hr : Room k X.A) (hg : Gl X x) (hm : X.mg x = some (.ref f)) (hk : PySem.W.keepIn X.K (.ref f) = true) (hb : Binds X.K fd ps []) (hfn : ∀ y, X.fn y = true)
  (ha : PA X (e :: es) t) (hdb : (x == ("__debug__" : Str)) = false := by decide) (he : starEach (e :: es) X.env = (false, eval e X.env) :: starEach es X.env := by rfl) (hpl : (backTo pos (starEach es X.env)).any (·.1) = false := by rfl) :
  PE X (.Call (.Name x p) (e :: es) [] pos) (fun σ H Q => t σ H fun vs H1 => ∀ base : Heap, zh7 X σ base → X.K.In base → base.Ns mainGlobals X.mg → (∀ b o, X.base.get? b = some o → base.get? b = some o) → ∃ sp : Sp, FnOk X.prog X.w X.K X.mg base CX0 k f fd ps sp ∧ sp vs H1 Q E0) := by
 intro pins s σ H Q I h
 refine wpAny_Call_Name_kw (zfo I hg hm ?_ hdb)
 refine PySem.W.callWith_K (h₀ := X.base) I.ok.mod.kin hk (thn (ha pos pins s σ H _ I h) fun us s1 ⟨vs, H1, I1, r, q⟩ => ⟨I1.kIn, ?_⟩) he hpl
 have e0 := I1.now
 have ci : zh7 X σ (zdb s1.heap H1 X.stack) := fun i y v hN hv hk => by
  obtain ⟨m, hn, hl⟩ := I1.loc
  obtain ⟨u, ru, l⟩ := hl i y v hN hv (.inr (.inl hk))
  rcases l with ⟨hk', _⟩ | ⟨_, c, hc, hcell⟩
  ·rw [hk] at hk'; cases hk'
  ·exact ⟨c, u, hc, ru, I1.nowCell (hfn y) hc hcell⟩
 obtain ⟨sp, F, hs⟩ := q _ ci e0.mod.kin e0.mod.glob fun b o e => zfc (I1.bk _ _ e) (I1.env0.bs b o e).2 (I1.noStk e)
 have hl : us.length = ps.length := by rw [← r.length]; exact F.len _ _ _ _ hs
 have hbb := hb s1 us I1.kIn (by rw [List.append_nil]; exact hl)
 rw [List.append_nil] at hbb
 refine wpAny_call (codeAny_mono (F.run X.A X.stack s1 H1 ⟨us, []⟩ us vs Q E0 hr e0 hbb r hs) fun r s' hq => ?_)
 cases r with
 | error e => exact hq.elim
 | ok fl =>
  cases fl with
  | ret u => exact I1.after hq
  | next => exact False.elim hq
  | brk => exact False.elim hq
  | cont => exact False.elim hq
end
end L2
set_option maxRecDepth 100000
set_option maxHeartbeats 4000000
namespace Wd
open PySem L2 Ow
def zse (C : Hp → Prop) (D : Addr) (r : Bool) : Sp := fun vs H Q E => vs = [] ∧ C H ∧ (r = true → E (.ref D) none H) ∧ (r = false → ∀ v H', Same H H' → Q v H')
def zpy (r : Bool) : Str := if r = true then "unlike" else "none"
def zq7 (p : Addr) (C : Hp → Prop) (r : Bool) : Sp := fun vs H Q _ => vs = [.ref p] ∧ C H ∧ ∀ H', Same H H' → Q (.str (zpy r)) H'
def zhb (D : Addr) : Sp := fun vs H _ E => ∃ (w1 w2 : Addr) (m1 m2 : Nat) (t1 t2 : List Tie), vs = [.ref w1, .ref w2] ∧ WoodT H w1 m1 t1 ∧ WoodT H w2 m2 t2 ∧ m1 ≠ m2 ∧ E (.ref D) none H
def zpb (D : Addr) : Sp := fun vs H _ E => ∃ (w1 w2 : Addr) (m1 m2 : Nat) (t1 t2 : List Tie) (v : V), vs = [.ref w1, .ref w2, v] ∧ WoodT H w1 m1 t1 ∧ WoodT H w2 m2 t2 ∧ m1 ≠ m2 ∧ E (.ref D) none H
theorem len3 {α : Type} : ∀ {l : List α}, l.length = 3 → ∃ a b c, l = [a, b, c]
 | [a, b, c], _ => ⟨a, b, c, rfl⟩
def ifT : Option Stmt → Expr
 | some (.If c _ _ _) => c
 | _ => .Constant .none 0 ⟨0, 0, 0, 0⟩
def zpd : Expr → Expr
 | .Compare l _ _ _ => l
 | e => e
theorem zdm {x y1 y2 y3 : Str} {c1 c2 c3 cc : Addr} (h : [(y1, c1), (y2, c2), (y3, c3)].lookup x = some cc) : (x = y1 ∧ cc = c1) ∨ (x = y2 ∧ cc = c2) ∨ (x = y3 ∧ cc = c3) := by
 have m := PySem.mem_of_lookup h
 simp only [List.mem_cons, Prod.mk.injEq, List.not_mem_nil, or_false] at m
 exact m
structure AskC (ps : List Addr) (w1 w2 : Addr) (m1 m2 : Nat) (t1 t2 : List Tie) (v : V) (r : Bool) (H : Hp) : Prop where
 tabs : ∀ P ∈ ps, zdk H P
 one : WoodT H w1 m1 t1
 other : WoodT H w2 m2 t2
 tree : r = false → m1 = m2 ∧ ∃ t : WT, Dn H t.toD v ∧ t.good ∧ t.depth < 11
 no : r = true → m1 ≠ m2
theorem AskC.same {ps : List Addr} {w1 w2 : Addr} {m1 m2 : Nat} {t1 t2 : List Tie} {v : V} {r : Bool} {H H' : Hp} (s : Same H H') (h : AskC ps w1 w2 m1 m2 t1 t2 v r H) : AskC ps w1 w2 m1 m2 t1 t2 v r H' :=
 ⟨fun P hP => s.tab (h.tabs P hP), h.one.same s, h.other.same s, fun hr => ⟨(h.tree hr).1, let ⟨t, d, g⟩ := (h.tree hr).2; ⟨t, Dn.same s _ _ d, g⟩⟩, h.no⟩
def znn (ps : List Addr) (r : Bool) : Sp := fun vs H Q _ => ∃ (w1 w2 : Addr) (m1 m2 : Nat) (t1 t2 : List Tie) (v : V), vs = [.ref w1, .ref w2, v, .str (zpy r)] ∧ AskC ps w1 w2 m1 m2 t1 t2 v r H ∧ 1 ≤ m1 ∧ m1 ≤ 9 ∧ ∀ H', Same H H' → Q (.bl true) H'
theorem zj8 {P : Program} {w : World} {K : PySem.W.Frag} {mg : Str → Option Value} {base : Heap} {p c D : Addr} {qual : Str} {params : Arguments} {body : Expr} {scope : Scope} {cl : List (Str × Addr)} {H1 : Hp} {fr : List Str} {fv : List V} {k : Nat} {r : Bool} (C0 : Hp → Prop)
  (hp : H1 p = some (.ext (zg6 p qual params body scope cl c)))
  (S : zfi [] fr scope) (hcl : ∀ x cc, cl.lookup x = some cc → ∃ v, base.IsCell cc v) (inj : ∀ x y cc, cl.lookup x = some cc → cl.lookup y = some cc → x = y) (has : ∀ y ∈ scope.names, y.2 = .free → ∃ cc, cl.lookup y.1 = some cc)
  (hfv : ∀ (i : Nat) (x : Str) (v : V), fr[i]? = some x → fv[i]? = some v → ∃ cc u, cl.lookup x = some cc ∧ RelV v u ∧ base.IsCell cc (some u)) (hlen : fv.length = fr.length)
  (hsame : ∀ pm ctv args, bindArgs (PySem.W.kla_fn "<lambda>" qual params body scope cl pm (.ref c) ctv) args = bindArgs (PySem.W.kla_fn "<lambda>" qual params body scope cl .none (.ref c) .none) args)
  (hbody : ∀ (q : Str) (A : Around) (outer : List Env) (s : Shared) (H : Hp) (Q : VK) (E : XK), Room k (A.deeper (PySem.W.envX q scope s.heap.objs.size p (.ref c) cl)) → C0 H → (r = true → E (.ref D) none H) → (r = false → ∀ v H', Same H H' → Q v H') →
   ∃ t, PE (zk0 P w K mg base ([] ++ fr) q scope p c cl A outer s H E) body t ∧ t (([] : List V).map some ++ fv.map some) H Q) :
  FnOk P w K mg base (CXR P w) (k + 1) p (PySem.W.kla_fn "<lambda>" qual params body scope cl .none (.ref c) .none) [] (zse (fun H => C0 H ∧ H p = some (.ext (zg6 p qual params body scope cl c)) ∧ H c = some (.ext (zec c))) D r) := by
 refine zr4 S hcl inj has hfv hlen hsame (fun vs H Q E h => ?_) (fun vs H Q E h => ?_) (fun q A outer s H vs Q E hr h => ?_)
 ·obtain ⟨rfl, _⟩ := h
  rfl
 ·obtain ⟨rfl, ⟨_, h1, h2⟩, _⟩ := h
  exact ⟨h1, h2⟩
 ·obtain ⟨rfl, ⟨h0, _, _⟩, h1, h2⟩ := h
  exact hbody q A outer s H Q E hr h0 h1 h2
end Wd
set_option maxRecDepth 100000
set_option maxHeartbeats 4000000
namespace Ow
open PySem L2 Wd
theorem _root_.L2.Room.lv {A : Around} {j k : Nat} (hr : Room k A) (h : j ≤ k := by first | decide | omega) : Room j A := hr.mono h
def top (i : Nat) : Stmt := PySem.Challenge.pw_optionwood_k51_woods_unlike.main.body.getD i (.Pass ⟨0, 0, 0, 0⟩)
abbrev zgw : Stmt := top 1
abbrev zbv : Stmt := top 2
abbrev zbh : Stmt := top 3
abbrev zcb : Stmt := top 15
abbrev zc5 : Stmt := top 16
abbrev zc9 : Stmt := top 18
abbrev zbw : Stmt := top 19
abbrev zch : Stmt := top 20
abbrev zce : Stmt := top 21
abbrev zbo : Stmt := top 22
abbrev zcx : Stmt := top 23
abbrev zbu : Stmt := top 24
abbrev zcf : Stmt := top 25
abbrev zb3 : Stmt := top 26
abbrev zbj : Stmt := top 27
abbrev zar : Stmt := top 28
abbrev zaw : Stmt := top 29
abbrev za7 : Stmt := top 30
abbrev zbf : Stmt := top 31
abbrev zdn : Stmt := top 33
abbrev zbn : Stmt := top 34
abbrev zcc : Stmt := top 35
abbrev zbz : Stmt := top 36
abbrev zcv : Stmt := top 37
abbrev zbg : Stmt := top 38
abbrev zcp : Stmt := top 39
abbrev zdo : Stmt := top 41
abbrev zbr : Stmt := top 43
abbrev zay : Stmt := top 44
abbrev zb7 : Stmt := top 45
abbrev zbx : Stmt := top 46
abbrev zca : Stmt := top 47
abbrev zbq : Stmt := top 48
abbrev zb6 : Stmt := top 50
abbrev zbl : Stmt := top 51
abbrev zbe : Stmt := top 52
abbrev zcm : Stmt := top 53
abbrev zcn : Stmt := top 54
abbrev zb5 : Stmt := top 55
abbrev zcd : Stmt := top 56
abbrev zax : Stmt := top 57
abbrev zew : Stmt := top 58
set_option genInjectivity false
set_option genSizeOfSpec false
set_option genSizeOf false
structure Adr where
 f_has : Addr
 f_with_option : Addr
 f_open_options : Addr
 f_many_ties : Addr
 f_tie_at : Addr
 f_keeps : Addr
 f_keeps_bough : Addr
 f_count_in : Addr
 f_every_tie : Addr
 f_first_broken : Addr
 f_is_ware : Addr
 f_sure_broken : Addr
 f_sure_kept : Addr
 f_least_sum : Addr
 f_greatest_sum : Addr
 f_sure_broken_bough : Addr
 f_sure_kept_bough : Addr
 f_first_sure_broken : Addr
 f_all_sure_kept : Addr
 f_cases : Addr
 f_cases_of : Addr
 f_ware_leaf : Addr
 f_told_tree : Addr
 f_is_tree : Addr
 f_is_broken_leaf : Addr
 f_wares_in : Addr
 f_wares : Addr
 f_within : Addr
 f_shows_within : Addr
 f_compared : Addr
 f_check_alike : Addr
 f_kept_leaf : Addr
 f_is_kept_leaf : Addr
 f_law_take : Addr
 f_law_boughs : Addr
 f_law_cross : Addr
 f_law_many : Addr
 f_law_wood : Addr
 f_law_near : Addr
 f_law_heard : Addr
 f_law_refused : Addr
 f_law : Addr
 c_cases_of : Addr
 t_cases_of : Addr
 c_within : Addr
 t_within : Addr
 c_shows_within : Addr
 t_shows_within : Addr
 c_law_refused : Addr
 t_law_refused : Addr
 x_WoodError : Addr
 x_NoWood : Addr
 x_NoCount : Addr
 x_NoWares : Addr
 x_NoOffer : Addr
 x_Unlike : Addr
 x_NoText : Addr
 x_NoRow : Addr
 x_NoName : Addr
structure Fds where
 f_has : FuncData
 f_with_option : FuncData
 f_open_options : FuncData
 f_many_ties : FuncData
 f_tie_at : FuncData
 f_keeps : FuncData
 f_keeps_bough : FuncData
 f_count_in : FuncData
 f_every_tie : FuncData
 f_first_broken : FuncData
 f_is_ware : FuncData
 f_sure_broken : FuncData
 f_sure_kept : FuncData
 f_least_sum : FuncData
 f_greatest_sum : FuncData
 f_sure_broken_bough : FuncData
 f_sure_kept_bough : FuncData
 f_first_sure_broken : FuncData
 f_all_sure_kept : FuncData
 f_cases : FuncData
 f_cases_of : FuncData
 f_ware_leaf : FuncData
 f_told_tree : FuncData
 f_is_tree : FuncData
 f_is_broken_leaf : FuncData
 f_wares_in : FuncData
 f_wares : FuncData
 f_within : FuncData
 f_shows_within : FuncData
 f_compared : FuncData
 f_check_alike : FuncData
 f_kept_leaf : FuncData
 f_is_kept_leaf : FuncData
 f_law_take : FuncData
 f_law_boughs : FuncData
 f_law_cross : FuncData
 f_law_many : FuncData
 f_law_wood : FuncData
 f_law_near : FuncData
 f_law_heard : FuncData
 f_law_refused : FuncData
 f_law : FuncData
structure Txt (K : PySem.W.Frag) (mg : Str → Option Value) (a : Adr) (d : Fds) : Prop where
 m_ValueError : mg "ValueError" = none
 m_range : mg "range" = none
 m_len : mg "len" = none
 m_isinstance : mg "isinstance" = none
 m_max : mg "max" = none
 m_all : mg "all" = none
 m_int : mg "int" = none
 m_list : mg "list" = none
 m_tuple : mg "tuple" = none
 m_sorted : mg "sorted" = none
 m_sum : mg "sum" = none
 g_has : mg "has" = some (.ref a.f_has)
 K_has : Fun K "has" "has" zgw a.f_has d.f_has
 B_has : Binds K d.f_has ["some", "k"] []
 g_with_option : mg "with_option" = some (.ref a.f_with_option)
 K_with_option : Fun K "with_option" "with_option" zbv a.f_with_option d.f_with_option
 B_with_option : Binds K d.f_with_option ["some", "k"] []
 g_open_options : mg "open_options" = some (.ref a.f_open_options)
 K_open_options : Fun K "open_options" "open_options" zbh a.f_open_options d.f_open_options
 B_open_options : Binds K d.f_open_options ["many", "yes", "no"] []
 g_many_ties : mg "many_ties" = some (.ref a.f_many_ties)
 K_many_ties : Fun K "many_ties" "many_ties" zcb a.f_many_ties d.f_many_ties
 B_many_ties : Binds K d.f_many_ties ["wood"] []
 g_tie_at : mg "tie_at" = some (.ref a.f_tie_at)
 K_tie_at : Fun K "tie_at" "tie_at" zc5 a.f_tie_at d.f_tie_at
 B_tie_at : Binds K d.f_tie_at ["wood", "t"] []
 g_keeps : mg "keeps" = some (.ref a.f_keeps)
 K_keeps : Fun K "keeps" "keeps" zc9 a.f_keeps d.f_keeps
 B_keeps : Binds K d.f_keeps ["tie", "some"] []
 g_keeps_bough : mg "keeps_bough" = some (.ref a.f_keeps_bough)
 K_keeps_bough : Fun K "keeps_bough" "keeps_bough" zbw a.f_keeps_bough d.f_keeps_bough
 B_keeps_bough : Binds K d.f_keeps_bough ["bough", "some"] []
 g_count_in : mg "count_in" = some (.ref a.f_count_in)
 K_count_in : Fun K "count_in" "count_in" zch a.f_count_in d.f_count_in
 B_count_in : Binds K d.f_count_in ["kids", "some"] []
 g_every_tie : mg "every_tie" = some (.ref a.f_every_tie)
 K_every_tie : Fun K "every_tie" "every_tie" zce a.f_every_tie d.f_every_tie
 B_every_tie : Binds K d.f_every_tie ["wood"] []
 g_first_broken : mg "first_broken" = some (.ref a.f_first_broken)
 K_first_broken : Fun K "first_broken" "first_broken" zbo a.f_first_broken d.f_first_broken
 B_first_broken : Binds K d.f_first_broken ["wood", "some"] []
 g_is_ware : mg "is_ware" = some (.ref a.f_is_ware)
 K_is_ware : Fun K "is_ware" "is_ware" zcx a.f_is_ware d.f_is_ware
 B_is_ware : Binds K d.f_is_ware ["wood", "some"] []
 g_sure_broken : mg "sure_broken" = some (.ref a.f_sure_broken)
 K_sure_broken : Fun K "sure_broken" "sure_broken" zbu a.f_sure_broken d.f_sure_broken
 B_sure_broken : Binds K d.f_sure_broken ["tie", "yes", "no"] []
 g_sure_kept : mg "sure_kept" = some (.ref a.f_sure_kept)
 K_sure_kept : Fun K "sure_kept" "sure_kept" zcf a.f_sure_kept d.f_sure_kept
 B_sure_kept : Binds K d.f_sure_kept ["tie", "yes", "no"] []
 g_least_sum : mg "least_sum" = some (.ref a.f_least_sum)
 K_least_sum : Fun K "least_sum" "least_sum" zb3 a.f_least_sum d.f_least_sum
 B_least_sum : Binds K d.f_least_sum ["pairs", "yes", "no"] []
 g_greatest_sum : mg "greatest_sum" = some (.ref a.f_greatest_sum)
 K_greatest_sum : Fun K "greatest_sum" "greatest_sum" zbj a.f_greatest_sum d.f_greatest_sum
 B_greatest_sum : Binds K d.f_greatest_sum ["pairs", "yes", "no"] []
 g_sure_broken_bough : mg "sure_broken_bough" = some (.ref a.f_sure_broken_bough)
 K_sure_broken_bough : Fun K "sure_broken_bough" "sure_broken_bough" zar a.f_sure_broken_bough d.f_sure_broken_bough
 B_sure_broken_bough : Binds K d.f_sure_broken_bough ["bough", "yes", "no"] []
 g_sure_kept_bough : mg "sure_kept_bough" = some (.ref a.f_sure_kept_bough)
 K_sure_kept_bough : Fun K "sure_kept_bough" "sure_kept_bough" zaw a.f_sure_kept_bough d.f_sure_kept_bough
 B_sure_kept_bough : Binds K d.f_sure_kept_bough ["bough", "yes", "no"] []
 g_first_sure_broken : mg "first_sure_broken" = some (.ref a.f_first_sure_broken)
 K_first_sure_broken : Fun K "first_sure_broken" "first_sure_broken" za7 a.f_first_sure_broken d.f_first_sure_broken
 B_first_sure_broken : Binds K d.f_first_sure_broken ["wood", "ties", "yes", "no"] []
 g_all_sure_kept : mg "all_sure_kept" = some (.ref a.f_all_sure_kept)
 K_all_sure_kept : Fun K "all_sure_kept" "all_sure_kept" zbf a.f_all_sure_kept d.f_all_sure_kept
 B_all_sure_kept : Binds K d.f_all_sure_kept ["wood", "yes", "no"] []
 g_cases : mg "cases" = some (.ref a.f_cases)
 K_cases : Fun K "cases" "cases" zdn a.f_cases d.f_cases
 B_cases : Binds K d.f_cases ["wood", "yes", "no"] []
 g_cases_of : mg "cases_of" = some (.ref a.f_cases_of)
 K_cases_of : Fun K "cases_of" "cases_of" zbn a.f_cases_of d.f_cases_of
 B_cases_of : Binds K d.f_cases_of ["wood", "ties", "yes", "no"] []
 g_ware_leaf : mg "ware_leaf" = some (.ref a.f_ware_leaf)
 K_ware_leaf : Fun K "ware_leaf" "ware_leaf" zcc a.f_ware_leaf d.f_ware_leaf
 B_ware_leaf : Binds K d.f_ware_leaf ["wood", "yes", "no"] []
 g_told_tree : mg "told_tree" = some (.ref a.f_told_tree)
 K_told_tree : Fun K "told_tree" "told_tree" zbz a.f_told_tree d.f_told_tree
 B_told_tree : Binds K d.f_told_tree ["wood", "ties", "yes", "no", "leaf_at"] []
 g_is_tree : mg "is_tree" = some (.ref a.f_is_tree)
 K_is_tree : Fun K "is_tree" "is_tree" zcv a.f_is_tree d.f_is_tree
 B_is_tree : Binds K d.f_is_tree ["wood", "yes", "no", "tree", "is_leaf"] []
 g_is_broken_leaf : mg "is_broken_leaf" = some (.ref a.f_is_broken_leaf)
 K_is_broken_leaf : Fun K "is_broken_leaf" "is_broken_leaf" zbg a.f_is_broken_leaf d.f_is_broken_leaf
 B_is_broken_leaf : Binds K d.f_is_broken_leaf ["wood", "yes", "no", "t"] []
 g_wares_in : mg "wares_in" = some (.ref a.f_wares_in)
 K_wares_in : Fun K "wares_in" "wares_in" zcp a.f_wares_in d.f_wares_in
 B_wares_in : Binds K d.f_wares_in ["yes", "tree"] []
 g_wares : mg "wares" = some (.ref a.f_wares)
 K_wares : Fun K "wares" "wares" zdo a.f_wares d.f_wares
 B_wares : Binds K d.f_wares ["wood"] []
 g_within : mg "within" = some (.ref a.f_within)
 K_within : Fun K "within" "within" zbr a.f_within d.f_within
 B_within : Binds K d.f_within ["one", "other"] []
 g_shows_within : mg "shows_within" = some (.ref a.f_shows_within)
 K_shows_within : Fun K "shows_within" "shows_within" zay a.f_shows_within d.f_shows_within
 B_shows_within : Binds K d.f_shows_within ["one", "other", "tree"] []
 g_compared : mg "compared" = some (.ref a.f_compared)
 K_compared : Fun K "compared" "compared" zb7 a.f_compared d.f_compared
 B_compared : Binds K d.f_compared ["one", "other"] []
 g_check_alike : mg "check_alike" = some (.ref a.f_check_alike)
 K_check_alike : Fun K "check_alike" "check_alike" zbx a.f_check_alike d.f_check_alike
 B_check_alike : Binds K d.f_check_alike ["one", "other"] []
 g_kept_leaf : mg "kept_leaf" = some (.ref a.f_kept_leaf)
 K_kept_leaf : Fun K "kept_leaf" "kept_leaf" zca a.f_kept_leaf d.f_kept_leaf
 B_kept_leaf : Binds K d.f_kept_leaf ["other", "yes", "no"] []
 g_is_kept_leaf : mg "is_kept_leaf" = some (.ref a.f_is_kept_leaf)
 K_is_kept_leaf : Fun K "is_kept_leaf" "is_kept_leaf" zbq a.f_is_kept_leaf d.f_is_kept_leaf
 B_is_kept_leaf : Binds K d.f_is_kept_leaf ["other", "word", "yes", "no"] []
 g_law_take : mg "_law_take" = some (.ref a.f_law_take)
 K_law_take : Fun K "_law_take" "_law_take" zb6 a.f_law_take d.f_law_take
 B_law_take : Binds K d.f_law_take ["_law_state", "_law_most"] []
 g_law_boughs : mg "_law_boughs" = some (.ref a.f_law_boughs)
 K_law_boughs : Fun K "_law_boughs" "_law_boughs" zbl a.f_law_boughs d.f_law_boughs
 B_law_boughs : Binds K d.f_law_boughs ["_law_state", "_law_many_here"] []
 g_law_cross : mg "_law_cross" = some (.ref a.f_law_cross)
 K_law_cross : Fun K "_law_cross" "_law_cross" zbe a.f_law_cross d.f_law_cross
 B_law_cross : Binds K d.f_law_cross ["_law_state", "_law_many_here", "_law_most"] []
 g_law_many : mg "_law_many" = some (.ref a.f_law_many)
 K_law_many : Fun K "_law_many" "_law_many" zcm a.f_law_many d.f_law_many
 B_law_many : Binds K d.f_law_many ["_law_state"] []
 g_law_wood : mg "_law_wood" = some (.ref a.f_law_wood)
 K_law_wood : Fun K "_law_wood" "_law_wood" zcn a.f_law_wood d.f_law_wood
 B_law_wood : Binds K d.f_law_wood ["_law_state", "_law_many_here", "_law_most"] []
 g_law_near : mg "_law_near" = some (.ref a.f_law_near)
 K_law_near : Fun K "_law_near" "_law_near" zb5 a.f_law_near d.f_law_near
 B_law_near : Binds K d.f_law_near ["_law_state", "_law_wood_here"] []
 g_law_heard : mg "_law_heard" = some (.ref a.f_law_heard)
 K_law_heard : Fun K "_law_heard" "_law_heard" zcd a.f_law_heard d.f_law_heard
 B_law_heard : Binds K d.f_law_heard ["_law_ask"] []
 g_law_refused : mg "_law_refused" = some (.ref a.f_law_refused)
 K_law_refused : Fun K "_law_refused" "_law_refused" zax a.f_law_refused d.f_law_refused
 B_law_refused : Binds K d.f_law_refused ["_law_one", "_law_other", "_law_tree", "_law_due"] []
 g_law : mg "law" = some (.ref a.f_law)
 K_law : Fun K "law" "law" zew a.f_law d.f_law
 B_law : Binds K d.f_law ["_law_script"] []
 code_cases_of : d.f_cases_of.code = .ref a.c_cases_of
 code_within : d.f_within.code = .ref a.c_within
 code_shows_within : d.f_shows_within.code = .ref a.c_shows_within
 code_law_refused : d.f_law_refused.code = .ref a.c_law_refused
 g_WoodError : mg "WoodError" = some (.ref a.x_WoodError)
 g_NoWood : mg "NoWood" = some (.ref a.x_NoWood)
 g_NoCount : mg "NoCount" = some (.ref a.x_NoCount)
 g_NoWares : mg "NoWares" = some (.ref a.x_NoWares)
 g_NoOffer : mg "NoOffer" = some (.ref a.x_NoOffer)
 g_Unlike : mg "Unlike" = some (.ref a.x_Unlike)
 g_NoText : mg "NoText" = some (.ref a.x_NoText)
 g_NoRow : mg "NoRow" = some (.ref a.x_NoRow)
 g_NoName : mg "NoName" = some (.ref a.x_NoName)
 x_WoodError : zg1 K a.x_WoodError
 x_NoWood : zg1 K a.x_NoWood
 x_NoCount : zg1 K a.x_NoCount
 x_NoWares : zg1 K a.x_NoWares
 x_NoOffer : zg1 K a.x_NoOffer
 x_Unlike : zg1 K a.x_Unlike
 x_NoText : zg1 K a.x_NoText
 x_NoRow : zg1 K a.x_NoRow
 x_NoName : zg1 K a.x_NoName
 k_Unlike_WoodError : PySem.W.kitOne K (.ref a.x_Unlike) (.ref a.x_WoodError) = some true
 k_Unlike_NoWood : PySem.W.kitOne K (.ref a.x_Unlike) (.ref a.x_NoWood) = some false
 k_Unlike_NoCount : PySem.W.kitOne K (.ref a.x_Unlike) (.ref a.x_NoCount) = some false
 k_Unlike_NoWares : PySem.W.kitOne K (.ref a.x_Unlike) (.ref a.x_NoWares) = some false
 k_Unlike_NoOffer : PySem.W.kitOne K (.ref a.x_Unlike) (.ref a.x_NoOffer) = some false
 k_Unlike_Unlike : PySem.W.kitOne K (.ref a.x_Unlike) (.ref a.x_Unlike) = some true
 k_Unlike_NoText : PySem.W.kitOne K (.ref a.x_Unlike) (.ref a.x_NoText) = some false
 k_Unlike_NoRow : PySem.W.kitOne K (.ref a.x_Unlike) (.ref a.x_NoRow) = some false
 k_Unlike_NoName : PySem.W.kitOne K (.ref a.x_Unlike) (.ref a.x_NoName) = some false
 v_Unlike : PySem.W.kitOne K (.ref a.x_Unlike) (.type "ValueError") = some true
 s_Unlike_WoodError : zqs K a.x_Unlike a.x_WoodError = true
theorem zsw : zav ["some", "k"] ["some", "k"] (zab zgw) := ⟨rfl, rfl, rfl, by decide +kernel, rfl, by decide +kernel, by decide +kernel⟩
theorem zit : zav ["some", "k"] ["some", "k"] (zab zbv) := ⟨rfl, rfl, rfl, by decide +kernel, rfl, by decide +kernel, by decide +kernel⟩
theorem zhw : zav ["many", "yes", "no"] ["many", "yes", "no"] (zab zbh) := ⟨rfl, rfl, rfl, by decide +kernel, rfl, by decide +kernel, by decide +kernel⟩
theorem zkr : zav ["wood"] ["wood"] (zab zcb) := ⟨rfl, rfl, rfl, by decide +kernel, rfl, by decide +kernel, by decide +kernel⟩
theorem sc_tie_at : zav ["wood", "t", "boughs"] ["wood", "t"] (zab zc5) := ⟨rfl, rfl, rfl, by decide +kernel, rfl, by decide +kernel, by decide +kernel⟩
theorem zps : zav ["tie", "some"] ["tie", "some"] (zab zc9) := ⟨rfl, rfl, rfl, by decide +kernel, rfl, by decide +kernel, by decide +kernel⟩
theorem sc_keeps_bough : zav ["bough", "some", "count"] ["bough", "some"] (zab zbw) := ⟨rfl, rfl, rfl, by decide +kernel, rfl, by decide +kernel, by decide +kernel⟩
theorem zl1 : zav ["kids", "some"] ["kids", "some"] (zab zch) := ⟨rfl, rfl, rfl, by decide +kernel, rfl, by decide +kernel, by decide +kernel⟩
theorem zj5 : zav ["wood"] ["wood"] (zab zce) := ⟨rfl, rfl, rfl, by decide +kernel, rfl, by decide +kernel, by decide +kernel⟩
theorem sc_first_broken : zav ["wood", "some", "t"] ["wood", "some"] (zab zbo) := ⟨rfl, rfl, rfl, by decide +kernel, rfl, by decide +kernel, by decide +kernel⟩
theorem zmq : zav ["wood", "some"] ["wood", "some"] (zab zcx) := ⟨rfl, rfl, rfl, by decide +kernel, rfl, by decide +kernel, by decide +kernel⟩
theorem zi7 : zav ["tie", "yes", "no"] ["tie", "yes", "no"] (zab zbu) := ⟨rfl, rfl, rfl, by decide +kernel, rfl, by decide +kernel, by decide +kernel⟩
theorem zku : zav ["tie", "yes", "no"] ["tie", "yes", "no"] (zab zcf) := ⟨rfl, rfl, rfl, by decide +kernel, rfl, by decide +kernel, by decide +kernel⟩
theorem zky : zav ["pairs", "yes", "no"] ["pairs", "yes", "no"] (zab zb3) := ⟨rfl, rfl, rfl, by decide +kernel, rfl, by decide +kernel, by decide +kernel⟩
theorem zhz : zav ["pairs", "yes", "no"] ["pairs", "yes", "no"] (zab zbj) := ⟨rfl, rfl, rfl, by decide +kernel, rfl, by decide +kernel, by decide +kernel⟩
theorem sc_sure_broken_bough : zav ["bough", "yes", "no", "least", "greatest", "some_with_up", "some_without_up"] ["bough", "yes", "no"] (zab zar) := ⟨rfl, rfl, rfl, by decide +kernel, rfl, by decide +kernel, by decide +kernel⟩
theorem sc_sure_kept_bough : zav ["bough", "yes", "no", "least", "greatest", "all_with_up", "all_without_up"] ["bough", "yes", "no"] (zab zaw) := ⟨rfl, rfl, rfl, by decide +kernel, rfl, by decide +kernel, by decide +kernel⟩
theorem sc_first_sure_broken : zav ["wood", "ties", "yes", "no", "t"] ["wood", "ties", "yes", "no"] (zab za7) := ⟨rfl, rfl, rfl, by decide +kernel, rfl, by decide +kernel, by decide +kernel⟩
theorem zg9 : zav ["wood", "yes", "no"] ["wood", "yes", "no"] (zab zbf) := ⟨rfl, rfl, rfl, by decide +kernel, rfl, by decide +kernel, by decide +kernel⟩
theorem zp0 : zav ["wood", "yes", "no"] ["wood", "yes", "no"] (zab zdn) := ⟨rfl, rfl, rfl, by decide +kernel, rfl, by decide +kernel, by decide +kernel⟩
theorem zl2 : zav ["wood", "ties", "yes", "no"] ["wood", "ties", "yes", "no"] (zab zbn) := ⟨rfl, rfl, rfl, by decide +kernel, rfl, by decide +kernel, by decide +kernel⟩
theorem zko : zav ["wood", "yes", "no"] ["wood", "yes", "no"] (zab zcc) := ⟨rfl, rfl, rfl, by decide +kernel, rfl, by decide +kernel, by decide +kernel⟩
theorem sc_told_tree : zav ["wood", "ties", "yes", "no", "leaf_at", "broken", "leaf", "k", "one", "other"] ["wood", "ties", "yes", "no", "leaf_at"] (zab zbz) := ⟨rfl, rfl, rfl, by decide +kernel, rfl, by decide +kernel, by decide +kernel⟩
theorem sc_is_tree : zav ["wood", "yes", "no", "tree", "is_leaf", "k"] ["wood", "yes", "no", "tree", "is_leaf"] (zab zcv) := ⟨rfl, rfl, rfl, by decide +kernel, rfl, by decide +kernel, by decide +kernel⟩
theorem zgl : zav ["wood", "yes", "no", "t"] ["wood", "yes", "no", "t"] (zab zbg) := ⟨rfl, rfl, rfl, by decide +kernel, rfl, by decide +kernel, by decide +kernel⟩
theorem zlk : zav ["yes", "tree"] ["yes", "tree"] (zab zcp) := ⟨rfl, rfl, rfl, by decide +kernel, rfl, by decide +kernel, by decide +kernel⟩
theorem sc_wares : zav ["wood", "root"] ["wood"] (zab zdo) := ⟨rfl, rfl, rfl, by decide +kernel, rfl, by decide +kernel, by decide +kernel⟩
theorem sc_within : zav ["one", "other", "outside", "root"] ["one", "other"] (zab zbr) := ⟨rfl, rfl, rfl, by decide +kernel, rfl, by decide +kernel, by decide +kernel⟩
theorem sc_shows_within : zav ["one", "other", "tree", "root"] ["one", "other", "tree"] (zab zay) := ⟨rfl, rfl, rfl, by decide +kernel, rfl, by decide +kernel, by decide +kernel⟩
theorem sc_compared : zav ["one", "other", "there", "back"] ["one", "other"] (zab zb7) := ⟨rfl, rfl, rfl, by decide +kernel, rfl, by decide +kernel, by decide +kernel⟩
theorem ze6 : zav ["one", "other"] ["one", "other"] (zab zbx) := ⟨rfl, rfl, rfl, by decide +kernel, rfl, by decide +kernel, by decide +kernel⟩
theorem zka : zav ["other", "yes", "no"] ["other", "yes", "no"] (zab zca) := ⟨rfl, rfl, rfl, by decide +kernel, rfl, by decide +kernel, by decide +kernel⟩
theorem zhx : zav ["other", "word", "yes", "no"] ["other", "word", "yes", "no"] (zab zbq) := ⟨rfl, rfl, rfl, by decide +kernel, rfl, by decide +kernel, by decide +kernel⟩
theorem sc_law_take : zav ["_law_state", "_law_most", "_law_script", "_law_at", "_law_number"] ["_law_state", "_law_most"] (zab zb6) := ⟨rfl, rfl, rfl, by decide +kernel, rfl, by decide +kernel, by decide +kernel⟩
theorem sc_law_boughs : zav ["_law_state", "_law_many_here", "_law_groups", "_law_k", "_law_up", "_law_old", "_law_boughs_here", "_law_kids", "_law_size", "_law_low", "_law_high"] ["_law_state", "_law_many_here"] (zab zbl) := ⟨rfl, rfl, rfl, by decide +kernel, rfl, by decide +kernel, by decide +kernel⟩
theorem sc_law_cross : zav ["_law_state", "_law_many_here", "_law_most", "_law_cross_here", "_law_turn", "_law_one", "_law_other", "_law_way", "_law_far", "_law_pairs", "_law_total", "_law_top"] ["_law_state", "_law_many_here", "_law_most"] (zab zbe) := ⟨rfl, rfl, rfl, by decide +kernel, rfl, by decide +kernel, by decide +kernel⟩
theorem zlf : zav ["_law_state"] ["_law_state"] (zab zcm) := ⟨rfl, rfl, rfl, by decide +kernel, rfl, by decide +kernel, by decide +kernel⟩
theorem zmc : zav ["_law_state", "_law_many_here", "_law_most"] ["_law_state", "_law_many_here", "_law_most"] (zab zcn) := ⟨rfl, rfl, rfl, by decide +kernel, rfl, by decide +kernel, by decide +kernel⟩
theorem sc_law_near : zav ["_law_state", "_law_wood_here", "_law_many_here", "_law_boughs_here", "_law_cross_here", "_law_way", "_law_at", "_law_up", "_law_low", "_law_high", "_law_kids"] ["_law_state", "_law_wood_here"] (zab zb5) := ⟨rfl, rfl, rfl, by decide +kernel, rfl, by decide +kernel, by decide +kernel⟩
theorem sc_law_heard : zav ["_law_ask", "_law_caught", "e"] ["_law_ask"] (zab zcd) := ⟨rfl, rfl, rfl, by decide +kernel, rfl, by decide +kernel, by decide +kernel⟩
theorem zja : zav ["_law_one", "_law_other", "_law_tree", "_law_due"] ["_law_one", "_law_other", "_law_tree", "_law_due"] (zab zax) := ⟨rfl, rfl, rfl, by decide +kernel, rfl, by decide +kernel, by decide +kernel⟩
theorem sc_law : zav ["_law_script", "_law_state", "_law_many_here", "_law_one", "_law_more", "_law_other", "_law_beside", "_law_tree"] ["_law_script"] (zab zew) := ⟨rfl, rfl, rfl, by decide +kernel, rfl, by decide +kernel, by decide +kernel⟩
end Ow
namespace Ow
open PySem L2 Wd
section
variable {P : Program} {w : World} {K : PySem.W.Frag} {mg : Str → Option Value} {base : Heap} {a : Adr} {d : Fds}
def zt6 : Sp := fun vs H Q _ => ∃ n k : Int, vs = [.int n, .int k] ∧ Q (.bl (zl0 n k)) H
theorem zds (T : Txt K mg a d) : FnOk P w K mg base CX0 1 a.f_has d.f_has ["some", "k"] zt6 := by
 refine T.K_has.ok zsw (fun vs H Q E h => ?_) (fun cdv A outer s H vs Q E hr h => ?_)
 ·obtain ⟨n, k, rfl, _⟩ := h
  rfl
 obtain ⟨n, k, rfl, q⟩ := h
 refine ⟨_, (zai (zam (zc7 (zck zue (pv 1) zad (zas _)) (zcr (zck zby (za2 zs8 (za2 zsy (pv 0) (pv 1)) zad) zad (zas _)))))), ?_⟩
 refine ⟨_, rfl, _, _, rfl, rfl, _, rfl, ?_⟩
 refine zcs (fun c => ?_) (fun c => ?_)
 ·have hk : (0 : Int) ≤ k := of_decide_eq_true c
  refine ⟨_, rfl, _, rfl, _, _, rfl, rfl, hk, _, _, rfl, rfl, rfl, ?_⟩
  have e : decide (V.int (Builtin.bitAnd (n / 2 ^ k.toNat) 1) = V.int 1) = zl0 n k := by
   unfold zl0
   rw [decide_eq_true hk, Bool.true_and, zfk, zu9]
   by_cases z : n / 2 ^ k.toNat % 2 = 1
   ·rw [decide_eq_true z]
    simpa using z
   ·rw [decide_eq_false z]
    simpa using z
  show Q (.bl (decide (V.int (Builtin.bitAnd (n / 2 ^ k.toNat) 1) = V.int 1))) H
  rw [e]
  exact q
 ·have hk : ¬ (0 : Int) ≤ k := of_decide_eq_false (Bool.eq_false_iff.mpr c)
  have e : zl0 n k = false := by
   unfold zl0
   rw [decide_eq_false hk, Bool.false_and]
  rw [e] at q
  exact q
end
section
variable {P : Program} {w : World} {K : PySem.W.Frag} {mg : Str → Option Value} {base : Heap} {a : Adr} {d : Fds}
theorem zcl (T : Txt K mg a d) : FnOk P w K mg base CX0 1 a.f_with_option d.f_with_option ["some", "k"] zrl := by
 refine T.K_with_option.ok zit (fun vs H Q E h => ?_) (fun cdv A outer s H vs Q E hr h => ?_)
 ·obtain ⟨n, k, rfl, _⟩ := h
  rfl
 obtain ⟨n, k, rfl, hk, q⟩ := h
 refine ⟨_, (zai (zam (za2 zsh (pv 0) (za2 zsn zad (pv 1))))), ?_⟩
 refine ⟨_, rfl, _, rfl, _, _, rfl, rfl, ⟨by omega, by omega, by decide⟩, _, _, rfl, rfl, ?_⟩
 have e : Builtin.bitOr (n : Int) (1 * 2 ^ ((k : Nat) : Int).toNat) = ((n ||| 2 ^ k : Nat) : Int) := by rw [zuq, zn4]
 show Q (.int (Builtin.bitOr (n : Int) (1 * 2 ^ ((k : Nat) : Int).toNat))) H
 rw [e]
 exact q
end
section
variable {P : Program} {w : World} {K : PySem.W.Frag} {mg : Str → Option Value} {base : Heap} {a : Adr} {d : Fds}
theorem zdi (T : Txt K mg a d) : FnOk P w K mg base CX0 2 a.f_open_options d.f_open_options ["many", "yes", "no"] zso := by
 have G_has := zds (P := P) (w := w) (base := base) T
 refine T.K_open_options.ok zhw (fun vs H Q E h => ?_) (fun cdv A outer s H vs Q E hr h => ?_)
 ·obtain ⟨m, y, n, rfl, _⟩ := h
  rfl
 obtain ⟨m, y, n, rfl, m9, q⟩ := h
 have p62 : (2 : Int) ^ 62 = 4611686018427387904 := by decide
 refine ⟨_, (zai (zam (zi3 (sc0 := zab zbh) (XN := ["many", "yes", "no"]) (N' := ["k", "yes", "no"]) (n := 1) (kp := [1, 2]) rfl (zhh rfl T.m_range (zaa (pv 0) zac)) rfl rfl (by decide +kernel) (fun _ _ _ _ _ => (za6 (i := 0) (by show List.Nodup (["k", "yes", "no"] : List Str); decide +kernel) rfl (Or.inl rfl))) (fun _ _ _ _ _ => (zd0 (zem (zb8 (zag G_has hr.lv rfl T.g_has T.K_has.kp T.B_has .nil zal (zaa (za2 zsh (pv 1) (pv 2)) (zaa (pv 0) zac))))))) (fun _ _ _ _ _ => (pv 0))))), ?_⟩
 refine ⟨_, rfl, _, rfl, by rw [p62]; omega, by rw [p62]; omega, ?_⟩
 rw [Int.toNat_natCast]
 refine zjm (k := m) (fun i ys σ H2 => (∃ v, σ = [v, some (.int y), some (.int n)]) ∧ H2 = H ∧ i ≤ m ∧ ys = zb4 ((List.range i).filter fun k => !(y ||| n).testBit k)) ⟨⟨none, rfl⟩, rfl, Nat.zero_le _, rfl⟩ (fun i ys σ H2 hi pv => ?_) (fun i ys σ H2 hi pv => ?_) (fun ys σ H2 pv fl hfl => ?_)
 ·obtain ⟨_, _, h1, rfl⟩ := pv
  rw [List.length_map]
  refine small (Nat.le_trans (List.length_filter_le _ _) ?_)
  rw [List.length_range]
  omega
 ·obtain ⟨⟨v0, rfl⟩, rfl, h1, rfl⟩ := pv
  refine ⟨_, rfl, _, rfl, _, _, rfl, rfl, _, rfl, _, _, rfl, _, rfl, ?_⟩
  have ee := zgm (fun k => !(y ||| n).testBit k) i
  rw [zn4, zba]
  refine zcs (fun c2 => ?_) (fun c2 => ?_)
  ·refine ⟨_, rfl, ⟨_, rfl⟩, rfl, hi, ?_⟩
   rw [ee, if_pos c2]
   show _ = List.map _ (_ ++ [i])
   rw [List.map_append]
   rfl
  ·refine ⟨⟨_, rfl⟩, rfl, hi, ?_⟩
   rw [ee, if_neg c2, List.append_nil]
 obtain ⟨_, rfl, _, rfl⟩ := pv
 exact q fl _ (zak hfl _) hfl zaf
end
section
variable {P : Program} {w : World} {K : PySem.W.Frag} {mg : Str → Option Value} {base : Heap} {a : Adr} {d : Fds}
theorem zg0 (T : Txt K mg a d) : FnOk P w K mg base CX0 1 a.f_many_ties d.f_many_ties ["wood"] zs7 := by
 refine T.K_many_ties.ok zkr (fun vs H Q E h => ?_) (fun cdv A outer s H vs Q E hr h => ?_)
 ·obtain ⟨wd, many, xs, ys, rfl, _⟩ := h
  rfl
 obtain ⟨wd, many, xs, ys, rfl, ⟨tb, tc, hw, hb, hc⟩, q⟩ := h
 refine ⟨_, (zai (zam (za2 zci (zaz (zfx (K := K)) rfl T.m_len PySem.boot_len (zaa (zap (ixT (K := K)) (pv 0) zad (fun _ _ => rfl)) zac)) (zaz (zfx (K := K)) rfl T.m_len PySem.boot_len (zaa (zap (ixT (K := K)) (pv 0) zad (fun _ _ => rfl)) zac))))), ?_⟩
 exact ⟨_, rfl, wd, _, _, _, rfl, rfl, sqT hw, at1, tb, _, rfl, .inr (sqT hb), _, rfl, wd, _, _, _, rfl, rfl, sqT hw, at2, tc, _, rfl, .inr (sqT hc), _, _, rfl, rfl, q⟩
end
section
variable {P : Program} {w : World} {K : PySem.W.Frag} {mg : Str → Option Value} {base : Heap} {a : Adr} {d : Fds}
theorem zfr (T : Txt K mg a d) : FnOk P w K mg base CX0 1 a.f_tie_at d.f_tie_at ["wood", "t"] zrm := by
 refine T.K_tie_at.ok sc_tie_at (fun vs H Q E h => ?_) (fun cdv A outer s H vs Q E hr h => ?_)
 ·obtain ⟨wd, many, xs, ys, t, v, rfl, _⟩ := h
  rfl
 obtain ⟨wd, many, xs, ys, t, v, rfl, ⟨tb, tc, hw, hb, hc⟩, hv, q⟩ := h
 refine ⟨_, (zae (za1 (i := 2) sc_tie_at.nd rfl (Or.inl rfl) (zap (ixT (K := K)) (pv 0) zad (fun _ _ => rfl)))
   (zae (za9 (zat zmb (pv 1) (zaz (zfx (K := K)) rfl T.m_len PySem.boot_len (zaa (pv 2) zac)) (zas _)) (zai (zam (zap (ixT (K := K)) (pv 2) (pv 1) (fun _ _ => rfl)))) zau)
   (zai (zam (zap (ixT (K := K)) (zap (ixT (K := K)) (pv 0) zad (fun _ _ => rfl)) (za2 zex (pv 1) (zaz (zfx (K := K)) rfl T.m_len PySem.boot_len (zaa (pv 2) zac))) (fun _ _ => rfl)))))), ?_⟩
 refine ⟨_, rfl, wd, _, _, _, rfl, rfl, sqT hw, at1, ?_⟩
 refine ⟨_, rfl, _, rfl, tb, _, rfl, .inr (sqT hb), _, _, rfl, rfl, _, rfl, ?_⟩
 refine zcs (fun c => ?_) (fun c => ?_)
 ·have c' : (t : Int) < (xs.length : Nat) := of_decide_eq_true c
  rw [List.getElem?_append_left (by omega)] at hv
  exact ⟨_, rfl, _, rfl, tb, _, _, _, rfl, rfl, sqT hb, zdz hv, q⟩
 ·have c' : ¬ (t : Int) < (xs.length : Nat) := of_decide_eq_false (Bool.eq_false_iff.mpr c)
  rw [List.getElem?_append_right (by omega)] at hv
  have e : ((t : Int) - ((xs.length : Nat) : Int)) = ((t - xs.length : Nat) : Int) := by omega
  refine ⟨_, rfl, wd, _, _, _, rfl, rfl, sqT hw, at2, _, rfl, _, rfl, tb, _, rfl, .inr (sqT hb), _, _, rfl, rfl, tc, _, _, _, rfl, rfl, sqT hc, ?_, q⟩
  show atI ys ((t : Int) - ((xs.length : Nat) : Int)) = some v
  rw [e]
  exact zdz hv
end
section
variable {P : Program} {w : World} {K : PySem.W.Frag} {mg : Str → Option Value} {base : Heap} {a : Adr} {d : Fds}
def zr5 : Sp := fun vs H Q _ => ∃ (p : Addr) (ks : List Nat) (n : Nat), vs = [.ref p, .int n] ∧ H p = some (.tup (ks.map fun k : Nat => V.int (k : Int))) ∧ ks.length ≤ 1000 ∧ ∀ H', Same H H' → Q (.int (cnt ks n : Nat)) H'
theorem zfb (T : Txt K mg a d) : FnOk P w K mg base CX0 2 a.f_count_in d.f_count_in ["kids", "some"] zr5 := by
 have G_has := zds (P := P) (w := w) (base := base) T
 refine T.K_count_in.ok zl1 (fun vs H Q E h => ?_) (fun cdv A outer s H vs Q E hr h => ?_)
 ·obtain ⟨p, ks, n, rfl, _⟩ := h
  rfl
 obtain ⟨p, ks, n, rfl, hp, hk, q⟩ := h
 refine ⟨_, (zai (zam (zaz (zfx (K := K)) rfl T.m_len PySem.boot_len (zaa (zi3 (sc0 := zab zch) (XN := ["kids", "some"]) (N' := ["k", "some"]) (n := 1) (kp := [1]) rfl (piT (K := K) (pv 0)) rfl rfl (by decide +kernel) (fun _ _ _ _ _ => (za6 (i := 0) (by show List.Nodup (["k", "some"] : List Str); decide +kernel) rfl (Or.inl rfl))) (fun _ _ _ _ _ => (zd0 (zb8 (zag G_has hr.lv rfl T.g_has T.K_has.kp T.B_has .nil zal (zaa (pv 1) (zaa (pv 0) zac)))))) (fun _ _ _ _ _ => (pv 0))) zac)))), ?_⟩
 refine ⟨_, rfl, p, rfl, ⟨_, sqT hp⟩, ?_⟩
 refine zkz (K := K) (a := p) (xs := ks.map fun k : Nat => V.int (k : Int)) (fun i ys σ H2 => (∃ v, σ = [v, some (.int n)]) ∧ H2 = H ∧ i ≤ ks.length ∧ ys = ((ks.take i).filter fun k => n.testBit k).map fun k : Nat => V.int (k : Int)) ⟨⟨none, rfl⟩, rfl, Nat.zero_le _, rfl⟩ (fun i ys σ H2 hi pv => ?_) (fun i ys σ H2 hi pv => ?_) (fun i x ys σ H2 hx pv => ?_) (fun ys σ H2 pv l hl => ?_)
 ·obtain ⟨_, _, h1, rfl⟩ := pv
  rw [List.length_map]
  refine small (Nat.le_trans (List.length_filter_le _ _) ?_)
  rw [List.length_take]
  omega
 ·rw [pv.2.1]
  exact sqT hp
 ·obtain ⟨⟨v, rfl⟩, rfl, h1, rfl⟩ := pv
  rw [List.getElem?_map] at hx
  obtain ⟨k, hk', rfl⟩ := Option.map_eq_some_iff.mp hx
  have hj : i < ks.length := (List.getElem?_eq_some_iff.mp hk').1
  have ee := PySem.take_succ_filter (fun k => n.testBit k) ks i k hk'
  refine ⟨_, rfl, _, rfl, _, _, rfl, _, rfl, ?_⟩
  rw [zba]
  refine zcs (fun c => ?_) (fun c => ?_)
  ·refine ⟨_, rfl, ⟨_, rfl⟩, rfl, hj, ?_⟩
   rw [ee, if_pos c, List.map_append]
   rfl
  ·refine ⟨⟨_, rfl⟩, rfl, hj, ?_⟩
   rw [ee, if_neg c, List.append_nil]
 ·obtain ⟨_, rfl, _, rfl⟩ := pv
  have fin : ∀ L : List V, L.length = cnt ks n → ∀ H', Same H2 H' → Q (.int (L.length : Nat)) H' := fun L e H' sm => by
   rw [e]
   exact q H' sm
  exact ⟨l, _, rfl, .inl (SqL.of zaf), fin _ (by simp [cnt]) _ (zak hl _)⟩
end
section
variable {P : Program} {w : World} {K : PySem.W.Frag} {mg : Str → Option Value} {base : Heap} {a : Adr} {d : Fds}
def zqu : Sp := fun vs H Q _ => ∃ (u : Nat) (lo hi : Int) (ks : List Nat) (n : Nat) (v : V), vs = [v, .int n] ∧ Dn H (Tie.bough u lo hi ks).toD v ∧ ks.length ≤ 1000 ∧ ∀ H', Same H H' → Q (.bl ((Tie.bough u lo hi ks).keep n)) H'
theorem zil (T : Txt K mg a d) : FnOk P w K mg base CX0 3 a.f_keeps_bough d.f_keeps_bough ["bough", "some"] zqu := by
 have G_has := zds (P := P) (w := w) (base := base) T
 have G_count_in := zfb (P := P) (w := w) (base := base) T
 refine T.K_keeps_bough.ok sc_keeps_bough (fun vs H Q E h => ?_) (fun cdv A outer s H vs Q E hr h => ?_)
 ·obtain ⟨u, lo, hi, ks, n, v, rfl, _⟩ := h
  rfl
 obtain ⟨u, lo, hi, ks, n, v, rfl, hd, hk, q⟩ := h
 obtain ⟨p, pk, rfl, hp, hpk⟩ := zdw hd
 refine ⟨_, (zae (za1 (i := 2) sc_keeps_bough.nd rfl (Or.inl rfl) (zag G_count_in hr.lv rfl T.g_count_in T.K_count_in.kp T.B_count_in .nil zal (zaa (zap (ixT (K := K)) (pv 0) zad (fun _ _ => rfl)) (zaa (pv 1) zac))))
   (zae (za9 (zb8 (zag G_has hr.lv rfl T.g_has T.K_has.kp T.B_has .nil zal (zaa (pv 1) (zaa (zap (ixT (K := K)) (pv 0) zad (fun _ _ => rfl)) zac)))) (zai (zam (zlo zgv zgv (zap (ixT (K := K)) (pv 0) zad (fun _ _ => rfl)) (pv 2) (zap (ixT (K := K)) (pv 0) zad (fun _ _ => rfl))))) zau)
   (zai (zam (zck zby (pv 2) zad (zas _)))))), ?_⟩
 refine ⟨_, rfl, p, _, _, _, rfl, rfl, sqT hp, at3, _, rfl, pk, ks, n, rfl, hpk, hk, fun H1 s1 => ?_⟩
 have hp1 := s1 _ _ hp
 have q1 := q H1 s1
 refine ⟨_, rfl, _, rfl, p, _, _, _, rfl, rfl, sqT hp1, at0, _, _, rfl, _, rfl, ?_⟩
 rw [zba]
 refine zcs (fun c => ?_) (fun c => ?_)
 ·rw [zr1 c] at q1
  refine ⟨_, rfl, p, _, _, _, rfl, rfl, sqT hp1, at1, _, rfl, _, _, rfl, rfl, _, rfl, ?_⟩
  refine zcs (fun c2 => ?_) (fun c2 => ?_)
  ·refine ⟨_, rfl, p, _, _, _, rfl, rfl, sqT hp1, at2, _, _, rfl, rfl, ?_⟩
   rw [c2, Bool.true_and] at q1
   exact q1
  ·rw [Bool.eq_false_iff.mpr c2, Bool.false_and] at q1
   exact q1
 ·rw [zrn c] at q1
  refine ⟨_, rfl, rfl, ?_⟩
  have e : decide (V.int (cnt ks n : Nat) = V.int 0) = decide (cnt ks n = 0) := by
   rw [zfk]
   by_cases z : cnt ks n = 0
   ·rw [z]; rfl
   ·rw [decide_eq_false z]
    simpa using z
  show Q (.bl (decide (V.int (cnt ks n : Nat) = V.int 0))) H1
  rw [e]
  exact q1
end
section
variable {P : Program} {w : World} {K : PySem.W.Frag} {mg : Str → Option Value} {base : Heap} {a : Adr} {d : Fds}
theorem zp3 (T : Txt K mg a d) : FnOk P w K mg base CX0 4 a.f_keeps d.f_keeps ["tie", "some"] zsb := by
 have G_has := zds (P := P) (w := w) (base := base) T
 have G_keeps_bough := zil (P := P) (w := w) (base := base) T
 refine T.K_keeps.ok zps (fun vs H Q E h => ?_) (fun cdv A outer s H vs Q E hr h => ?_)
 ·obtain ⟨t, m, n, v, rfl, _⟩ := h
  rfl
 obtain ⟨t, m, n, v, rfl, hd, ok, hm, q⟩ := h
 have q0 := q H (Same.refl H)
 refine ⟨_, (zae (za9 (zat zby (zap (ixT (K := K)) (pv 0) zad (fun _ _ => rfl)) za0 (zas _)) (zai (zam (zjz (zf7 (zag G_has hr.lv rfl T.g_has T.K_has.kp T.B_has .nil zal (zaa (pv 1) (zaa (zap (ixT (K := K)) (pv 0) zad (fun _ _ => rfl)) zac)))) (zcr (zag G_has hr.lv rfl T.g_has T.K_has.kp T.B_has .nil zal (zaa (pv 1) (zaa (zap (ixT (K := K)) (pv 0) zad (fun _ _ => rfl)) zac))))))) zau)
   (zae (za9 (zat zby (zap (ixT (K := K)) (pv 0) zad (fun _ _ => rfl)) za0 (zas _)) (zai (zam (zjz (zf7 (zag G_has hr.lv rfl T.g_has T.K_has.kp T.B_has .nil zal (zaa (pv 1) (zaa (zap (ixT (K := K)) (pv 0) zad (fun _ _ => rfl)) zac)))) (zcr (zf7 (zag G_has hr.lv rfl T.g_has T.K_has.kp T.B_has .nil zal (zaa (pv 1) (zaa (zap (ixT (K := K)) (pv 0) zad (fun _ _ => rfl)) zac)))))))) zau)
   (zae (za9 (zat zby (zap (ixT (K := K)) (pv 0) zad (fun _ _ => rfl)) za0 (zas _)) (zai (zam (zck zgv (zaz (zda rfl) rfl T.m_sum PyProof.Rows.boot_sum (zaa (zi3 (sc0 := zab zc9) (XN := ["tie", "some"]) (N' := ["k", "number", "some"]) (n := 2) (kp := [1]) rfl (piT (K := K) (zap (ixT (K := K)) (pv 0) zad (fun _ _ => rfl))) rfl rfl (by decide +kernel) (fun _ _ _ _ _ => (pgT (K := K) (n := 2) rfl (zbk (za6 (i := 0) (by show List.Nodup (["k", "number", "some"] : List Str); decide +kernel) rfl (Or.inl rfl)) (zbk (za6 (i := 1) (by show List.Nodup (["k", "number", "some"] : List Str); decide +kernel) rfl (Or.inl rfl)) zdl)))) (fun _ _ _ _ _ => (zd0 (zb8 (zag G_has hr.lv rfl T.g_has T.K_has.kp T.B_has .nil zal (zaa (pv 2) (zaa (pv 0) zac)))))) (fun _ _ _ _ _ => (pv 1))) zac)) (zap (ixT (K := K)) (pv 0) zad (fun _ _ => rfl)) (zas _)))) zau)
   (zai (zam (zag G_keeps_bough hr.lv rfl T.g_keeps_bough T.K_keeps_bough.kp T.B_keeps_bough .nil zal (zaa (pv 0) (zaa (pv 1) zac)))))))), ?_⟩
 cases t with
 | needs x y =>
  obtain ⟨p, rfl, hp⟩ := zfp hd
  refine ⟨_, rfl, p, _, _, _, rfl, rfl, sqT hp, at0, rfl, _, rfl, ?_⟩
  refine zdq rfl ?_
  refine ⟨_, rfl, _, rfl, p, _, _, _, rfl, rfl, sqT hp, at1, _, _, rfl, _, rfl, _, rfl, ?_⟩
  rw [zba]
  have q1 : Q (.bl (!n.testBit x || n.testBit y)) H := q0
  refine zcs (fun c => ?_) (fun c => ?_)
  ·rw [c, Bool.true_or] at q1
   exact q1
  ·refine ⟨_, rfl, _, rfl, p, _, _, _, rfl, rfl, sqT hp, at2, _, _, rfl, ?_⟩
   rw [zba]
   rw [Bool.eq_false_iff.mpr c, Bool.false_or] at q1
   exact q1
 | bans x y =>
  obtain ⟨p, rfl, hp⟩ := zfp hd
  refine ⟨_, rfl, p, _, _, _, rfl, rfl, sqT hp, at0, rfl, _, rfl, ?_⟩
  refine zb1 zf4 ?_
  refine ⟨_, rfl, p, _, _, _, rfl, rfl, sqT hp, at0, rfl, _, rfl, ?_⟩
  refine zdq rfl ?_
  refine ⟨_, rfl, _, rfl, p, _, _, _, rfl, rfl, sqT hp, at1, _, _, rfl, _, rfl, _, rfl, ?_⟩
  rw [zba]
  have q1 : Q (.bl (!n.testBit x || !n.testBit y)) H := q0
  refine zcs (fun c => ?_) (fun c => ?_)
  ·rw [c, Bool.true_or] at q1
   exact q1
  ·refine ⟨_, rfl, _, rfl, p, _, _, _, rfl, rfl, sqT hp, at2, _, _, rfl, _, rfl, ?_⟩
   rw [zba]
   rw [Bool.eq_false_iff.mpr c, Bool.false_or] at q1
   exact q1
 | most top ps =>
  obtain ⟨p, pq, xs, rfl, hp, hq, hps⟩ := zkk hd
  have lx : xs.length = ps.length := by rw [← hps.length, List.length_map]
  have few : ps.length ≤ m := ok.2.2.2
  refine ⟨_, rfl, p, _, _, _, rfl, rfl, sqT hp, at0, rfl, _, rfl, ?_⟩
  refine zb1 zf6 ?_
  refine ⟨_, rfl, p, _, _, _, rfl, rfl, sqT hp, at0, rfl, _, rfl, ?_⟩
  refine zb1 zhg ?_
  refine ⟨_, rfl, p, _, _, _, rfl, rfl, sqT hp, at0, rfl, _, rfl, ?_⟩
  refine zdq rfl ?_
  refine ⟨_, rfl, p, _, _, _, rfl, rfl, sqT hp, at2, pq, rfl, ⟨_, sqT hq⟩, ?_⟩
  refine zkz (K := K) (a := pq) (xs := xs) (fun i ys σ H2 => (∃ v v', σ = [v, v', some (.int n)]) ∧ H2 = H ∧ i ≤ ps.length ∧ ys = (((ps.take i).filter fun p => n.testBit p.1).map (·.2)).map V.int) ⟨⟨none, none, rfl⟩, rfl, Nat.zero_le _, rfl⟩ (fun i ys σ H2 hi pv => ?_) (fun i ys σ H2 hi pv => ?_) (fun i x ys σ H2 hx pv => ?_) (fun ys σ H2 pv l hl => ?_)
  ·obtain ⟨_, _, h1, rfl⟩ := pv
   rw [List.length_map, List.length_map]
   refine small (Nat.le_trans (List.length_filter_le _ _) ?_)
   rw [List.length_take]
   omega
  ·rw [pv.2.1]
   exact sqT hq
  ·obtain ⟨⟨v, v', rfl⟩, rfl, h1, rfl⟩ := pv
   obtain ⟨pr, r, hpr, rfl, hr'⟩ := zke hps hx
   have hj : i < ps.length := (List.getElem?_eq_some_iff.mp hpr).1
   have ee := PySem.take_succ_filter (fun p : Nat × Int => n.testBit p.1) ps i pr hpr
   refine ⟨r, _, rfl, sqT hr', rfl, _, _, rfl, _, _, rfl, rfl, ?_⟩
   refine ⟨_, rfl, _, rfl, _, _, rfl, _, rfl, ?_⟩
   rw [zba]
   refine zcs (fun c => ?_) (fun c => ?_)
   ·refine ⟨_, rfl, ⟨_, _, rfl⟩, rfl, hj, ?_⟩
    rw [ee, if_pos c, List.map_append, List.map_append]
    rfl
   ·refine ⟨⟨_, _, rfl⟩, rfl, hj, ?_⟩
    rw [ee, if_neg c, List.append_nil]
  ·obtain ⟨_, rfl, _, rfl⟩ := pv
   have sm := zak hl (.lst ((((ps.take xs.length).filter fun p => n.testBit p.1).map (·.2)).map V.int))
   refine ⟨l, _, rfl, SqL.of zaf, _, rfl, p, _, _, _, rfl, rfl, sqT (sm _ _ hp), at1, _, _, rfl, rfl, ?_⟩
   have q1 := q _ sm
   have e : (Tie.most top ps).keep n = decide ((((ps.take xs.length).filter fun p => n.testBit p.1).map (·.2)).sum ≤ top) := by
    rw [lx, List.take_length]
    rfl
   rw [e] at q1
   exact q1
 | bough u lo hi ks =>
  obtain ⟨p, pk, e, hp, hpk⟩ := zdw hd
  have ok' : Tie.BoughOk m u lo hi ks := ok
  have few := ok'.few
  subst e
  refine ⟨_, rfl, p, _, _, _, rfl, rfl, sqT hp, at0, rfl, _, rfl, ?_⟩
  refine zb1 int_str ?_
  refine ⟨_, rfl, p, _, _, _, rfl, rfl, sqT hp, at0, rfl, _, rfl, ?_⟩
  refine zb1 int_str ?_
  refine ⟨_, rfl, p, _, _, _, rfl, rfl, sqT hp, at0, rfl, _, rfl, ?_⟩
  refine zb1 int_str ?_
  exact ⟨_, rfl, _, rfl, u, lo, hi, ks, n, _, rfl, hd, by omega, q⟩
end
section
variable {P : Program} {w : World} {K : PySem.W.Frag} {mg : Str → Option Value} {base : Heap} {a : Adr} {d : Fds}
theorem zdp (T : Txt K mg a d) : FnOk P w K mg base CX0 2 a.f_every_tie d.f_every_tie ["wood"] zq3 := by
 have G_many_ties := zg0 (P := P) (w := w) (base := base) T
 refine T.K_every_tie.ok zj5 (fun vs H Q E h => ?_) (fun cdv A outer s H vs Q E hr h => ?_)
 ·obtain ⟨wd, m, ts, rfl, _⟩ := h
  rfl
 obtain ⟨wd, m, ts, rfl, W, q⟩ := h
 have p62 : (2 : Int) ^ 62 = 4611686018427387904 := by decide
 obtain ⟨xs, ys, WA, dn⟩ := W.ex
 have few := W.few
 have ln : ts.length = xs.length + ys.length := by
  have := dn.length
  rw [List.length_map, List.length_append] at this
  exact this
 refine ⟨_, (zai (zam (zcw (zjg rfl) rfl T.m_list PyProof.Rows.boot_list (zaa (zcw zpc rfl T.m_range PyProof.Rows.boot_range (zaa (zag G_many_ties hr.lv rfl T.g_many_ties T.K_many_ties.kp T.B_many_ties .nil zal (zaa (pv 0) zac)) zac)) zac)))), ?_⟩
 refine ⟨_, rfl, wd, m, xs, ys, rfl, WA, _, rfl, fun rp hrp => ?_⟩
 refine ⟨rp, 0, _, rfl, zaf, by rw [p62]; omega, by rw [p62]; omega, by rw [p62]; omega, by rw [p62]; omega, by omega, fun l hl => ?_⟩
 have e : ((List.range' 0 ((xs.length : Int) + (ys.length : Int) - 0).toNat).map fun i : Nat => V.int (0 + (i : Int))) = (List.range ts.length).map fun i : Nat => V.int (i : Int) := by
  have e1 : ((xs.length : Int) + (ys.length : Int) - 0).toNat = ts.length := by omega
  rw [e1, List.range_eq_range']
  simp
 rw [e]
 have s1 := (zak hrp (.rng 0 ((xs.length : Int) + (ys.length : Int)))).trans (zak hl (.lst ((List.range ts.length).map fun i : Nat => V.int (i : Int))))
 exact q l _ s1 ((zak hrp (.rng 0 ((xs.length : Int) + (ys.length : Int)))).free hl) zaf
end
section
variable {P : Program} {w : World} {K : PySem.W.Frag} {mg : Str → Option Value} {base : Heap} {a : Adr} {d : Fds}
theorem zh1 (T : Txt K mg a d) : FnOk P w K mg base CX0 5 a.f_first_broken d.f_first_broken ["wood", "some"] zqp := by
 have G_every_tie := zdp (P := P) (w := w) (base := base) T
 have G_tie_at := zfr (P := P) (w := w) (base := base) T
 have G_keeps := zp3 (P := P) (w := w) (base := base) T
 refine T.K_first_broken.ok sc_first_broken (fun vs H Q E h => ?_) (fun cdv A outer s H vs Q E hr h => ?_)
 ·obtain ⟨wd, m, ts, n, rfl, _⟩ := h
  rfl
 obtain ⟨wd, m, ts, n, rfl, W, q⟩ := h
 have m9 := W.m9
 refine ⟨_, (zae (zg7 PassesOwn.never rfl (piL (K := K) (zag G_every_tie hr.lv rfl T.g_every_tie T.K_every_tie.kp T.B_every_tie .nil zal (zaa (pv 0) zac))) (za6 (i := 2) sc_first_broken.nd rfl (Or.inl rfl)) (zai (za9 (zem (zb8 (zag G_keeps hr.lv rfl T.g_keeps T.K_keeps.kp T.B_keeps .nil zal (zaa (zag G_tie_at hr.lv rfl T.g_tie_at T.K_tie_at.kp T.B_tie_at .nil zal (zaa (pv 0) (zaa (pv 2) zac))) (zaa (pv 1) zac))))) (zai (zam (pv 2))) zau)))
   (zai (zam zeu))), ?_⟩
 refine ⟨_, rfl, wd, m, ts, rfl, W, fun l H1 s1 n1 e1 => ?_⟩
 refine ⟨l, rfl, ⟨_, SqL.of e1⟩, ?_⟩
 refine zgs (K := K) (a := l) (xs := (List.range ts.length).map fun i : Nat => V.int (i : Int)) (fun i σ H2 => (∃ v, σ = [some (.ref wd), some (.int n), v]) ∧ Same H1 H2 ∧ ∀ j x, j < i → ts[j]? = some x → x.keep n = true) ⟨⟨_, rfl⟩, Same.refl _, fun j x hj => absurd hj (Nat.not_lt_zero j)⟩ (fun i σ H2 _ z => SqL.of (z.2.1 _ _ e1)) ?_ ?_
 ·rintro i x σ H2 hx ⟨⟨v, rfl⟩, s2, hb⟩
  obtain ⟨hi, rfl⟩ := zor hx
  have W2 := W.same (s1.trans s2)
  obtain ⟨xs, ys, WA, dn⟩ := W2.ex
  have ht : ts[i]? = some ts[i] := List.getElem?_eq_getElem hi
  obtain ⟨v2, hv2, hd⟩ := DnL.get' dn (i := i) (d := ts[i].toD) (by rw [List.getElem?_map, ht]; rfl)
  refine ⟨_, rfl, _, rfl, wd, m, xs, ys, i, v2, rfl, WA, hv2, ?_⟩
  refine ⟨_, rfl, ts[i], m, n, v2, rfl, hd, W.ok _ (List.getElem_mem hi), by omega, fun H3 s3 => ?_⟩
  refine ⟨_, rfl, ?_⟩
  refine zcs (fun c => ?_) (fun c => ?_)
  ·have c' : (ts[i]).keep n = false := by simpa using c
   have q1 := q H3 ((s1.trans s2).trans s3)
   rw [zlt ht c' hb] at q1
   exact ⟨_, rfl, q1⟩
  ·have c' : (ts[i]).keep n = true := by simpa using c
   refine ⟨⟨_, rfl⟩, s2.trans s3, fun j x hj hx2 => ?_⟩
   by_cases e : j = i
   ·subst e
    rw [ht] at hx2
    cases hx2
    exact c'
   ·exact hb j x (by omega) hx2
 ·rintro σ H2 ⟨⟨v, rfl⟩, s2, hb⟩
  have q1 := q H2 (s1.trans s2)
  rw [List.length_map, List.length_range] at hb
  rw [zmf hb] at q1
  exact q1
end
section
variable {P : Program} {w : World} {K : PySem.W.Frag} {mg : Str → Option Value} {base : Heap} {a : Adr} {d : Fds}
theorem znf (T : Txt K mg a d) : FnOk P w K mg base CX0 6 a.f_is_ware d.f_is_ware ["wood", "some"] zrw := by
 have G_has := zds (P := P) (w := w) (base := base) T
 have G_first_broken := zh1 (P := P) (w := w) (base := base) T
 refine T.K_is_ware.ok zmq (fun vs H Q E h => ?_) (fun cdv A outer s H vs Q E hr h => ?_)
 ·obtain ⟨wd, m, ts, n, rfl, _⟩ := h
  rfl
 obtain ⟨wd, m, ts, n, rfl, W, q⟩ := h
 refine ⟨_, (zai (zam (zc7 (zag G_has hr.lv rfl T.g_has T.K_has.kp T.B_has .nil zal (zaa (pv 1) (zaa zad zac))) (zcr (zck zqg (zag G_first_broken hr.lv rfl T.g_first_broken T.K_first_broken.kp T.B_first_broken .nil zal (zaa (pv 0) (zaa (pv 1) zac))) zeu (zas _)))))), ?_⟩
 refine ⟨_, rfl, _, _, rfl, _, rfl, ?_⟩
 have e0 : zl0 (n : Int) 0 = n.testBit 0 := zba n 0
 rw [e0]
 refine zcs (fun c => ?_) (fun c => ?_)
 ·refine ⟨_, rfl, _, rfl, wd, m, ts, n, rfl, W, fun H1 s1 => ?_⟩
  have q1 := q H1 s1
  rw [zhr, c, Bool.true_and, ← zqz] at q1
  exact ⟨rfl, q1⟩
 ·have q1 := q H (Same.refl H)
  rw [zhr, Bool.eq_false_iff.mpr c, Bool.false_and] at q1
  exact q1
end
section
variable {P : Program} {w : World} {K : PySem.W.Frag} {mg : Str → Option Value} {base : Heap} {a : Adr} {d : Fds}
theorem zfg (T : Txt K mg a d) : FnOk P w K mg base CX0 3 a.f_sure_broken_bough d.f_sure_broken_bough ["bough", "yes", "no"] (zno Tie.sb) := by
 have G_has := zds (P := P) (w := w) (base := base) T
 have G_count_in := zfb (P := P) (w := w) (base := base) T
 refine T.K_sure_broken_bough.ok sc_sure_broken_bough (fun vs H Q E h => ?_) (fun cdv A outer s H vs Q E hr h => ?_)
 ·obtain ⟨u, lo, hi, ks, m, y, n, v, rfl, _⟩ := h
  rfl
 obtain ⟨u, lo, hi, ks, m, y, n, v, rfl, hd, ok, hm, q⟩ := h
 obtain ⟨p, pk, rfl, hp, hpk⟩ := zdw hd
 have few := ok.few
 have rest4 : ∃ t, PSs (zcj CX0 P w K mg base ["bough", "yes", "no", "least", "greatest", "some_with_up", "some_without_up"] "sure_broken_bough" (zab zar) a.f_sure_broken_bough cdv A outer s H E).nox ((zah zar).drop 4) t ∧ ∀ (v3 v4 : Option V) (b5 b6 : Bool) (H1 : Hp), Same H H1 → (!b5 && !b6) = (Tie.bough u lo hi ks).sb y n → t { nx := fun _ H' => Q .non H', rt := Q } [some (.ref p), some (.int y), some (.int n), v3, v4, some (.bl b5), some (.bl b6)] H1 := by
  refine ⟨_, (zai (zam (zc7 (zf7 (pv 5)) (zcr (zf7 (pv 6)))))), ?_⟩
  intro v3 v4 b5 b6 H1 s1 e
  have q1 := q H1 s1
  rw [← e] at q1
  refine ⟨_, rfl, _, rfl, _, rfl, ?_⟩
  refine zcs (fun c => ?_) (fun c => ?_)
  ·rw [c, Bool.true_and] at q1
   exact ⟨_, rfl, _, rfl, q1⟩
  ·rw [Bool.eq_false_iff.mpr c, Bool.false_and] at q1
   exact q1
 obtain ⟨t4, h4, r4⟩ := rest4
 have rest3 : ∃ t, PSs (zcj CX0 P w K mg base ["bough", "yes", "no", "least", "greatest", "some_with_up", "some_without_up"] "sure_broken_bough" (zab zar) a.f_sure_broken_bough cdv A outer s H E).nox ((zah zar).drop 3) t ∧ ∀ (g : Int) (b5 : Bool) (H1 : Hp), Same H H1 → g = (ks.length : Int) - cnt ks n → b5 = (!n.testBit u && (decide ((cnt ks y : Int) ≤ hi) && decide (lo ≤ g))) → t { nx := fun _ H' => Q .non H', rt := Q } [some (.ref p), some (.int y), some (.int n), some (.int (cnt ks y : Nat)), some (.int g), some (.bl b5), none] H1 := by
  refine ⟨_, (zae (za1 (i := 6) sc_sure_broken_bough.nd rfl (Or.inl rfl) (zc7 (zf7 (zag G_has hr.lv rfl T.g_has T.K_has.kp T.B_has .nil zal (zaa (pv 1) (zaa (zap (ixT (K := K)) (pv 0) zad (fun _ _ => rfl)) zac)))) (zcr (zck zby (pv 3) zad (zas _)))))
   h4), ?_⟩
  intro g b5 H1 s1 eg e5
  have hp1 := s1 _ _ hp
  refine ⟨_, rfl, _, rfl, p, _, _, _, rfl, rfl, sqT hp1, at0, _, _, rfl, _, rfl, _, rfl, ?_⟩
  rw [zba]
  refine zcs (fun c => ?_) (fun c => ?_)
  ·refine ⟨_, rfl, rfl, ?_⟩
   refine r4 _ _ _ _ _ s1 ?_
   rw [e5, eg, zlb]
   show _ = (!_ && !(!y.testBit u && decide (cnt ks y = 0)))
   rw [c, Bool.true_and]
  ·refine r4 _ _ _ _ _ s1 ?_
   rw [e5, eg]
   show _ = (!_ && !(!y.testBit u && decide (cnt ks y = 0)))
   rw [Bool.eq_false_iff.mpr c, Bool.false_and]
 obtain ⟨t3, h3, r3⟩ := rest3
 have rest2 : ∃ t, PSs (zcj CX0 P w K mg base ["bough", "yes", "no", "least", "greatest", "some_with_up", "some_without_up"] "sure_broken_bough" (zab zar) a.f_sure_broken_bough cdv A outer s H E).nox ((zah zar).drop 2) t ∧ ∀ (g : Int) (H1 : Hp), Same H H1 → g = (ks.length : Int) - cnt ks n → t { nx := fun _ H' => Q .non H', rt := Q } [some (.ref p), some (.int y), some (.int n), some (.int (cnt ks y : Nat)), some (.int g), none, none] H1 := by
  refine ⟨_, (zae (za1 (i := 5) sc_sure_broken_bough.nd rfl (Or.inl rfl) (zc7 (zf7 (zag G_has hr.lv rfl T.g_has T.K_has.kp T.B_has .nil zal (zaa (pv 2) (zaa (zap (ixT (K := K)) (pv 0) zad (fun _ _ => rfl)) zac)))) (zc7 (zck zgv (pv 3) (zap (ixT (K := K)) (pv 0) zad (fun _ _ => rfl)) (zas _)) (zcr (zck zgv (zap (ixT (K := K)) (pv 0) zad (fun _ _ => rfl)) (pv 4) (zas _))))))
   h3), ?_⟩
  intro g H1 s1 eg
  have hp1 := s1 _ _ hp
  refine ⟨_, rfl, _, rfl, p, _, _, _, rfl, rfl, sqT hp1, at0, _, _, rfl, _, rfl, _, rfl, ?_⟩
  rw [zba]
  refine zcs (fun c => ?_) (fun c => ?_)
  ·refine ⟨_, rfl, _, rfl, p, _, _, _, rfl, rfl, sqT hp1, at2, _, _, rfl, rfl, _, rfl, ?_⟩
   refine zcs (fun c2 => ?_) (fun c2 => ?_)
   ·refine ⟨_, rfl, p, _, _, _, rfl, rfl, sqT hp1, at1, _, rfl, _, _, rfl, rfl, ?_⟩
    exact r3 _ _ _ s1 eg (by rw [c, Bool.true_and, c2, Bool.true_and])
   ·exact r3 _ _ _ s1 eg (by rw [c, Bool.true_and, Bool.eq_false_iff.mpr c2, Bool.false_and])
  ·exact r3 _ _ _ s1 eg (by rw [Bool.eq_false_iff.mpr c, Bool.false_and])
 obtain ⟨t2, h2, r2⟩ := rest2
 refine ⟨_, (zae (za1 (i := 3) sc_sure_broken_bough.nd rfl (Or.inl rfl) (zag G_count_in hr.lv rfl T.g_count_in T.K_count_in.kp T.B_count_in .nil zal (zaa (zap (ixT (K := K)) (pv 0) zad (fun _ _ => rfl)) (zaa (pv 1) zac))))
   (zae (za1 (i := 4) sc_sure_broken_bough.nd rfl (Or.inl rfl) (za2 zex (zaz (zfx (K := K)) rfl T.m_len PySem.boot_len (zaa (zap (ixT (K := K)) (pv 0) zad (fun _ _ => rfl)) zac)) (zag G_count_in hr.lv rfl T.g_count_in T.K_count_in.kp T.B_count_in .nil zal (zaa (zap (ixT (K := K)) (pv 0) zad (fun _ _ => rfl)) (zaa (pv 2) zac)))))
   h2)), ?_⟩
 refine ⟨_, rfl, p, _, _, _, rfl, rfl, sqT hp, at3, _, rfl, pk, ks, y, rfl, hpk, by omega, fun H1 s1 => ?_⟩
 have hp1 := s1 _ _ hp
 have hpk1 := s1 _ _ hpk
 refine ⟨_, rfl, p, _, _, _, rfl, rfl, sqT hp1, at3, pk, _, rfl, .inr (sqT hpk1), ?_⟩
 refine ⟨_, rfl, p, _, _, _, rfl, rfl, sqT hp1, at3, _, rfl, pk, ks, n, rfl, hpk1, by omega, fun H2 s2 => ?_⟩
 refine ⟨_, _, rfl, rfl, ?_⟩
 exact r2 _ _ (s1.trans s2) (by rw [List.length_map])
end
section
variable {P : Program} {w : World} {K : PySem.W.Frag} {mg : Str → Option Value} {base : Heap} {a : Adr} {d : Fds}
theorem zk2 (T : Txt K mg a d) : FnOk P w K mg base CX0 2 a.f_least_sum d.f_least_sum ["pairs", "yes", "no"] (zsj zea) := by
 have G_has := zds (P := P) (w := w) (base := base) T
 refine T.K_least_sum.ok zky (fun vs H Q E h => ?_) (fun cdv A outer s H vs Q E hr h => ?_)
 ·obtain ⟨pq, xs, ps, y, n, rfl, _⟩ := h
  rfl
 obtain ⟨pq, xs, ps, y, n, rfl, hq, hps, few, q⟩ := h
 have lx : xs.length = ps.length := by rw [← hps.length, List.length_map]
 refine ⟨_, (zai (zam (zaz (zda rfl) rfl T.m_sum PyProof.Rows.boot_sum (zaa (zi3 (sc0 := zab zb3) (XN := ["pairs", "yes", "no"]) (N' := ["k", "number", "yes", "no"]) (n := 2) (kp := [1, 2]) rfl (piT (K := K) (pv 0)) rfl rfl (by decide +kernel) (fun _ _ _ _ _ => (pgT (K := K) (n := 2) rfl (zbk (za6 (i := 0) (by show List.Nodup (["k", "number", "yes", "no"] : List Str); decide +kernel) rfl (Or.inl rfl)) (zbk (za6 (i := 1) (by show List.Nodup (["k", "number", "yes", "no"] : List Str); decide +kernel) rfl (Or.inl rfl)) zdl)))) (fun _ _ _ _ _ => (zd0 (PW.pt (zhp (zb8 (zag G_has hr.lv rfl T.g_has T.K_has.kp T.B_has .nil zal (zaa (pv 2) (zaa (pv 0) zac)))) (zha (PW.pt (ziq (zat zmb (pv 1) zad (zas _)) (zgz (zem (zb8 (zag G_has hr.lv rfl T.g_has T.K_has.kp T.B_has .nil zal (zaa (pv 3) (zaa (pv 0) zac))))))))))))) (fun _ _ _ _ _ => (pv 1))) zac)))), ?_⟩
 refine ⟨_, rfl, pq, rfl, ⟨_, sqT hq⟩, ?_⟩
 refine zkz (K := K) (a := pq) (xs := xs) (fun i ys σ H2 => (∃ v v', σ = [v, v', some (.int y), some (.int n)]) ∧ H2 = H ∧ i ≤ ps.length ∧ ys = (((ps.take i).filter fun p => y.testBit p.1 || (decide (p.2 < 0) && !n.testBit p.1)).map (·.2)).map V.int) ⟨⟨none, none, rfl⟩, rfl, Nat.zero_le _, rfl⟩ (fun i ys σ H2 hi pv => ?_) (fun i ys σ H2 hi pv => ?_) (fun i x ys σ H2 hx pv => ?_) (fun ys σ H2 pv l hl => ?_)
 ·obtain ⟨_, _, h1, rfl⟩ := pv
  rw [List.length_map, List.length_map]
  refine small (Nat.le_trans (List.length_filter_le _ _) ?_)
  rw [List.length_take]
  omega
 ·rw [pv.2.1]
  exact sqT hq
 ·obtain ⟨⟨v, v', rfl⟩, rfl, h1, rfl⟩ := pv
  obtain ⟨pr, r, hpr, rfl, hr'⟩ := zke hps hx
  have hj : i < ps.length := (List.getElem?_eq_some_iff.mp hpr).1
  have ee := PySem.take_succ_filter (fun p : Nat × Int => y.testBit p.1 || (decide (p.2 < 0) && !n.testBit p.1)) ps i pr hpr
  have yes : (y.testBit pr.1 || (decide (pr.2 < 0) && !n.testBit pr.1)) = true → ((((ps.take i).filter fun p => y.testBit p.1 || (decide (p.2 < 0) && !n.testBit p.1)).map (·.2)).map V.int) ++ [V.int pr.2] = (((ps.take (i + 1)).filter fun p => y.testBit p.1 || (decide (p.2 < 0) && !n.testBit p.1)).map (·.2)).map V.int := fun c => by
   rw [ee, if_pos c, List.map_append, List.map_append]
   rfl
  have noo : (y.testBit pr.1 || (decide (pr.2 < 0) && !n.testBit pr.1)) = false → ((((ps.take i).filter fun p => y.testBit p.1 || (decide (p.2 < 0) && !n.testBit p.1)).map (·.2)).map V.int) = (((ps.take (i + 1)).filter fun p => y.testBit p.1 || (decide (p.2 < 0) && !n.testBit p.1)).map (·.2)).map V.int := fun c => by
   rw [ee, if_neg (by rw [c]; exact Bool.false_ne_true), List.append_nil]
  refine ⟨r, _, rfl, sqT hr', rfl, _, _, rfl, _, _, rfl, rfl, ?_⟩
  refine ⟨_, rfl, _, rfl, _, _, rfl, _, rfl, ?_⟩
  rw [zba]
  refine zcs (fun c => ?_) (fun c => ?_)
  ·refine zoo ?_
   exact ⟨_, rfl, ⟨_, _, rfl⟩, rfl, hj, yes (by rw [c, Bool.true_or])⟩
  ·have c' := Bool.eq_false_iff.mpr c
   refine ⟨_, rfl, _, _, rfl, rfl, _, rfl, ?_⟩
   refine zcs (fun c2 => ?_) (fun c2 => ?_)
   ·refine ⟨_, rfl, _, rfl, _, _, rfl, _, rfl, ?_⟩
    rw [zba]
    refine zcs (fun c3 => ?_) (fun c3 => ?_)
    ·exact ⟨_, rfl, ⟨_, _, rfl⟩, rfl, hj, yes (by rw [c', Bool.false_or, c2, Bool.true_and, c3])⟩
    ·exact ⟨⟨_, _, rfl⟩, rfl, hj, noo (by rw [c', Bool.false_or, c2, Bool.true_and, Bool.eq_false_iff.mpr c3])⟩
   ·refine zee ?_
    exact ⟨⟨_, _, rfl⟩, rfl, hj, noo (by rw [c', Bool.false_or, Bool.eq_false_iff.mpr c2, Bool.false_and])⟩
 ·obtain ⟨_, rfl, _, rfl⟩ := pv
  refine ⟨l, _, rfl, SqL.of zaf, ?_⟩
  have q1 := q _ (zak hl (.lst ((((ps.take xs.length).filter fun p => y.testBit p.1 || (decide (p.2 < 0) && !n.testBit p.1)).map (·.2)).map V.int)))
  have e : zea ps y n = (((ps.take xs.length).filter fun p => y.testBit p.1 || (decide (p.2 < 0) && !n.testBit p.1)).map (·.2)).sum := by
   rw [lx, List.take_length]
   rfl
  rw [e] at q1
  exact q1
end
section
variable {P : Program} {w : World} {K : PySem.W.Frag} {mg : Str → Option Value} {base : Heap} {a : Adr} {d : Fds}
theorem ze9 (T : Txt K mg a d) : FnOk P w K mg base CX0 4 a.f_sure_broken d.f_sure_broken ["tie", "yes", "no"] (zp2 Tie.sb) := by
 have G_has := zds (P := P) (w := w) (base := base) T
 have G_least_sum := zk2 (P := P) (w := w) (base := base) T
 have G_sure_broken_bough := zfg (P := P) (w := w) (base := base) T
 refine T.K_sure_broken.ok zi7 (fun vs H Q E h => ?_) (fun cdv A outer s H vs Q E hr h => ?_)
 ·obtain ⟨t, m, y, n, v, rfl, _⟩ := h
  rfl
 obtain ⟨t, m, y, n, v, rfl, hd, ok, hm, q⟩ := h
 have q0 := q H (Same.refl H)
 refine ⟨_, (zae (za9 (zat zby (zap (ixT (K := K)) (pv 0) zad (fun _ _ => rfl)) za0 (zas _)) (zai (zam (zc7 (zag G_has hr.lv rfl T.g_has T.K_has.kp T.B_has .nil zal (zaa (pv 1) (zaa (zap (ixT (K := K)) (pv 0) zad (fun _ _ => rfl)) zac))) (zcr (zag G_has hr.lv rfl T.g_has T.K_has.kp T.B_has .nil zal (zaa (pv 2) (zaa (zap (ixT (K := K)) (pv 0) zad (fun _ _ => rfl)) zac))))))) zau)
   (zae (za9 (zat zby (zap (ixT (K := K)) (pv 0) zad (fun _ _ => rfl)) za0 (zas _)) (zai (zam (zc7 (zag G_has hr.lv rfl T.g_has T.K_has.kp T.B_has .nil zal (zaa (pv 1) (zaa (zap (ixT (K := K)) (pv 0) zad (fun _ _ => rfl)) zac))) (zcr (zag G_has hr.lv rfl T.g_has T.K_has.kp T.B_has .nil zal (zaa (pv 1) (zaa (zap (ixT (K := K)) (pv 0) zad (fun _ _ => rfl)) zac))))))) zau)
   (zae (za9 (zat zby (zap (ixT (K := K)) (pv 0) zad (fun _ _ => rfl)) za0 (zas _)) (zai (zam (zck zhm (zag G_least_sum hr.lv rfl T.g_least_sum T.K_least_sum.kp T.B_least_sum .nil zal (zaa (zap (ixT (K := K)) (pv 0) zad (fun _ _ => rfl)) (zaa (pv 1) (zaa (pv 2) zac)))) (zap (ixT (K := K)) (pv 0) zad (fun _ _ => rfl)) (zas _)))) zau)
   (zai (zam (zag G_sure_broken_bough hr.lv rfl T.g_sure_broken_bough T.K_sure_broken_bough.kp T.B_sure_broken_bough .nil zal (zaa (pv 0) (zaa (pv 1) (zaa (pv 2) zac))))))))), ?_⟩
 cases t with
 | needs x z =>
  obtain ⟨p, rfl, hp⟩ := zfp hd
  refine ⟨_, rfl, p, _, _, _, rfl, rfl, sqT hp, at0, rfl, _, rfl, ?_⟩
  refine zdq rfl ?_
  refine ⟨_, rfl, _, rfl, p, _, _, _, rfl, rfl, sqT hp, at1, _, _, rfl, _, rfl, ?_⟩
  rw [zba]
  have q1 : Q (.bl (y.testBit x && n.testBit z)) H := q0
  refine zcs (fun c => ?_) (fun c => ?_)
  ·rw [c, Bool.true_and] at q1
   refine ⟨_, rfl, _, rfl, p, _, _, _, rfl, rfl, sqT hp, at2, _, _, rfl, ?_⟩
   rw [zba]
   exact q1
  ·rw [Bool.eq_false_iff.mpr c, Bool.false_and] at q1
   exact q1
 | bans x z =>
  obtain ⟨p, rfl, hp⟩ := zfp hd
  refine ⟨_, rfl, p, _, _, _, rfl, rfl, sqT hp, at0, rfl, _, rfl, ?_⟩
  refine zb1 zf4 ?_
  refine ⟨_, rfl, p, _, _, _, rfl, rfl, sqT hp, at0, rfl, _, rfl, ?_⟩
  refine zdq rfl ?_
  refine ⟨_, rfl, _, rfl, p, _, _, _, rfl, rfl, sqT hp, at1, _, _, rfl, _, rfl, ?_⟩
  rw [zba]
  have q1 : Q (.bl (y.testBit x && y.testBit z)) H := q0
  refine zcs (fun c => ?_) (fun c => ?_)
  ·rw [c, Bool.true_and] at q1
   refine ⟨_, rfl, _, rfl, p, _, _, _, rfl, rfl, sqT hp, at2, _, _, rfl, ?_⟩
   rw [zba]
   exact q1
  ·rw [Bool.eq_false_iff.mpr c, Bool.false_and] at q1
   exact q1
 | most top ps =>
  obtain ⟨p, pq, xs, rfl, hp, hq, hps⟩ := zkk hd
  have few : ps.length ≤ m := ok.2.2.2
  refine ⟨_, rfl, p, _, _, _, rfl, rfl, sqT hp, at0, rfl, _, rfl, ?_⟩
  refine zb1 zf6 ?_
  refine ⟨_, rfl, p, _, _, _, rfl, rfl, sqT hp, at0, rfl, _, rfl, ?_⟩
  refine zb1 zhg ?_
  refine ⟨_, rfl, p, _, _, _, rfl, rfl, sqT hp, at0, rfl, _, rfl, ?_⟩
  refine zdq rfl ?_
  refine ⟨_, rfl, p, _, _, _, rfl, rfl, sqT hp, at2, _, rfl, _, rfl, pq, xs, ps, y, n, rfl, hq, hps, by omega, fun H1 s1 => ?_⟩
  exact ⟨_, rfl, p, _, _, _, rfl, rfl, sqT (s1 _ _ hp), at1, _, _, rfl, rfl, q H1 s1⟩
 | bough u lo hi ks =>
  obtain ⟨p, pk, e, hp, hpk⟩ := zdw hd
  subst e
  refine ⟨_, rfl, p, _, _, _, rfl, rfl, sqT hp, at0, rfl, _, rfl, ?_⟩
  refine zb1 int_str ?_
  refine ⟨_, rfl, p, _, _, _, rfl, rfl, sqT hp, at0, rfl, _, rfl, ?_⟩
  refine zb1 int_str ?_
  refine ⟨_, rfl, p, _, _, _, rfl, rfl, sqT hp, at0, rfl, _, rfl, ?_⟩
  refine zb1 int_str ?_
  exact ⟨_, rfl, _, rfl, _, rfl, u, lo, hi, ks, m, y, n, _, rfl, hd, ok, hm, q⟩
end
section
variable {P : Program} {w : World} {K : PySem.W.Frag} {mg : Str → Option Value} {base : Heap} {a : Adr} {d : Fds}
theorem zgd (T : Txt K mg a d) : FnOk P w K mg base CX0 3 a.f_sure_kept_bough d.f_sure_kept_bough ["bough", "yes", "no"] (zno Tie.sk) := by
 have G_has := zds (P := P) (w := w) (base := base) T
 have G_count_in := zfb (P := P) (w := w) (base := base) T
 refine T.K_sure_kept_bough.ok sc_sure_kept_bough (fun vs H Q E h => ?_) (fun cdv A outer s H vs Q E hr h => ?_)
 ·obtain ⟨u, lo, hi, ks, m, y, n, v, rfl, _⟩ := h
  rfl
 obtain ⟨u, lo, hi, ks, m, y, n, v, rfl, hd, ok, hm, q⟩ := h
 obtain ⟨p, pk, rfl, hp, hpk⟩ := zdw hd
 have few := ok.few
 have rest4 : ∃ t, PSs (zcj CX0 P w K mg base ["bough", "yes", "no", "least", "greatest", "all_with_up", "all_without_up"] "sure_kept_bough" (zab zaw) a.f_sure_kept_bough cdv A outer s H E).nox ((zah zaw).drop 4) t ∧ ∀ (v3 v4 : Option V) (b5 b6 : Bool) (H1 : Hp), Same H H1 → (b5 && b6) = (Tie.bough u lo hi ks).sk y n → t { nx := fun _ H' => Q .non H', rt := Q } [some (.ref p), some (.int y), some (.int n), v3, v4, some (.bl b5), some (.bl b6)] H1 := by
  refine ⟨_, (zai (zam (zc7 (pv 5) (zcr (pv 6))))), ?_⟩
  intro v3 v4 b5 b6 H1 s1 e
  have q1 := q H1 s1
  rw [← e] at q1
  refine ⟨_, rfl, _, rfl, ?_⟩
  refine zcs (fun c => ?_) (fun c => ?_)
  ·rw [c, Bool.true_and] at q1
   exact ⟨_, rfl, q1⟩
  ·rw [Bool.eq_false_iff.mpr c, Bool.false_and] at q1
   exact q1
 obtain ⟨t4, h4, r4⟩ := rest4
 have rest3 : ∃ t, PSs (zcj CX0 P w K mg base ["bough", "yes", "no", "least", "greatest", "all_with_up", "all_without_up"] "sure_kept_bough" (zab zaw) a.f_sure_kept_bough cdv A outer s H E).nox ((zah zaw).drop 3) t ∧ ∀ (g : Int) (b5 : Bool) (H1 : Hp), Same H H1 → g = (ks.length : Int) - cnt ks n → b5 = (n.testBit u || (decide (lo ≤ (cnt ks y : Int)) && decide (g ≤ hi))) → t { nx := fun _ H' => Q .non H', rt := Q } [some (.ref p), some (.int y), some (.int n), some (.int (cnt ks y : Nat)), some (.int g), some (.bl b5), none] H1 := by
  refine ⟨_, (zae (za1 (i := 6) sc_sure_kept_bough.nd rfl (Or.inl rfl) (zjz (zag G_has hr.lv rfl T.g_has T.K_has.kp T.B_has .nil zal (zaa (pv 1) (zaa (zap (ixT (K := K)) (pv 0) zad (fun _ _ => rfl)) zac))) (zcr (zck zby (pv 4) zad (zas _)))))
   h4), ?_⟩
  intro g b5 H1 s1 eg e5
  have hp1 := s1 _ _ hp
  refine ⟨_, rfl, _, rfl, p, _, _, _, rfl, rfl, sqT hp1, at0, _, _, rfl, _, rfl, ?_⟩
  rw [zba]
  refine zcs (fun c => ?_) (fun c => ?_)
  ·refine r4 _ _ _ _ _ s1 ?_
   rw [e5, eg]
   show _ = ((n.testBit u || (decide (lo ≤ (cnt ks y : Int)) && decide ((ks.length : Int) - cnt ks n ≤ hi))) && (y.testBit u || decide ((ks.length : Int) - cnt ks n = 0)))
   rw [c, Bool.true_or]
  ·refine ⟨_, rfl, rfl, ?_⟩
   refine r4 _ _ _ _ _ s1 ?_
   rw [e5, zp4, eg]
   show _ = ((n.testBit u || (decide (lo ≤ (cnt ks y : Int)) && decide ((ks.length : Int) - cnt ks n ≤ hi))) && (y.testBit u || decide ((ks.length : Int) - cnt ks n = 0)))
   rw [Bool.eq_false_iff.mpr c, Bool.false_or]
 obtain ⟨t3, h3, r3⟩ := rest3
 have rest2 : ∃ t, PSs (zcj CX0 P w K mg base ["bough", "yes", "no", "least", "greatest", "all_with_up", "all_without_up"] "sure_kept_bough" (zab zaw) a.f_sure_kept_bough cdv A outer s H E).nox ((zah zaw).drop 2) t ∧ ∀ (g : Int) (H1 : Hp), Same H H1 → g = (ks.length : Int) - cnt ks n → t { nx := fun _ H' => Q .non H', rt := Q } [some (.ref p), some (.int y), some (.int n), some (.int (cnt ks y : Nat)), some (.int g), none, none] H1 := by
  refine ⟨_, (zae (za1 (i := 5) sc_sure_kept_bough.nd rfl (Or.inl rfl) (zjz (zag G_has hr.lv rfl T.g_has T.K_has.kp T.B_has .nil zal (zaa (pv 2) (zaa (zap (ixT (K := K)) (pv 0) zad (fun _ _ => rfl)) zac))) (zcr (zc7 (zck zgv (zap (ixT (K := K)) (pv 0) zad (fun _ _ => rfl)) (pv 3) (zas _)) (zcr (zck zgv (pv 4) (zap (ixT (K := K)) (pv 0) zad (fun _ _ => rfl)) (zas _)))))))
   h3), ?_⟩
  intro g H1 s1 eg
  have hp1 := s1 _ _ hp
  refine ⟨_, rfl, _, rfl, p, _, _, _, rfl, rfl, sqT hp1, at0, _, _, rfl, _, rfl, ?_⟩
  rw [zba]
  refine zcs (fun c => ?_) (fun c => ?_)
  ·exact r3 _ _ _ s1 eg (by rw [c, Bool.true_or])
  ·refine ⟨_, rfl, p, _, _, _, rfl, rfl, sqT hp1, at1, _, rfl, _, _, rfl, rfl, _, rfl, ?_⟩
   refine zcs (fun c2 => ?_) (fun c2 => ?_)
   ·refine ⟨_, rfl, _, rfl, p, _, _, _, rfl, rfl, sqT hp1, at2, _, _, rfl, rfl, ?_⟩
    exact r3 _ _ _ s1 eg (by rw [Bool.eq_false_iff.mpr c, Bool.false_or, c2, Bool.true_and])
   ·exact r3 _ _ _ s1 eg (by rw [Bool.eq_false_iff.mpr c, Bool.false_or, Bool.eq_false_iff.mpr c2, Bool.false_and])
 obtain ⟨t2, h2, r2⟩ := rest2
 refine ⟨_, (zae (za1 (i := 3) sc_sure_kept_bough.nd rfl (Or.inl rfl) (zag G_count_in hr.lv rfl T.g_count_in T.K_count_in.kp T.B_count_in .nil zal (zaa (zap (ixT (K := K)) (pv 0) zad (fun _ _ => rfl)) (zaa (pv 1) zac))))
   (zae (za1 (i := 4) sc_sure_kept_bough.nd rfl (Or.inl rfl) (za2 zex (zaz (zfx (K := K)) rfl T.m_len PySem.boot_len (zaa (zap (ixT (K := K)) (pv 0) zad (fun _ _ => rfl)) zac)) (zag G_count_in hr.lv rfl T.g_count_in T.K_count_in.kp T.B_count_in .nil zal (zaa (zap (ixT (K := K)) (pv 0) zad (fun _ _ => rfl)) (zaa (pv 2) zac)))))
   h2)), ?_⟩
 refine ⟨_, rfl, p, _, _, _, rfl, rfl, sqT hp, at3, _, rfl, pk, ks, y, rfl, hpk, by omega, fun H1 s1 => ?_⟩
 have hp1 := s1 _ _ hp
 have hpk1 := s1 _ _ hpk
 refine ⟨_, rfl, p, _, _, _, rfl, rfl, sqT hp1, at3, pk, _, rfl, .inr (sqT hpk1), ?_⟩
 refine ⟨_, rfl, p, _, _, _, rfl, rfl, sqT hp1, at3, _, rfl, pk, ks, n, rfl, hpk1, by omega, fun H2 s2 => ?_⟩
 refine ⟨_, _, rfl, rfl, ?_⟩
 exact r2 _ _ (s1.trans s2) (by rw [List.length_map])
end
section
variable {P : Program} {w : World} {K : PySem.W.Frag} {mg : Str → Option Value} {base : Heap} {a : Adr} {d : Fds}
theorem zh2 (T : Txt K mg a d) : FnOk P w K mg base CX0 2 a.f_greatest_sum d.f_greatest_sum ["pairs", "yes", "no"] (zsj zd9) := by
 have G_has := zds (P := P) (w := w) (base := base) T
 refine T.K_greatest_sum.ok zhz (fun vs H Q E h => ?_) (fun cdv A outer s H vs Q E hr h => ?_)
 ·obtain ⟨pq, xs, ps, y, n, rfl, _⟩ := h
  rfl
 obtain ⟨pq, xs, ps, y, n, rfl, hq, hps, few, q⟩ := h
 have lx : xs.length = ps.length := by rw [← hps.length, List.length_map]
 refine ⟨_, (zai (zam (zaz (zda rfl) rfl T.m_sum PyProof.Rows.boot_sum (zaa (zi3 (sc0 := zab zbj) (XN := ["pairs", "yes", "no"]) (N' := ["k", "number", "yes", "no"]) (n := 2) (kp := [1, 2]) rfl (piT (K := K) (pv 0)) rfl rfl (by decide +kernel) (fun _ _ _ _ _ => (pgT (K := K) (n := 2) rfl (zbk (za6 (i := 0) (by show List.Nodup (["k", "number", "yes", "no"] : List Str); decide +kernel) rfl (Or.inl rfl)) (zbk (za6 (i := 1) (by show List.Nodup (["k", "number", "yes", "no"] : List Str); decide +kernel) rfl (Or.inl rfl)) zdl)))) (fun _ _ _ _ _ => (zd0 (PW.pt (zhp (zb8 (zag G_has hr.lv rfl T.g_has T.K_has.kp T.B_has .nil zal (zaa (pv 2) (zaa (pv 0) zac)))) (zha (PW.pt (ziq (zat zhm (pv 1) zad (zas _)) (zgz (zem (zb8 (zag G_has hr.lv rfl T.g_has T.K_has.kp T.B_has .nil zal (zaa (pv 3) (zaa (pv 0) zac))))))))))))) (fun _ _ _ _ _ => (pv 1))) zac)))), ?_⟩
 refine ⟨_, rfl, pq, rfl, ⟨_, sqT hq⟩, ?_⟩
 refine zkz (K := K) (a := pq) (xs := xs) (fun i ys σ H2 => (∃ v v', σ = [v, v', some (.int y), some (.int n)]) ∧ H2 = H ∧ i ≤ ps.length ∧ ys = (((ps.take i).filter fun p => y.testBit p.1 || (decide (0 < p.2) && !n.testBit p.1)).map (·.2)).map V.int) ⟨⟨none, none, rfl⟩, rfl, Nat.zero_le _, rfl⟩ (fun i ys σ H2 hi pv => ?_) (fun i ys σ H2 hi pv => ?_) (fun i x ys σ H2 hx pv => ?_) (fun ys σ H2 pv l hl => ?_)
 ·obtain ⟨_, _, h1, rfl⟩ := pv
  rw [List.length_map, List.length_map]
  refine small (Nat.le_trans (List.length_filter_le _ _) ?_)
  rw [List.length_take]
  omega
 ·rw [pv.2.1]
  exact sqT hq
 ·obtain ⟨⟨v, v', rfl⟩, rfl, h1, rfl⟩ := pv
  obtain ⟨pr, r, hpr, rfl, hr'⟩ := zke hps hx
  have hj : i < ps.length := (List.getElem?_eq_some_iff.mp hpr).1
  have ee := PySem.take_succ_filter (fun p : Nat × Int => y.testBit p.1 || (decide (0 < p.2) && !n.testBit p.1)) ps i pr hpr
  have yes : (y.testBit pr.1 || (decide (0 < pr.2) && !n.testBit pr.1)) = true → ((((ps.take i).filter fun p => y.testBit p.1 || (decide (0 < p.2) && !n.testBit p.1)).map (·.2)).map V.int) ++ [V.int pr.2] = (((ps.take (i + 1)).filter fun p => y.testBit p.1 || (decide (0 < p.2) && !n.testBit p.1)).map (·.2)).map V.int := fun c => by
   rw [ee, if_pos c, List.map_append, List.map_append]
   rfl
  have noo : (y.testBit pr.1 || (decide (0 < pr.2) && !n.testBit pr.1)) = false → ((((ps.take i).filter fun p => y.testBit p.1 || (decide (0 < p.2) && !n.testBit p.1)).map (·.2)).map V.int) = (((ps.take (i + 1)).filter fun p => y.testBit p.1 || (decide (0 < p.2) && !n.testBit p.1)).map (·.2)).map V.int := fun c => by
   rw [ee, if_neg (by rw [c]; exact Bool.false_ne_true), List.append_nil]
  refine ⟨r, _, rfl, sqT hr', rfl, _, _, rfl, _, _, rfl, rfl, ?_⟩
  refine ⟨_, rfl, _, rfl, _, _, rfl, _, rfl, ?_⟩
  rw [zba]
  refine zcs (fun c => ?_) (fun c => ?_)
  ·refine zoo ?_
   exact ⟨_, rfl, ⟨_, _, rfl⟩, rfl, hj, yes (by rw [c, Bool.true_or])⟩
  ·have c' := Bool.eq_false_iff.mpr c
   refine ⟨_, rfl, _, _, rfl, rfl, _, rfl, ?_⟩
   refine zcs (fun c2 => ?_) (fun c2 => ?_)
   ·refine ⟨_, rfl, _, rfl, _, _, rfl, _, rfl, ?_⟩
    rw [zba]
    refine zcs (fun c3 => ?_) (fun c3 => ?_)
    ·exact ⟨_, rfl, ⟨_, _, rfl⟩, rfl, hj, yes (by rw [c', Bool.false_or, c2, Bool.true_and, c3])⟩
    ·exact ⟨⟨_, _, rfl⟩, rfl, hj, noo (by rw [c', Bool.false_or, c2, Bool.true_and, Bool.eq_false_iff.mpr c3])⟩
   ·refine zee ?_
    exact ⟨⟨_, _, rfl⟩, rfl, hj, noo (by rw [c', Bool.false_or, Bool.eq_false_iff.mpr c2, Bool.false_and])⟩
 ·obtain ⟨_, rfl, _, rfl⟩ := pv
  refine ⟨l, _, rfl, SqL.of zaf, ?_⟩
  have q1 := q _ (zak hl (.lst ((((ps.take xs.length).filter fun p => y.testBit p.1 || (decide (0 < p.2) && !n.testBit p.1)).map (·.2)).map V.int)))
  have e : zd9 ps y n = (((ps.take xs.length).filter fun p => y.testBit p.1 || (decide (0 < p.2) && !n.testBit p.1)).map (·.2)).sum := by
   rw [lx, List.take_length]
   rfl
  rw [e] at q1
  exact q1
end
section
variable {P : Program} {w : World} {K : PySem.W.Frag} {mg : Str → Option Value} {base : Heap} {a : Adr} {d : Fds}
theorem zkn (T : Txt K mg a d) : FnOk P w K mg base CX0 4 a.f_sure_kept d.f_sure_kept ["tie", "yes", "no"] (zp2 Tie.sk) := by
 have G_has := zds (P := P) (w := w) (base := base) T
 have G_greatest_sum := zh2 (P := P) (w := w) (base := base) T
 have G_sure_kept_bough := zgd (P := P) (w := w) (base := base) T
 refine T.K_sure_kept.ok zku (fun vs H Q E h => ?_) (fun cdv A outer s H vs Q E hr h => ?_)
 ·obtain ⟨t, m, y, n, v, rfl, _⟩ := h
  rfl
 obtain ⟨t, m, y, n, v, rfl, hd, ok, hm, q⟩ := h
 have q0 := q H (Same.refl H)
 refine ⟨_, (zae (za9 (zat zby (zap (ixT (K := K)) (pv 0) zad (fun _ _ => rfl)) za0 (zas _)) (zai (zam (zjz (zag G_has hr.lv rfl T.g_has T.K_has.kp T.B_has .nil zal (zaa (pv 2) (zaa (zap (ixT (K := K)) (pv 0) zad (fun _ _ => rfl)) zac))) (zcr (zag G_has hr.lv rfl T.g_has T.K_has.kp T.B_has .nil zal (zaa (pv 1) (zaa (zap (ixT (K := K)) (pv 0) zad (fun _ _ => rfl)) zac))))))) zau)
   (zae (za9 (zat zby (zap (ixT (K := K)) (pv 0) zad (fun _ _ => rfl)) za0 (zas _)) (zai (zam (zjz (zag G_has hr.lv rfl T.g_has T.K_has.kp T.B_has .nil zal (zaa (pv 2) (zaa (zap (ixT (K := K)) (pv 0) zad (fun _ _ => rfl)) zac))) (zcr (zag G_has hr.lv rfl T.g_has T.K_has.kp T.B_has .nil zal (zaa (pv 2) (zaa (zap (ixT (K := K)) (pv 0) zad (fun _ _ => rfl)) zac))))))) zau)
   (zae (za9 (zat zby (zap (ixT (K := K)) (pv 0) zad (fun _ _ => rfl)) za0 (zas _)) (zai (zam (zck zgv (zag G_greatest_sum hr.lv rfl T.g_greatest_sum T.K_greatest_sum.kp T.B_greatest_sum .nil zal (zaa (zap (ixT (K := K)) (pv 0) zad (fun _ _ => rfl)) (zaa (pv 1) (zaa (pv 2) zac)))) (zap (ixT (K := K)) (pv 0) zad (fun _ _ => rfl)) (zas _)))) zau)
   (zai (zam (zag G_sure_kept_bough hr.lv rfl T.g_sure_kept_bough T.K_sure_kept_bough.kp T.B_sure_kept_bough .nil zal (zaa (pv 0) (zaa (pv 1) (zaa (pv 2) zac))))))))), ?_⟩
 cases t with
 | needs x z =>
  obtain ⟨p, rfl, hp⟩ := zfp hd
  refine ⟨_, rfl, p, _, _, _, rfl, rfl, sqT hp, at0, rfl, _, rfl, ?_⟩
  refine zdq rfl ?_
  refine ⟨_, rfl, _, rfl, p, _, _, _, rfl, rfl, sqT hp, at1, _, _, rfl, _, rfl, ?_⟩
  rw [zba]
  have q1 : Q (.bl (n.testBit x || y.testBit z)) H := q0
  refine zcs (fun c => ?_) (fun c => ?_)
  ·rw [c, Bool.true_or] at q1
   exact q1
  ·rw [Bool.eq_false_iff.mpr c, Bool.false_or] at q1
   refine ⟨_, rfl, _, rfl, p, _, _, _, rfl, rfl, sqT hp, at2, _, _, rfl, ?_⟩
   rw [zba]
   exact q1
 | bans x z =>
  obtain ⟨p, rfl, hp⟩ := zfp hd
  refine ⟨_, rfl, p, _, _, _, rfl, rfl, sqT hp, at0, rfl, _, rfl, ?_⟩
  refine zb1 zf4 ?_
  refine ⟨_, rfl, p, _, _, _, rfl, rfl, sqT hp, at0, rfl, _, rfl, ?_⟩
  refine zdq rfl ?_
  refine ⟨_, rfl, _, rfl, p, _, _, _, rfl, rfl, sqT hp, at1, _, _, rfl, _, rfl, ?_⟩
  rw [zba]
  have q1 : Q (.bl (n.testBit x || n.testBit z)) H := q0
  refine zcs (fun c => ?_) (fun c => ?_)
  ·rw [c, Bool.true_or] at q1
   exact q1
  ·rw [Bool.eq_false_iff.mpr c, Bool.false_or] at q1
   refine ⟨_, rfl, _, rfl, p, _, _, _, rfl, rfl, sqT hp, at2, _, _, rfl, ?_⟩
   rw [zba]
   exact q1
 | most top ps =>
  obtain ⟨p, pq, xs, rfl, hp, hq, hps⟩ := zkk hd
  have few : ps.length ≤ m := ok.2.2.2
  refine ⟨_, rfl, p, _, _, _, rfl, rfl, sqT hp, at0, rfl, _, rfl, ?_⟩
  refine zb1 zf6 ?_
  refine ⟨_, rfl, p, _, _, _, rfl, rfl, sqT hp, at0, rfl, _, rfl, ?_⟩
  refine zb1 zhg ?_
  refine ⟨_, rfl, p, _, _, _, rfl, rfl, sqT hp, at0, rfl, _, rfl, ?_⟩
  refine zdq rfl ?_
  refine ⟨_, rfl, p, _, _, _, rfl, rfl, sqT hp, at2, _, rfl, _, rfl, pq, xs, ps, y, n, rfl, hq, hps, by omega, fun H1 s1 => ?_⟩
  exact ⟨_, rfl, p, _, _, _, rfl, rfl, sqT (s1 _ _ hp), at1, _, _, rfl, rfl, q H1 s1⟩
 | bough u lo hi ks =>
  obtain ⟨p, pk, e, hp, hpk⟩ := zdw hd
  subst e
  refine ⟨_, rfl, p, _, _, _, rfl, rfl, sqT hp, at0, rfl, _, rfl, ?_⟩
  refine zb1 int_str ?_
  refine ⟨_, rfl, p, _, _, _, rfl, rfl, sqT hp, at0, rfl, _, rfl, ?_⟩
  refine zb1 int_str ?_
  refine ⟨_, rfl, p, _, _, _, rfl, rfl, sqT hp, at0, rfl, _, rfl, ?_⟩
  refine zb1 int_str ?_
  exact ⟨_, rfl, _, rfl, _, rfl, u, lo, hi, ks, m, y, n, _, rfl, hd, ok, hm, q⟩
end
section
variable {P : Program} {w : World} {K : PySem.W.Frag} {mg : Str → Option Value} {base : Heap} {a : Adr} {d : Fds}
theorem ze0 (T : Txt K mg a d) : FnOk P w K mg base CX0 5 a.f_first_sure_broken d.f_first_sure_broken ["wood", "ties", "yes", "no"] zoz := by
 have G_tie_at := zfr (P := P) (w := w) (base := base) T
 have G_sure_broken := ze9 (P := P) (w := w) (base := base) T
 refine T.K_first_sure_broken.ok sc_first_sure_broken (fun vs H Q E h => ?_) (fun cdv A outer s H vs Q E hr h => ?_)
 ·obtain ⟨wd, m, ts, tl, il, y, n, rfl, _⟩ := h
  rfl
 obtain ⟨wd, m, ts, tl, il, y, n, rfl, W, htl, ilt, q⟩ := h
 have m9 := W.m9
 refine ⟨_, (zae (zg7 PassesOwn.never rfl (piL (K := K) (pv 1)) (za6 (i := 4) sc_first_sure_broken.nd rfl (Or.inl rfl)) (zai (za9 (zb8 (zag G_sure_broken hr.lv rfl T.g_sure_broken T.K_sure_broken.kp T.B_sure_broken .nil zal (zaa (zag G_tie_at hr.lv rfl T.g_tie_at T.K_tie_at.kp T.B_tie_at .nil zal (zaa (pv 0) (zaa (pv 4) zac))) (zaa (pv 2) (zaa (pv 3) zac))))) (zai (zam (pv 4))) zau)))
   (zai (zam zeu))), ?_⟩
 refine ⟨_, rfl, tl, rfl, ⟨_, SqL.of htl⟩, ?_⟩
 refine zgs (K := K) (a := tl) (xs := zb4 il) (fun i σ H2 => (∃ v, σ = [some (.ref wd), some (.ref tl), some (.int y), some (.int n), v]) ∧ Same H H2 ∧ (il.take i).find? (fun i => zgy ts i y n) = none) ⟨⟨_, rfl⟩, Same.refl _, rfl⟩ (fun i σ H2 _ z => SqL.of (z.2.1 _ _ htl)) ?_ ?_
 ·rintro i x σ H2 hx ⟨⟨v, rfl⟩, s2, hb⟩
  rw [List.getElem?_map] at hx
  obtain ⟨t, ht, rfl⟩ := Option.map_eq_some_iff.mp hx
  have htl' := ilt t (List.mem_of_getElem? ht)
  have W2 := W.same s2
  obtain ⟨xs, ys, WA, dn⟩ := W2.ex
  have hts : ts[t]? = some ts[t] := List.getElem?_eq_getElem htl'
  obtain ⟨v2, hv2, hd⟩ := DnL.get' dn (i := t) (d := ts[t].toD) (by rw [List.getElem?_map, hts]; rfl)
  have esb : zgy ts t y n = ts[t].sb y n := by unfold zgy; rw [hts]
  refine ⟨_, rfl, _, rfl, wd, m, xs, ys, t, v2, rfl, WA, hv2, ?_⟩
  refine ⟨_, rfl, _, rfl, ts[t], m, y, n, v2, rfl, hd, W.ok _ (List.getElem_mem htl'), by omega, fun H3 s3 => ?_⟩
  refine ⟨_, rfl, ?_⟩
  refine zcs (fun c => ?_) (fun c => ?_)
  ·have q1 := q H3 (s2.trans s3)
   have e : zbp ts il y n = some t := by
    unfold zbp
    have el : il = il.take i ++ t :: il.drop (i + 1) := by
     obtain ⟨hi, e⟩ := List.getElem?_eq_some_iff.mp ht
     rw [← e, List.getElem_cons_drop, List.take_append_drop]
    rw [el, List.find?_append, hb]
    simp [esb, c]
   rw [e] at q1
   exact ⟨_, rfl, q1⟩
  ·refine ⟨⟨_, rfl⟩, s2.trans s3, ?_⟩
   rw [List.take_add_one, ht, Option.toList_some, List.find?_append, hb]
   simp [esb, c]
 ·rintro σ H2 ⟨⟨v, rfl⟩, s2, hb⟩
  have q1 := q H2 s2
  rw [List.length_map, List.take_length] at hb
  have e : zbp ts il y n = none := hb
  rw [e] at q1
  exact q1
end
section
variable {P : Program} {w : World} {K : PySem.W.Frag} {mg : Str → Option Value} {base : Heap} {a : Adr} {d : Fds}
theorem zef (T : Txt K mg a d) : FnOk P w K mg base CX0 5 a.f_all_sure_kept d.f_all_sure_kept ["wood", "yes", "no"] zsq := by
 have G_every_tie := zdp (P := P) (w := w) (base := base) T
 have G_tie_at := zfr (P := P) (w := w) (base := base) T
 have G_sure_kept := zkn (P := P) (w := w) (base := base) T
 refine T.K_all_sure_kept.ok zg9 (fun vs H Q E h => ?_) (fun cdv A outer s H vs Q E hr h => ?_)
 ·obtain ⟨wd, m, ts, y, n, rfl, _⟩ := h
  rfl
 obtain ⟨wd, m, ts, y, n, rfl, W, q⟩ := h
 have m9 := W.m9
 have few := W.few
 refine ⟨_, (zai (zam (zaz (zk7 rfl) rfl T.m_all PyProof.Rows.boot_all (zaa (zi3 (sc0 := zab zbf) (XN := ["wood", "yes", "no"]) (N' := ["t", "yes", "no", "wood"]) (n := 1) (kp := [1, 2, 0]) rfl (piL (K := K) (zag G_every_tie hr.lv rfl T.g_every_tie T.K_every_tie.kp T.B_every_tie .nil zal (zaa (pv 0) zac))) rfl rfl (by decide +kernel) (fun _ _ _ _ _ => (za6 (i := 0) (by show List.Nodup (["t", "yes", "no", "wood"] : List Str); decide +kernel) rfl (Or.inl rfl))) (fun _ _ _ _ _ => znv) (fun _ _ _ _ _ => (zag G_sure_kept hr.lv rfl T.g_sure_kept T.K_sure_kept.kp T.B_sure_kept .nil zal (zaa (zag G_tie_at hr.lv rfl T.g_tie_at T.K_tie_at.kp T.B_tie_at .nil zal (zaa (pv 3) (zaa (pv 0) zac))) (zaa (pv 1) (zaa (pv 2) zac)))))) zac)))), ?_⟩
 refine ⟨_, rfl, wd, m, ts, rfl, W, fun l H1 s1 nl hl => ?_⟩
 refine ⟨l, rfl, ⟨_, SqL.of hl⟩, ?_⟩
 have lr : ((List.range ts.length).map fun i : Nat => V.int (i : Int)).length = ts.length := by rw [List.length_map, List.length_range]
 refine zh8 (K := K) (a := l) (xs := (List.range ts.length).map fun i : Nat => V.int (i : Int)) (fun i ys σ H2 => (∃ v, σ = [v, some (.int y), some (.int n), some (.ref wd)]) ∧ Same H1 H2 ∧ ys = ((ts.take i).map fun t => t.sk y n).map V.bl) ⟨⟨none, rfl⟩, Same.refl _, rfl⟩ (fun i ys σ H2 hi pv => ?_) (fun i ys σ H2 hi pv => ?_) (fun i x ys σ H2 hx pv => ?_) (fun ys σ H2 pv p hp => ?_)
 ·obtain ⟨_, _, rfl⟩ := pv
  rw [List.length_map, List.length_map, List.length_take]
  exact small (by omega)
 ·exact SqL.of (pv.2.1 _ _ hl)
 ·obtain ⟨⟨v, rfl⟩, s2, rfl⟩ := pv
  rw [List.getElem?_map] at hx
  obtain ⟨i', hi', rfl⟩ := Option.map_eq_some_iff.mp hx
  have il : i < ts.length := by
   have := (List.getElem?_eq_some_iff.mp hi').1
   rwa [List.length_range] at this
  rw [List.getElem?_range il] at hi'
  cases hi'
  have W2 := W.same (s1.trans s2)
  obtain ⟨xs, zs, WA, dn⟩ := W2.ex
  have hts : ts[i]? = some ts[i] := List.getElem?_eq_getElem il
  obtain ⟨v2, hv2, hd⟩ := DnL.get' dn (i := i) (d := ts[i].toD) (by rw [List.getElem?_map, hts]; rfl)
  refine ⟨_, rfl, _, rfl, wd, m, xs, zs, i, v2, rfl, WA, hv2, ?_⟩
  refine ⟨_, rfl, _, rfl, ts[i], m, y, n, v2, rfl, hd, W.ok _ (List.getElem_mem il), by omega, fun H3 s3 => ?_⟩
  refine ⟨⟨_, rfl⟩, s2.trans s3, ?_⟩
  rw [List.take_add_one, hts, Option.toList_some, List.map_append, List.map_append]
  rfl
 obtain ⟨_, s2, rfl⟩ := pv
 rw [lr, List.take_length] at *
 refine ⟨p, _, rfl, SqL.of zaf, ?_⟩
 have e : (ts.map fun t => t.sk y n).all id = ts.all fun t => t.sk y n := by rw [List.all_map]; rfl
 rw [e]
 exact q _ ((s1.trans s2).trans (zak hp _))
end
section
variable {P : Program} {w : World} {K : PySem.W.Frag} {mg : Str → Option Value} {base : Heap} {a : Adr} {d : Fds}
theorem zjo (T : Txt K mg a d) (f : Nat) {p : Addr} {C : Hp → Prop} {m : Nat} {leaf : Nat → Nat → Option PyData} {fdL : FuncData} {pl : List Str} {φ : Heap → Prop}
  (L_leaf_at : FnOk P w K mg base CX0 7 p fdL pl (ztd C leaf)) (LB_leaf_at : Binds K fdL pl []) (LP_leaf_at : ∀ h : Heap, φ h → ∃ o fd', h.get? p = some o ∧ o.data = .func fd') (hC : ∀ H H', Same H H' → C H → C H') (hCp : ∀ H, C H → H p = some (.ext φ))
  (G_told_tree : f ≠ 0 → FnOk P w K mg base CX0 (f + 7) a.f_told_tree d.f_told_tree ["wood", "ties", "yes", "no", "leaf_at"] (zj7 (f - 1) p C m leaf)) : FnOk P w K mg base CX0 (f + 8) a.f_told_tree d.f_told_tree ["wood", "ties", "yes", "no", "leaf_at"] (zj7 f p C m leaf) := by
 have G_first_sure_broken := ze0 (P := P) (w := w) (base := base) T
 have G_open_options := zdi (P := P) (w := w) (base := base) T
 have G_with_option := zcl (P := P) (w := w) (base := base) T
 refine T.K_told_tree.ok sc_told_tree (fun vs H Q E h => ?_) (fun cdv A outer s H vs Q E hr h => ?_)
 ·obtain ⟨wd, ts, tl, il, y, n, rfl, _⟩ := h
  rfl
 obtain ⟨wd, ts, tl, il, y, n, rfl, W, htl, ilt, hf, c0, ends, q⟩ := h
 have m9 := W.m9
 obtain ⟨R, r0, rs, re⟩ := ends
 have rest : ∃ t, PSs (zcj CX0 P w K mg base ["wood", "ties", "yes", "no", "leaf_at", "broken", "leaf", "k", "one", "other"] "told_tree" (zab zbz) a.f_told_tree cdv A outer s H E).nox ((zah zbz).drop 5) t ∧ (∀ (k : Nat) (r : List Nat) (v5 v6 : Option V) (H1 : Hp), Same H H1 → za8 m y n = k :: r → zbp ts il y n = none → leaf y n = none → t { nx := fun _ H' => Q .non H', rt := Q } [some (.ref wd), some (.ref tl), some (.int y), some (.int n), some (.ref p), v5, v6, some (.int (k : Int)), none, none] H1) := by
  by_cases hf0 : f = 0
  ·refine ⟨znh, zfq, ?_⟩
   intro k r v5 v6 H1 s1 ho hb
   rw [ho, hf0] at hf
   simp at hf
  ·have G_told_tree := G_told_tree hf0
   refine ⟨_, (zae (za1 (i := 8) sc_told_tree.nd rfl (Or.inl rfl) (zag G_told_tree hr.lv rfl T.g_told_tree T.K_told_tree.kp T.B_told_tree .nil zal (zaa (pv 0) (zaa (pv 1) (zaa (zag G_with_option hr.lv rfl T.g_with_option T.K_with_option.kp T.B_with_option .nil zal (zaa (pv 2) (zaa (pv 7) zac))) (zaa (pv 3) (zaa (pv 4) zac)))))))
   (zae (za1 (i := 9) sc_told_tree.nd rfl (Or.inl rfl) (zag G_told_tree hr.lv rfl T.g_told_tree T.K_told_tree.kp T.B_told_tree .nil zal (zaa (pv 0) (zaa (pv 1) (zaa (pv 2) (zaa (zag G_with_option hr.lv rfl T.g_with_option T.K_with_option.kp T.B_with_option .nil zal (zaa (pv 3) (zaa (pv 7) zac))) (zaa (pv 4) zac)))))))
   (zai (zam (zbb (zaa za0 (zaa (pv 7) (zaa (pv 8) (zaa (pv 9) zac))))))))), ?_⟩
   intro k r v5 v6 H1 s1 ho hb hlf
   have hk : k ∈ za8 m y n := by rw [ho]; exact List.mem_cons_self
   have km := (mem_open.mp hk).1
   have l1 := zei hk
   have l2 := zel hk
   refine ⟨_, rfl, _, rfl, _, rfl, _, rfl, y, k, rfl, by omega, _, rfl, _, rfl, wd, ts, tl, il, y ||| 2 ^ k, n, rfl, W.same s1, s1 _ _ htl, ilt, by omega, hC _ _ s1 c0, ⟨R, (rs y n k r0 hk).1, rs, re⟩, fun v1 H2 s2 d1 => ?_⟩
   refine ⟨_, rfl, _, rfl, _, rfl, _, rfl, _, rfl, n, k, rfl, by omega, _, rfl, wd, ts, tl, il, y, n ||| 2 ^ k, rfl, W.same (s1.trans s2), (s1.trans s2) _ _ htl, ilt, by omega, hC _ _ (s1.trans s2) c0, ⟨R, (rs y n k r0 hk).2, rs, re⟩, fun v2 H3 s3 d2 => ?_⟩
   refine ⟨_, rfl, _, rfl, _, rfl, small (by show 4 ≤ 1000; decide), fun tp htp => ?_⟩
   have s4 := zak htp (.tup [.str ("split" : Str), .int (k : Int), v1, v2])
   refine q _ _ (((s1.trans s2).trans s3).trans s4) ?_
   obtain ⟨f', rfl⟩ : ∃ f', f = f' + 1 := ⟨f - 1, by omega⟩
   rw [zho hb hlf ho]
   exact ⟨tp, _, rfl, zaf, _, _, rfl, rfl, _, _, rfl, rfl, _, _, rfl, Dn.same (s3.trans s4) _ _ d1, _, _, rfl, Dn.same s4 _ _ d2, rfl⟩
 obtain ⟨t4, h4, r4⟩ := rest
 refine ⟨_, (zae (za1 (i := 5) sc_told_tree.nd rfl (Or.inl rfl) (zag G_first_sure_broken hr.lv rfl T.g_first_sure_broken T.K_first_sure_broken.kp T.B_first_sure_broken .nil zal (zaa (pv 0) (zaa (pv 1) (zaa (pv 2) (zaa (pv 3) zac))))))
   (zae (za9 (zat znq (pv 5) zeu (zas _)) (zai (zam (zbb (zaa za0 (zaa (pv 5) zac))))) zau)
   (zae (za1 (i := 6) sc_told_tree.nd rfl (Or.inl rfl) (zld (i := 4) L_leaf_at hr.lv rfl (.inl rfl) LB_leaf_at LP_leaf_at (zaa (pv 2) (zaa (pv 3) zac))))
   (zae (za9 (zat znq (pv 6) zeu (zas _)) (zai (zam (pv 6))) zau)
   (zae (za1 (i := 7) sc_told_tree.nd rfl (Or.inl rfl) (zap (ixL (K := K)) (zag G_open_options hr.lv rfl T.g_open_options T.K_open_options.kp T.B_open_options .nil zal (zaa (zap (ixT (K := K)) (pv 0) zad (fun _ _ => rfl)) (zaa (pv 2) (zaa (pv 3) zac)))) zad (fun _ _ => rfl)))
   h4))))), ?_⟩
 refine ⟨_, rfl, _, rfl, _, rfl, _, rfl, wd, m, ts, tl, il, y, n, rfl, W, htl, ilt, fun H1 s1 => ?_⟩
 obtain ⟨o, ho⟩ : ∃ o, zbp ts il y n = o := ⟨_, rfl⟩
 rw [ho]
 obtain ⟨xs, ys, ⟨tb, tc, hw, hb, hc⟩, dn⟩ := W.ex
 rcases o with _ | t
 ·refine ⟨_, rfl, rfl, _, rfl, ?_⟩
  refine zin rfl ?_
  refine ⟨rfl, _, rfl, _, rfl, hCp _ (hC _ _ s1 c0), y, n, rfl, hC _ _ s1 c0, fun v H2 s2 lv => ?_⟩
  unfold zge at lv
  cases hl : leaf y n with
  | some dd =>
   rw [hl] at lv
   obtain ⟨dv, pp, rfl⟩ := lv
   refine ⟨_, rfl, rfl, _, rfl, ?_⟩
   refine zn6 (by intro z; cases z) ?_
   refine ⟨_, rfl, ?_⟩
   refine q _ _ (s1.trans s2) ?_
   rw [zid ho hl]
   exact dv
  | none =>
   rw [hl] at lv
   subst lv
   refine ⟨_, rfl, rfl, _, rfl, ?_⟩
   refine zin rfl ?_
   have s12 := s1.trans s2
   refine ⟨_, rfl, wd, _, _, _, rfl, rfl, sqT (s12 _ _ hw), at0, _, rfl, _, rfl, m, y, n, rfl, by omega, fun l H3 s3 nl hl3 => ?_⟩
   obtain ⟨ol, hol⟩ : ∃ ol, za8 m y n = ol := ⟨_, rfl⟩
   rw [hol] at hl3
   rcases ol with _ | ⟨k, r⟩
   ·exact absurd hl (re y n r0 ho hol)
   ·refine ⟨l, _, _, _, rfl, rfl, SqL.of hl3, at0, ?_⟩
    exact r4 k r _ _ H3 (s12.trans s3) hol ho hl
 ·refine ⟨_, rfl, rfl, _, rfl, ?_⟩
  refine zn6 (by intro z; cases z) ?_
  refine ⟨_, rfl, small (by show 2 ≤ 1000; decide), fun tp htp => ?_⟩
  have s2 := zak htp (.tup [.str ("broken" : Str), .int (t : Int)])
  refine q _ _ (s1.trans s2) ?_
  rw [zgk ho]
  exact ⟨tp, _, rfl, zaf, _, _, rfl, rfl, _, _, rfl, rfl, rfl⟩
theorem zeq (T : Txt K mg a d) {p : Addr} {C : Hp → Prop} {m : Nat} {leaf : Nat → Nat → Option PyData} {fdL : FuncData} {pl : List Str} {φ : Heap → Prop}
  (L : FnOk P w K mg base CX0 7 p fdL pl (ztd C leaf)) (LB : Binds K fdL pl []) (LP : ∀ h : Heap, φ h → ∃ o fd', h.get? p = some o ∧ o.data = .func fd') (hC : ∀ H H', Same H H' → C H → C H') (hCp : ∀ H, C H → H p = some (.ext φ)) :
  ∀ f : Nat, FnOk P w K mg base CX0 (f + 8) a.f_told_tree d.f_told_tree ["wood", "ties", "yes", "no", "leaf_at"] (zj7 f p C m leaf)
 | 0 => zjo T 0 L LB LP hC hCp fun h => absurd rfl h
 | f + 1 => zjo T (f + 1) L LB LP hC hCp fun _ => zeq T L LB LP hC hCp f
end
section
variable {P : Program} {w : World} {K : PySem.W.Frag} {mg : Str → Option Value} {base : Heap} {a : Adr} {d : Fds}
def zmp : Sp := fun vs H Q _ => ∃ (wd : Addr) (m : Nat) (ts : List Tie) (y n : Nat), vs = [.ref wd, .int y, .int n] ∧ WoodT H wd m ts ∧ ∀ (v : V) (H' : Hp), Same H H' → zge (zdh m) y n H' v → Q v H'
theorem zks (T : Txt K mg a d) : FnOk P w K mg base CX0 3 a.f_ware_leaf d.f_ware_leaf ["wood", "yes", "no"] zmp := by
 have G_open_options := zdi (P := P) (w := w) (base := base) T
 refine T.K_ware_leaf.ok zko (fun vs H Q E h => ?_) (fun cdv A outer s H vs Q E hr h => ?_)
 ·obtain ⟨wd, m, ts, y, n, rfl, _⟩ := h
  rfl
 obtain ⟨wd, m, ts, y, n, rfl, W, q⟩ := h
 have m9 := W.m9
 refine ⟨_, (zae (za9 (zat zby (zaz (zfx (K := K)) rfl T.m_len PySem.boot_len (zaa (zag G_open_options hr.lv rfl T.g_open_options T.K_open_options.kp T.B_open_options .nil zal (zaa (zap (ixT (K := K)) (pv 0) zad (fun _ _ => rfl)) (zaa (pv 1) (zaa (pv 2) zac)))) zac)) zad (zas _)) (zai (zam (zbb (zaa za0 zac)))) zau)
   (zai (zam zeu))), ?_⟩
 obtain ⟨xs, ys, ⟨tb, tc, hw, hb, hc⟩, dn⟩ := W.ex
 refine ⟨_, rfl, wd, _, _, _, rfl, rfl, sqT hw, at0, _, rfl, _, rfl, m, y, n, rfl, by omega, fun l H2 s2 nl hl => ?_⟩
 refine ⟨l, _, rfl, .inl (SqL.of hl), rfl, _, rfl, ?_⟩
 rw [zlb, List.length_map]
 obtain ⟨ol, hol⟩ : ∃ ol, za8 m y n = ol := ⟨_, rfl⟩
 rw [hol]
 rcases ol with _ | ⟨k, r⟩
 ·refine zdq rfl ?_
  refine ⟨small (by show 1 ≤ 1000; decide), fun tp htp => ?_⟩
  have s3 := zak htp (.tup [.str ("ware" : Str)])
  refine q _ _ (s2.trans s3) ?_
  unfold zge zdh
  rw [if_pos hol]
  exact ⟨⟨tp, _, rfl, zaf, _, _, rfl, rfl, rfl⟩, tp, rfl⟩
 ·refine zb1 (by simp) ?_
  refine q _ _ s2 ?_
  unfold zge zdh
  rw [if_neg (by rw [hol]; simp)]
end
section
variable {P : Program} {w : World} {K : PySem.W.Frag} {mg : Str → Option Value} {base : Heap} {a : Adr} {d : Fds}
theorem zln (T : Txt K mg a d) (LB : LamB mg base a.c_cases_of a.t_cases_of) (f : Nat) : FnOk P w K mg base CX0 (f + 9) a.f_cases_of d.f_cases_of ["wood", "ties", "yes", "no"] (spT a.t_cases_of (zpz f)) := by
 refine T.K_cases_of.okC zl2 (fun vs H Q E h => ?_) (fun cdv A outer s H vs Q E hcd hr h => ?_)
 ·obtain ⟨_, wd, m, ts, tl, il, y, n, rfl, _⟩ := h
  rfl
 obtain ⟨tb, wd, m, ts, tl, il, y, n, rfl, W, htl, ilt, hf, q⟩ := h
 have LC : ((zcj CX0 P w K mg base ["wood", "ties", "yes", "no"] "cases_of" (zab zbn) a.f_cases_of cdv A outer s H E).nox).env.code = .ref a.c_cases_of := hcd.symm.trans T.code_cases_of
 have LF : ∀ y ∈ (zcq (zc0 (zle (zah zbn)[0]?))).names, y.2 = .free → ∃ c, ((zcj CX0 P w K mg base ["wood", "ties", "yes", "no"] "cases_of" (zab zbn) a.f_cases_of cdv A outer s H E).nox).env.cells.lookup y.1 = some c := by
  intro y hy hz
  have e : y = (("wood" : Str), NameKind.free) := by
   have h := (by decide +kernel : ∀ y ∈ (zcq (zc0 (zle (zah zbn)[0]?))).names, y.2 = NameKind.free → y = (("wood" : Str), NameKind.free))
   exact h y hy hz
  subst e
  exact ⟨_, rfl⟩
 refine ⟨_, (zai (zam (zi0 (k := f + 8) hr.lv rfl T.g_told_tree T.K_told_tree.kp T.B_told_tree (fun _ => rfl) (zaa (pv 0) (zaa (pv 1) (zaa (pv 2) (zaa (pv 3) (zaa (zg8 LC LB rfl LF) zac)))))))), ?_⟩
 refine ⟨_, rfl, _, rfl, _, rfl, _, rfl, tb, fun p c' H1 np s1 hp hc base' ci _ _ => ?_⟩
 obtain ⟨cw, u, e1, r1, ic⟩ := ci 0 "wood" (.ref wd) rfl rfl rfl
 have hcells : ((zcj CX0 P w K mg base ["wood", "ties", "yes", "no"] "cases_of" (zab zbn) a.f_cases_of cdv A outer s H E).nox).env.cells = [(("wood" : Str), cw)] := by
  have z : cw = s.heap.objs.size + 1 := (Option.some.inj (show some (s.heap.objs.size + 1) = some cw from e1)).symm
  rw [z]
  rfl
 have G_ware_leaf := zks (P := P) (w := w) (base := base') T
 have L := zpr (P := P) (w := w) (K := K) (mg := mg) (base := base') (ps := ["come", "gone"]) (fr := ["wood"]) (fv := [.ref wd]) (k := 6) (leaf := zdh m) (fun H => WoodT H wd m ts) hp ⟨rfl, rfl, rfl, by decide +kernel, by decide +kernel, by decide +kernel, by decide +kernel⟩
  (fun x cc h => by
   have h' := za4 LF h
   rw [hcells] at h'
   obtain ⟨_, rfl⟩ := zco h'
   exact ⟨_, ic⟩)
  (fun x y cc h1 h2 => by
   have h1' := za4 LF h1
   have h2' := za4 LF h2
   rw [hcells] at h1' h2'
   rw [(zco h1').1, (zco h2').1])
  (fun y hy hz => by
   obtain ⟨c, hc⟩ := LF y hy hz
   exact ⟨c, zb9 LF (by rw [← hz]; exact hy) hc⟩)
  (fun i x v h1 h2 => by
   cases i with
   | zero =>
    cases h1
    cases h2
    exact ⟨cw, u, zb9 LF (by decide +kernel) e1, r1, ic⟩
   | succ i => cases h1)
  rfl (fun _ _ _ => rfl) rfl
  (fun q A outer s H y n Q hr W0 q' => ⟨_, zag G_ware_leaf (hr.mono (by decide)) rfl T.g_ware_leaf T.K_ware_leaf.kp T.B_ware_leaf .nil zal (zaa (pv 2) (zaa (pv 0) (zaa (pv 1) zac))), ⟨_, rfl, _, rfl, _, rfl, wd, m, ts, y, n, rfl, W0, q'⟩⟩)
 have G := zeq (P := P) (w := w) (base := base') (m := m) T L (.all fun us hl => match us, hl with | [_, _], _ => rfl) zfl (fun H H' s h => ⟨h.1.same s, s _ _ h.2.1, s _ _ h.2.2⟩) (fun H h => h.2.1) f
 refine ⟨_, G, wd, ts, tl, il, y, n, rfl, W.same s1, s1 _ _ htl, ilt, hf, ⟨W.same s1, hp, hc⟩, EndsR.all (fun y n hb ho => by unfold zdh; rw [if_pos ho]; simp) _ _, fun v H' s2 dv => q v H' (s1.trans s2) ?_⟩
 rw [← zf3 f y n hf]
 exact dv
end
section
variable {P : Program} {w : World} {K : PySem.W.Frag} {mg : Str → Option Value} {base : Heap} {a : Adr} {d : Fds}
theorem zqm (T : Txt K mg a d) (LB : LamB mg base a.c_cases_of a.t_cases_of) : FnOk P w K mg base CX0 19 a.f_cases d.f_cases ["wood", "yes", "no"] (spT a.t_cases_of zrf) := by
 have G_cases_of := zln (P := P) (w := w) (base := base) T LB 9
 have G_every_tie := zdp (P := P) (w := w) (base := base) T
 refine T.K_cases.ok zp0 (fun vs H Q E h => ?_) (fun cdv A outer s H vs Q E hr h => ?_)
 ·obtain ⟨_, wd, m, ts, y, n, rfl, _⟩ := h
  rfl
 obtain ⟨tb, wd, m, ts, y, n, rfl, W, m9, q⟩ := h
 have of := zi1 m y n
 refine ⟨_, (zai (zam (zag G_cases_of hr.lv rfl T.g_cases_of T.K_cases_of.kp T.B_cases_of .nil zal (zaa (pv 0) (zaa (zag G_every_tie hr.lv rfl T.g_every_tie T.K_every_tie.kp T.B_every_tie .nil zal (zaa (pv 0) zac)) (zaa (pv 1) (zaa (pv 2) zac))))))), ?_⟩
 refine ⟨_, rfl, _, rfl, wd, m, ts, rfl, W, fun l H1 s1 nl hl => ?_⟩
 refine ⟨_, rfl, _, rfl, s1.tab tb, wd, m, ts, l, zhv ts, y, n, rfl, W.same s1, hl, fun i hi => List.mem_range.mp hi, by omega, fun v H2 s2 dv => ?_⟩
 exact q v H2 (s1.trans s2) dv
end
section
variable {P : Program} {w : World} {K : PySem.W.Frag} {mg : Str → Option Value} {base : Heap} {a : Adr} {d : Fds}
theorem zgg (T : Txt K mg a d) : FnOk P w K mg base CX0 5 a.f_is_broken_leaf d.f_is_broken_leaf ["wood", "yes", "no", "t"] zqe := by
 have G_many_ties := zg0 (P := P) (w := w) (base := base) T
 have G_tie_at := zfr (P := P) (w := w) (base := base) T
 have G_sure_broken := ze9 (P := P) (w := w) (base := base) T
 refine T.K_is_broken_leaf.ok zgl (fun vs H Q E h => ?_) (fun cdv A outer s H vs Q E hr h => ?_)
 ·obtain ⟨wd, m, ts, y, n, t, rfl, _⟩ := h
  rfl
 obtain ⟨wd, m, ts, y, n, t, rfl, W, q⟩ := h
 have m9 := W.m9
 have q0 := q H (Same.refl H)
 obtain ⟨xs, ys, WA, dn⟩ := W.ex
 have lx : (xs.length : Int) + (ys.length : Int) = (ts.length : Int) := by
  have := dn.length
  rw [List.length_map, List.length_append] at this
  omega
 refine ⟨_, (zai (zam (zc7 (zlo zgv zmb zad (pv 3) (zag G_many_ties hr.lv rfl T.g_many_ties T.K_many_ties.kp T.B_many_ties .nil zal (zaa (pv 0) zac))) (zcr (zag G_sure_broken hr.lv rfl T.g_sure_broken T.K_sure_broken.kp T.B_sure_broken .nil zal (zaa (zag G_tie_at hr.lv rfl T.g_tie_at T.K_tie_at.kp T.B_tie_at .nil zal (zaa (pv 0) (zaa (pv 3) zac))) (zaa (pv 1) (zaa (pv 2) zac)))))))), ?_⟩
 refine ⟨_, rfl, _, _, rfl, rfl, _, rfl, ?_⟩
 by_cases c0 : 0 ≤ t
 ·refine zro (decide_eq_true c0) ?_
  refine ⟨_, rfl, wd, m, xs, ys, rfl, WA, _, _, rfl, rfl, _, rfl, ?_⟩
  rw [lx]
  by_cases c1 : t < (ts.length : Int)
  ·refine zro (decide_eq_true c1) ?_
   obtain ⟨j, rfl⟩ : ∃ j : Nat, t = (j : Int) := ⟨t.toNat, by omega⟩
   have jl : j < ts.length := by omega
   have hts : ts[j]? = some ts[j] := List.getElem?_eq_getElem jl
   obtain ⟨v2, hv2, hd⟩ := DnL.get' dn (i := j) (d := ts[j].toD) (by rw [List.getElem?_map, hts]; rfl)
   refine ⟨_, rfl, _, rfl, wd, m, xs, ys, j, v2, rfl, WA, hv2, ?_⟩
   refine ⟨_, rfl, _, rfl, ts[j], m, y, n, v2, rfl, hd, W.ok _ (List.getElem_mem jl), by omega, fun H3 s3 => ?_⟩
   have e : brB ts (j : Int) y n = ts[j].sb y n := by
    unfold brB zgy
    rw [decide_eq_true c0, decide_eq_true c1, Int.toNat_natCast, hts]
    rfl
   have q1 := q H3 s3
   rw [e] at q1
   exact q1
  ·refine znz (decide_eq_false c1) ?_
   have e : brB ts t y n = false := by
    unfold brB
    rw [decide_eq_false c1, Bool.false_and, Bool.and_false]
   rw [e] at q0
   exact q0
 ·refine znz (decide_eq_false c0) ?_
  have e : brB ts t y n = false := by
   unfold brB
   rw [decide_eq_false c0, Bool.false_and]
  rw [e] at q0
  exact ⟨_, rfl, q0⟩
end
section
variable {P : Program} {w : World} {K : PySem.W.Frag} {mg : Str → Option Value} {base : Heap} {a : Adr} {d : Fds}
theorem zof (T : Txt K mg a d) (f : Nat) {p : Addr} {C : Hp → Prop} {m : Nat} {ts : List Tie} {lf : Str → Nat → Nat → Bool} {fdL : FuncData} {pl : List Str} {φ : Heap → Prop}
  (L_is_leaf : FnOk P w K mg base CX0 9 p fdL pl (zqr C lf)) (LB_is_leaf : Binds K fdL pl []) (LP_is_leaf : ∀ h : Heap, φ h → ∃ o fd', h.get? p = some o ∧ o.data = .func fd') (hC : ∀ H H', Same H H' → C H → C H') (hCp : ∀ H, C H → H p = some (.ext φ))
  (G_is_tree : FnOk P w K mg base CX0 (f + 9) a.f_is_tree d.f_is_tree ["wood", "yes", "no", "tree", "is_leaf"] (zii f p C m ts lf)) : FnOk P w K mg base CX0 (f + 10) a.f_is_tree d.f_is_tree ["wood", "yes", "no", "tree", "is_leaf"] (zii (f + 1) p C m ts lf) := by
 have G_is_broken_leaf := zgg (P := P) (w := w) (base := base) T
 have G_open_options := zdi (P := P) (w := w) (base := base) T
 have G_with_option := zcl (P := P) (w := w) (base := base) T
 refine T.K_is_tree.ok sc_is_tree (fun vs H Q E h => ?_) (fun cdv A outer s H vs Q E hr h => ?_)
 ·obtain ⟨wd, y, n, t, v, rfl, _⟩ := h
  rfl
 obtain ⟨wd, y, n, t, v, rfl, W, dn, gd, dp, c0, q⟩ := h
 have m9 := W.m9
 obtain ⟨xs, ys, ⟨tb, tc, hw, hb, hc⟩, _⟩ := W.ex
 refine ⟨_, (zae (za9 (zat zby (zap (ixT (K := K)) (pv 3) zad (fun _ _ => rfl)) za0 (zas _)) (zai (zam (zag G_is_broken_leaf hr.lv rfl T.g_is_broken_leaf T.K_is_broken_leaf.kp T.B_is_broken_leaf .nil zal (zaa (pv 0) (zaa (pv 1) (zaa (pv 2) (zaa (zap (ixT (K := K)) (pv 3) zad (fun _ _ => rfl)) zac))))))) zau)
   (zae (za9 (zat zml (zap (ixT (K := K)) (pv 3) zad (fun _ _ => rfl)) za0 (zas _)) (zai (zam (zld (i := 4) L_is_leaf hr.lv rfl (.inl rfl) LB_is_leaf LP_is_leaf (zaa (zap (ixT (K := K)) (pv 3) zad (fun _ _ => rfl)) (zaa (pv 1) (zaa (pv 2) zac)))))) zau)
   (zae (za1 (i := 5) sc_is_tree.nd rfl (Or.inl rfl) (zap (ixT (K := K)) (pv 3) zad (fun _ _ => rfl)))
   (zae (za9 (zat zkq (pv 5) (zag G_open_options hr.lv rfl T.g_open_options T.K_open_options.kp T.B_open_options .nil zal (zaa (zap (ixT (K := K)) (pv 0) zad (fun _ _ => rfl)) (zaa (pv 1) (zaa (pv 2) zac)))) (by with_unfolding_all rfl)) (zai (zam zlc)) zau)
   (zae (za9 (zem (zb8 (zag G_is_tree hr.lv rfl T.g_is_tree T.K_is_tree.kp T.B_is_tree .nil zal (zaa (pv 0) (zaa (zag G_with_option hr.lv rfl T.g_with_option T.K_with_option.kp T.B_with_option .nil zal (zaa (pv 1) (zaa (pv 5) zac))) (zaa (pv 2) (zaa (zap (ixT (K := K)) (pv 3) zad (fun _ _ => rfl)) (zaa (pv 4) zac)))))))) (zai (zam zlc)) zau)
   (zai (zam (zag G_is_tree hr.lv rfl T.g_is_tree T.K_is_tree.kp T.B_is_tree .nil zal (zaa (pv 0) (zaa (pv 1) (zaa (zag G_with_option hr.lv rfl T.g_with_option T.K_with_option.kp T.B_with_option .nil zal (zaa (pv 2) (zaa (pv 5) zac))) (zaa (zap (ixT (K := K)) (pv 3) zad (fun _ _ => rfl)) (zaa (pv 4) zac))))))))))))), ?_⟩
 cases t with
 | broken t =>
  obtain ⟨q0, xs, rfl, hp, xu, r1, rfl, hu, xl, r2, rfl, hlo, hnil⟩ := zcu dn
  cases (show r2 = [] from hnil)
  cases (show xu = .str ("broken" : Str) from hu)
  cases (show xl = .int t from hlo)
  refine ⟨_, rfl, q0, _, _, _, rfl, rfl, sqT hp, at0, rfl, _, rfl, ?_⟩
  refine zdq rfl ?_
  exact ⟨_, rfl, _, rfl, _, rfl, _, rfl, q0, _, _, _, rfl, rfl, sqT hp, at1, wd, m, ts, y, n, t, rfl, W, q⟩
 | leaf wo =>
  obtain ⟨q0, xs, rfl, hp, xu, r1, rfl, hu, hnil⟩ := zcu dn
  cases (show r1 = [] from hnil)
  cases (show xu = .str wo from hu)
  refine ⟨_, rfl, q0, _, _, _, rfl, rfl, sqT hp, at0, rfl, _, rfl, ?_⟩
  refine zb1 gd.1 ?_
  refine ⟨_, rfl, q0, _, _, _, rfl, rfl, sqT hp, at0, rfl, _, rfl, ?_⟩
  refine zn6 gd.2 ?_
  exact ⟨rfl, _, rfl, q0, _, _, _, rfl, rfl, sqT hp, at0, _, rfl, _, rfl, hCp _ c0, wo, y, n, rfl, c0, q⟩
 | split k ta tb' =>
  obtain ⟨q0, xs, rfl, hp, xu, r1, rfl, hu, xl, r2, rfl, hlo, va, r3, rfl, ha, vb, r4, rfl, hb', hnil⟩ := zcu dn
  cases (show r4 = [] from hnil)
  cases (show xu = .str ("split" : Str) from hu)
  cases (show xl = .int k from hlo)
  have da : ta.depth < f := by have e : (WT.split k ta tb').depth = max ta.depth tb'.depth + 1 := rfl; have := Nat.le_max_left ta.depth tb'.depth; omega
  have db : tb'.depth < f := by have e : (WT.split k ta tb').depth = max ta.depth tb'.depth + 1 := rfl; have := Nat.le_max_right ta.depth tb'.depth; omega
  refine ⟨_, rfl, q0, _, _, _, rfl, rfl, sqT hp, at0, rfl, _, rfl, ?_⟩
  refine zb1 zj6 ?_
  refine ⟨_, rfl, q0, _, _, _, rfl, rfl, sqT hp, at0, rfl, _, rfl, ?_⟩
  refine zin rfl ?_
  refine ⟨_, rfl, q0, _, _, _, rfl, rfl, sqT hp, at1, ?_⟩
  refine ⟨_, rfl, _, rfl, wd, _, _, _, rfl, rfl, sqT hw, at0, _, rfl, _, rfl, m, y, n, rfl, by omega, fun l H2 s2 nl hl => ?_⟩
  refine ⟨l, _, rfl, .inl (SqL.of hl), rfl, zox _, _, rfl, ?_⟩
  by_cases c : 0 ≤ k ∧ k.toNat ∈ za8 m y n
  ·refine znz (show (!inV (.int k) (zb4 (za8 m y n))) = false by rw [znx, decide_eq_true c]; rfl) ?_
   obtain ⟨j, rfl⟩ : ∃ j : Nat, k = (j : Int) := ⟨k.toNat, by omega⟩
   have jo : j ∈ za8 m y n := by have := c.2; rwa [Int.toNat_natCast] at this
   have jm := (mem_open.mp jo).1
   refine ⟨_, rfl, _, rfl, _, rfl, y, j, rfl, by omega, _, rfl, _, rfl, q0, _, _, _, rfl, rfl, sqT (s2 _ _ hp), at2, _, rfl, wd, y ||| 2 ^ j, n, ta, va, rfl, W.same s2, Dn.same s2 _ _ ha, gd.1, da, hC _ _ s2 c0, fun H3 s3 => ?_⟩
   refine ⟨_, rfl, ?_⟩
   have s13 := s2.trans s3
   have e : ∀ H', Same H H' → Q (.bl (isT ts m lf ta (y ||| 2 ^ j) n && isT ts m lf tb' y (n ||| 2 ^ j))) H' := fun H' s' => by
    have := q H' s'
    unfold isT at this
    rw [if_pos c, Int.toNat_natCast] at this
    exact this
   cases ea : isT ts m lf ta (y ||| 2 ^ j) n with
   | false =>
    refine zro rfl ?_
    have q3 := e _ s13
    rw [ea, Bool.false_and] at q3
    exact q3
   | true =>
    refine znz rfl ?_
    refine ⟨_, rfl, _, rfl, _, rfl, _, rfl, n, j, rfl, by omega, _, rfl, q0, _, _, _, rfl, rfl, sqT (s13 _ _ hp), at3, _, rfl, wd, y, n ||| 2 ^ j, tb', vb, rfl, W.same s13, Dn.same s13 _ _ hb', gd.2, db, hC _ _ s13 c0, fun H4 s4 => ?_⟩
    have q3 := e _ (s13.trans s4)
    rw [ea, Bool.true_and] at q3
    exact q3
  ·refine zro (show (!inV (.int k) (zb4 (za8 m y n))) = true by rw [znx, decide_eq_false c]; rfl) ?_
   have q2 := q _ s2
   unfold isT at q2
   rw [if_neg c] at q2
   exact q2
theorem zia (T : Txt K mg a d) {p : Addr} {C : Hp → Prop} {m : Nat} {ts : List Tie} {lf : Str → Nat → Nat → Bool} {fdL : FuncData} {pl : List Str} {φ : Heap → Prop}
  (L : FnOk P w K mg base CX0 9 p fdL pl (zqr C lf)) (LB : Binds K fdL pl []) (LP : ∀ h : Heap, φ h → ∃ o fd', h.get? p = some o ∧ o.data = .func fd') (hC : ∀ H H', Same H H' → C H → C H') (hCp : ∀ H, C H → H p = some (.ext φ)) :
  ∀ f : Nat, FnOk P w K mg base CX0 (f + 9) a.f_is_tree d.f_is_tree ["wood", "yes", "no", "tree", "is_leaf"] (zii f p C m ts lf)
 | 0 => ⟨fun _ _ _ _ h => by obtain ⟨_, _, _, _, _, _, _, _, _, z, _⟩ := h; exact absurd z (Nat.not_lt_zero _), fun _ _ _ _ _ _ _ _ _ _ _ _ _ h => by obtain ⟨_, _, _, _, _, _, _, _, _, z, _⟩ := h; exact absurd z (Nat.not_lt_zero _)⟩
 | f + 1 => zof T f L LB LP hC hCp (zia T L LB LP hC hCp f)
end
section
variable {P : Program} {w : World} {K : PySem.W.Frag} {mg : Str → Option Value} {base : Heap} {a : Adr} {d : Fds}
theorem zfy (T : Txt K mg a d) (f : Nat) (G_wares_in : f ≠ 0 → FnOk P w K mg base CX0 (f + 1) a.f_wares_in d.f_wares_in ["yes", "tree"] (zie (f - 1))) : FnOk P w K mg base CX0 (f + 2) a.f_wares_in d.f_wares_in ["yes", "tree"] (zie f) := by
 have G_with_option := zcl (P := P) (w := w) (base := base) T
 refine T.K_wares_in.ok zlk (fun vs H Q E h => ?_) (fun cdv A outer s H vs Q E hr h => ?_)
 ·obtain ⟨y, t, v, rfl, _⟩ := h
  rfl
 obtain ⟨y, t, v, rfl, hd, hdp, f9, sml, q⟩ := h
 cases t with
 | ware =>
  refine ⟨_, zae (za9 (zat zby (zap zkp (pv 1) zad (fun _ _ => rfl)) za0 (zas _)) (zai (zam (zct (zaa (pv 0) zac)))) zau) zfq, ?_⟩
  obtain ⟨p, rfl, hp⟩ := zry hd
  refine ⟨_, rfl, p, _, _, _, rfl, rfl, sqT hp, at0, rfl, _, rfl, ?_⟩
  refine zdq rfl ?_
  refine ⟨_, rfl, small (by show 1 ≤ 1000; decide), fun l hl => ?_⟩
  exact q l _ (zak hl _) hl zaf
 | broken tt =>
  refine ⟨_, zae (za9 (zat zby (zap zkp (pv 1) zad (fun _ _ => rfl)) za0 (zas _)) zfq zau) (zae (za9 (zat zby (zap zkp (pv 1) zad (fun _ _ => rfl)) za0 (zas _)) zfq zau) (zai (zam (zct zac)))), ?_⟩
  obtain ⟨p, rfl, hp⟩ := zoh hd
  refine ⟨_, rfl, p, _, _, _, rfl, rfl, sqT hp, at0, rfl, _, rfl, ?_⟩
  refine zb1 zl7 ?_
  refine ⟨_, rfl, p, _, _, _, rfl, rfl, sqT hp, at0, rfl, _, rfl, ?_⟩
  refine zb1 zkv ?_
  refine ⟨small (by decide), fun l hl => ?_⟩
  exact q l _ (zak hl _) hl zaf
 | split k ta tb =>
  have hf0 : f ≠ 0 := fun z => by rw [z] at hdp; simp [CT.depth] at hdp
  have G_wares_in := G_wares_in hf0
  have hdp' : max ta.depth tb.depth + 1 ≤ f := hdp
  refine ⟨_, (zae (za9 (zat zby (zap (ixT (K := K)) (pv 1) zad (fun _ _ => rfl)) za0 (zas _)) (zai (zam (zct (zaa (pv 0) zac)))) zau)
   (zae (za9 (zat zby (zap (ixT (K := K)) (pv 1) zad (fun _ _ => rfl)) za0 (zas _)) (zai (zam (za2 zs5 (zag G_wares_in hr.lv rfl T.g_wares_in T.K_wares_in.kp T.B_wares_in .nil zal (zaa (zag G_with_option hr.lv rfl T.g_with_option T.K_with_option.kp T.B_with_option .nil zal (zaa (pv 0) (zaa (zap (ixT (K := K)) (pv 1) zad (fun _ _ => rfl)) zac))) (zaa (zap (ixT (K := K)) (pv 1) zad (fun _ _ => rfl)) zac))) (zag G_wares_in hr.lv rfl T.g_wares_in T.K_wares_in.kp T.B_wares_in .nil zal (zaa (pv 0) (zaa (zap (ixT (K := K)) (pv 1) zad (fun _ _ => rfl)) zac)))))) zau)
   (zai (zam (zct zac))))), ?_⟩
  obtain ⟨p, va, vb, rfl, hp, da, db⟩ := zpt hd
  obtain ⟨k1, sa, sb⟩ := sml
  refine ⟨_, rfl, p, _, _, _, rfl, rfl, sqT hp, at0, rfl, _, rfl, ?_⟩
  refine zb1 zmv ?_
  refine ⟨_, rfl, p, _, _, _, rfl, rfl, sqT hp, at0, rfl, _, rfl, ?_⟩
  refine zdq rfl ?_
  refine ⟨_, rfl, _, rfl, p, _, _, _, rfl, rfl, sqT hp, at1, y, k, rfl, k1, _, rfl, p, _, _, _, rfl, rfl, sqT hp, at2, y ||| 2 ^ k, ta, va, rfl, da, by omega, by omega, sa, fun l1 H1 s1 n1 h1 => ?_⟩
  refine ⟨_, rfl, _, rfl, p, _, _, _, rfl, rfl, sqT (s1 _ _ hp), at3, y, tb, vb, rfl, Dn.same s1 _ _ db, by omega, by omega, sb, fun l2 H2 s2 n2 h2 => ?_⟩
  have f1 := zer ta (y ||| 2 ^ k)
  have f2 := zer tb y
  have p1 : 2 ^ ta.depth ≤ 2 ^ 8 := Nat.pow_le_pow_right (by decide) (by omega)
  have p2 : 2 ^ tb.depth ≤ 2 ^ 8 := Nat.pow_le_pow_right (by decide) (by omega)
  refine ⟨l1, l2, _, _, rfl, rfl, s2 _ _ h1, h2, (by rw [List.length_map, List.length_map]; exact small (by omega)), fun l3 h3 => ?_⟩
  have e : zb4 (ta.leaves (y ||| 2 ^ k)) ++ zb4 (tb.leaves y) = zb4 ((CT.split k ta tb).leaves y) := by
   show _ = zb4 (ta.leaves (y ||| 2 ^ k) ++ tb.leaves y)
   rw [zb4, zb4, zb4, List.map_append]
  rw [e]
  exact q l3 _ ((s1.trans s2).trans (zak h3 _)) ((s1.trans s2).free h3) zaf
theorem zhs (T : Txt K mg a d) : ∀ f : Nat, FnOk P w K mg base CX0 (f + 2) a.f_wares_in d.f_wares_in ["yes", "tree"] (zie f)
 | 0 => zfy T 0 fun h => absurd rfl h
 | f + 1 => zfy T (f + 1) fun _ => zhs T f
end
section
variable {P : Program} {w : World} {K : PySem.W.Frag} {mg : Str → Option Value} {base : Heap} {a : Adr} {d : Fds}
theorem zqd (T : Txt K mg a d) (LB : LamB mg base a.c_cases_of a.t_cases_of) : FnOk P w K mg base CX0 20 a.f_wares d.f_wares ["wood"] (spT a.t_cases_of zq6) := by
 have G_cases := zqm (P := P) (w := w) (base := base) T LB
 have G_wares_in := zhs (P := P) (w := w) (base := base) T 9
 have G_with_option := zcl (P := P) (w := w) (base := base) T
 refine T.K_wares.ok sc_wares (fun vs H Q E h => ?_) (fun cdv A outer s H vs Q E hr h => ?_)
 ·obtain ⟨_, wd, m, ts, rfl, _⟩ := h
  rfl
 obtain ⟨tb, wd, m, ts, rfl, W, m1, m9, q⟩ := h
 have of := zi1 m 1 0
 have dp := zet (ts := ts) (il := zhv ts) (m := m) 9 1 0
 have sml := zek (ts := ts) (il := zhv ts) (m := m) (by omega) 9 1 0
 have pm := zmu W.ok m1 9 (by omega)
 refine ⟨_, (zae (za1 (i := 1) sc_wares.nd rfl (Or.inl rfl) (zag G_with_option hr.lv rfl T.g_with_option T.K_with_option.kp T.B_with_option .nil zal (zaa zad (zaa zad zac))))
   (zai (zam (zaz zk3 rfl T.m_sorted PyProof.Rows.boot_sorted (zaa (zag G_wares_in hr.lv rfl T.g_wares_in T.K_wares_in.kp T.B_wares_in .nil zal (zaa (pv 1) (zaa (zag G_cases hr.lv rfl T.g_cases T.K_cases.kp T.B_cases .nil zal (zaa (pv 0) (zaa (pv 1) (zaa zad zac)))) zac))) zac))))), ?_⟩
 refine ⟨0, 0, rfl, by decide, ?_⟩
 refine ⟨_, rfl, _, rfl, _, rfl, tb, wd, m, ts, 1, 0, rfl, W, m9, fun v H1 s1 dv => ?_⟩
 refine ⟨1, _, v, rfl, dv, dp, by omega, sml, fun l H2 s2 n2 hl2 => ?_⟩
 refine ⟨l, ((zb0 ts (zhv ts) m 9 1 0).leaves 1).map (fun k : Nat => (k : Int)), rfl, SqL.of (by rw [hl2]; exact congrArg some (congrArg HO.lst (zny _).symm)), fun ms h1 h2 l3 h3 => ?_⟩
 rw [zls h1 h2 pm (zll m ts), zny]
 exact q l3 _ ((s1.trans s2).trans (zak h3 _)) ((s1.trans s2).free h3) zaf
end
section
variable {P : Program} {w : World} {K : PySem.W.Frag} {mg : Str → Option Value} {base : Heap} {a : Adr} {d : Fds}
theorem zfh (T : Txt K mg a d) : FnOk P w K mg base CX0 1 a.f_check_alike d.f_check_alike ["one", "other"] zpn := by
 refine T.K_check_alike.ok ze6 (fun vs H Q E h => ?_) (fun cdv A outer s H vs Q E hr h => ?_)
 ·obtain ⟨w1, w2, m, t1, t2, rfl, _⟩ := h
  rfl
 obtain ⟨w1, w2, m, t1, t2, rfl, W1, W2, q⟩ := h
 obtain ⟨xs, ys, ⟨tb, tc, hw, hb, hc⟩, _⟩ := W1.ex
 obtain ⟨xs', ys', ⟨tb', tc', hw', hb', hc'⟩, _⟩ := W2.ex
 refine ⟨_, (zai (za9 (zat zml (zap (ixT (K := K)) (pv 0) zad (fun _ _ => rfl)) (zap (ixT (K := K)) (pv 1) zad (fun _ _ => rfl)) (zas _)) (zai zqt) zau)), ?_⟩
 refine ⟨_, rfl, w1, _, _, _, rfl, rfl, sqT hw, at0, _, rfl, w2, _, _, _, rfl, rfl, sqT hw', at0, rfl, _, rfl, ?_⟩
 refine zin rfl ?_
 exact q
end
section
variable {P : Program} {w : World} {K : PySem.W.Frag} {mg : Str → Option Value} {base : Heap} {a : Adr} {d : Fds}
theorem zkl (T : Txt K mg a d) : FnOk P w K mg base CX0 6 a.f_kept_leaf d.f_kept_leaf ["other", "yes", "no"] zrd := by
 have G_all_sure_kept := zef (P := P) (w := w) (base := base) T
 refine T.K_kept_leaf.ok zka (fun vs H Q E h => ?_) (fun cdv A outer s H vs Q E hr h => ?_)
 ·obtain ⟨wd, m, ts, y, n, rfl, _⟩ := h
  rfl
 obtain ⟨wd, m, ts, y, n, rfl, W, q⟩ := h
 refine ⟨_, (zae (za9 (zb8 (zag G_all_sure_kept hr.lv rfl T.g_all_sure_kept T.K_all_sure_kept.kp T.B_all_sure_kept .nil zal (zaa (pv 0) (zaa (pv 1) (zaa (pv 2) zac))))) (zai (zam (zbb (zaa za0 zac)))) zau)
   (zai (zam zeu))), ?_⟩
 refine ⟨_, rfl, _, rfl, _, rfl, wd, m, ts, y, n, rfl, W, fun H1 s1 => ?_⟩
 refine ⟨_, rfl, ?_⟩
 refine zcs (fun c => ?_) (fun c => ?_)
 ·refine ⟨small (by show 1 ≤ 1000; decide), fun tp htp => ?_⟩
  refine q _ _ (s1.trans (zak htp (.tup [.str ("kept" : Str)]))) ?_
  unfold zge zdd
  rw [if_pos c]
  exact ⟨⟨tp, _, rfl, zaf, _, _, rfl, rfl, rfl⟩, tp, rfl⟩
 ·refine q _ _ s1 ?_
  unfold zge zdd
  rw [if_neg c]
end
section
variable {P : Program} {w : World} {K : PySem.W.Frag} {mg : Str → Option Value} {base : Heap} {a : Adr} {d : Fds}
theorem zhd (T : Txt K mg a d) (LBc : LamB mg base a.c_cases_of a.t_cases_of) (LB : LamB mg base a.c_within a.t_within) : FnOk P w K mg base CX0 21 a.f_within d.f_within ["one", "other"] (spT a.t_cases_of (spT a.t_within zok)) := by
 have G_check_alike := zfh (P := P) (w := w) (base := base) T
 have G_wares := zqd (P := P) (w := w) (base := base) T LBc
 have G_is_ware := znf (P := P) (w := w) (base := base) T
 have G_with_option := zcl (P := P) (w := w) (base := base) T
 have G_every_tie := zdp (P := P) (w := w) (base := base) T
 refine T.K_within.okC sc_within (fun vs H Q E h => ?_) (fun cdv A outer s H vs Q E hcd hr h => ?_)
 ·obtain ⟨_, _, w1, w2, m, t1, t2, rfl, _⟩ := h
  rfl
 obtain ⟨tb, tb2, w1, w2, m, t1, t2, rfl, W1, W2, m1, m9, q⟩ := h
 have LC : ((zcj CX0 P w K mg base ["one", "other", "outside", "root"] "within" (zab zbr) a.f_within cdv A outer s H E).nox).env.code = .ref a.c_within := hcd.symm.trans T.code_within
 have LF : ∀ y ∈ (zcq (zc0 (zuk (zle (zah zbr)[4]?)))).names, y.2 = .free → ∃ c, ((zcj CX0 P w K mg base ["one", "other", "outside", "root"] "within" (zab zbr) a.f_within cdv A outer s H E).nox).env.cells.lookup y.1 = some c := by
  intro y hy hz
  have e : y = (("other" : Str), NameKind.free) := by
   have h := (by decide +kernel : ∀ y ∈ (zcq (zc0 (zuk (zle (zah zbr)[4]?)))).names, y.2 = NameKind.free → y = (("other" : Str), NameKind.free))
   exact h y hy hz
  subst e
  exact ⟨_, rfl⟩
 have last : ∃ t, PSs ((zcj CX0 P w K mg base ["one", "other", "outside", "root"] "within" (zab zbr) a.f_within cdv A outer s H E).nox) ((zah zbr).drop 4) t ∧ ∀ (v2 : Option V) (H2 : Hp), Same H H2 → outside m t1 t2 = [] → t { nx := fun _ H' => Q .non H', rt := Q } [some (.ref w1), some (.ref w2), v2, some (.int 1)] H2 := by
  refine ⟨_, (zai (zam (zbb (zaa za0 (zaa (zi0 (k := 17) hr.lv rfl T.g_told_tree T.K_told_tree.kp T.B_told_tree (fun _ => rfl) (zaa (pv 0) (zaa (zag G_every_tie hr.lv rfl T.g_every_tie T.K_every_tie.kp T.B_every_tie .nil zal (zaa (pv 0) zac)) (zaa (pv 3) (zaa zad (zaa (zg8 LC LB rfl LF) zac)))))) zac))))), ?_⟩
  intro v2 H2 s2 ho
  refine ⟨_, rfl, _, rfl, w1, m, t1, rfl, W1.same s2, fun tl H3 s3 ntl htl => ?_⟩
  have s23 := s2.trans s3
  refine ⟨_, rfl, s23.tab tb2, fun p c' H4 np s4 hp hc base' ci _ _ => ?_⟩
  obtain ⟨cw, u, e1, r1, ic⟩ := ci 1 "other" (.ref w2) rfl rfl rfl
  have hcells : ((zcj CX0 P w K mg base ["one", "other", "outside", "root"] "within" (zab zbr) a.f_within cdv A outer s H E).nox).env.cells = [(("other" : Str), cw)] := by
   have z : cw = s.heap.objs.size + 1 := (Option.some.inj (show some (s.heap.objs.size + 1) = some cw from e1)).symm
   rw [z]
   rfl
  have G_kept_leaf := zkl (P := P) (w := w) (base := base') T
  have L := zpr (P := P) (w := w) (K := K) (mg := mg) (base := base') (ps := ["yes", "no"]) (fr := ["other"]) (fv := [.ref w2]) (k := 6) (leaf := zdd t2) (fun H => WoodT H w2 m t2) hp ⟨rfl, rfl, rfl, by decide +kernel, by decide +kernel, by decide +kernel, by decide +kernel⟩
   (fun x cc h => by
    have h' := za4 LF h
    rw [hcells] at h'
    obtain ⟨_, rfl⟩ := zco h'
    exact ⟨_, ic⟩)
   (fun x y cc h1 h2 => by
    have h1' := za4 LF h1
    have h2' := za4 LF h2
    rw [hcells] at h1' h2'
    rw [(zco h1').1, (zco h2').1])
   (fun y hy hz => by
    obtain ⟨c, hc⟩ := LF y hy hz
    exact ⟨c, zb9 LF (by rw [← hz]; exact hy) hc⟩)
   (fun i x v h1 h2 => by
    cases i with
    | zero =>
     cases h1
     cases h2
     exact ⟨cw, u, zb9 LF (by decide +kernel) e1, r1, ic⟩
    | succ i => cases h1)
   rfl (fun _ _ _ => rfl) rfl
   (fun q A outer s H y n Q hr W0 q' => ⟨_, zag G_kept_leaf (hr.mono (by decide)) rfl T.g_kept_leaf T.K_kept_leaf.kp T.B_kept_leaf .nil zal (zaa (pv 2) (zaa (pv 0) (zaa (pv 1) zac))), ⟨_, rfl, _, rfl, _, rfl, w2, m, t2, y, n, rfl, W0, q'⟩⟩)
  have G := zeq (P := P) (w := w) (base := base') (m := m) T L (.all fun us hl => match us, hl with | [_, _], _ => rfl) zfl (fun H H' s h => ⟨h.1.same s, s _ _ h.2.1, s _ _ h.2.2⟩) (fun H h => h.2.1) 9
  have of := zi1 m 1 0
  have s24 := s23.trans s4
  refine ⟨_, G, w1, t1, tl, zhv t1, 1, 0, rfl, W1.same s24, s4 _ _ htl, fun i hi => List.mem_range.mp hi, by omega, ⟨W2.same s24, hp, hc⟩, zlu W1.ok W2.ok ho m1, fun v H5 s5 dv => ?_⟩
  refine ⟨small (by show 2 ≤ 1000; decide), fun tp htp => ?_⟩
  have s6 := zak htp (.tup [.str ("in" : Str), v])
  refine q _ _ ((s24.trans s5).trans s6) ?_
  unfold zen
  rw [ho]
  exact ⟨tp, _, rfl, zaf, _, _, rfl, rfl, _, _, rfl, Dn.same s6 _ _ dv, rfl⟩
 obtain ⟨t4, h4, r4⟩ := last
 refine ⟨_, (zae (zdc (zag G_check_alike hr.lv rfl T.g_check_alike T.K_check_alike.kp T.B_check_alike .nil zal (zaa (pv 0) (zaa (pv 1) zac))))
   (zae (zis (i := 2) sc_within.nd rfl rfl rfl (sc0 := zab zbr) (XN := ["one", "other", "outside", "root"]) (N' := ["ware", "other"]) (n := 1) (kp := [1]) rfl (piL (K := K) (zag G_wares hr.lv rfl T.g_wares T.K_wares.kp T.B_wares .nil zal (zaa (pv 0) zac))) rfl rfl (by decide +kernel) (fun _ _ _ _ _ => (za6 (i := 0) (by show List.Nodup (["ware", "other"] : List Str); decide +kernel) rfl (Or.inl rfl))) (fun _ _ _ _ _ => (zd0 (zem (zb8 (zag G_is_ware hr.lv rfl T.g_is_ware T.K_is_ware.kp T.B_is_ware .nil zal (zaa (pv 1) (zaa (pv 0) zac))))))) (fun _ _ _ _ _ => (pv 0)))
   (zae (za9 (zat zhm (zaz (zfx (K := K)) rfl T.m_len PySem.boot_len (zaa (pv 2) zac)) zad (zas _)) (zai (zam (zbb (zaa za0 (zaa (zap (ixL (K := K)) (pv 2) zad (fun _ _ => rfl)) zac))))) zau)
   (zae (za1 (i := 3) sc_within.nd rfl (Or.inl rfl) (zag G_with_option hr.lv rfl T.g_with_option T.K_with_option.kp T.B_with_option .nil zal (zaa zad (zaa zad zac))))
   h4)))), ?_⟩
 refine ⟨_, rfl, _, rfl, w1, w2, m, t1, t2, rfl, W1, W2, ?_⟩
 have few := zo2 (m := m) (ts := t1) m9
 refine ⟨_, rfl, tb, w1, m, t1, rfl, W1, m1, m9, fun l H1 s1 nl hl => ?_⟩
 refine ⟨l, rfl, ⟨_, SqL.of hl⟩, ?_⟩
 have lw : (zb4 (zc6 m t1)).length = (zc6 m t1).length := List.length_map _
 refine zh8 (K := K) (a := l) (xs := zb4 (zc6 m t1)) (fun i ys σ H2 => (∃ v, σ = [v, some (.ref w2)]) ∧ Same H1 H2 ∧ ys = zb4 (((zc6 m t1).take i).filter fun s => !zde t2 s)) ⟨⟨none, rfl⟩, Same.refl _, rfl⟩ (fun i ys σ H2 hi pv => ?_) (fun i ys σ H2 hi pv => ?_) (fun i x ys σ H2 hx pv => ?_) (fun ys σ H2 pv ol hol => ?_)
 ·obtain ⟨_, _, rfl⟩ := pv
  rw [List.length_map]
  refine small (Nat.le_trans (List.length_filter_le _ _) ?_)
  rw [List.length_take]
  omega
 ·exact SqL.of (pv.2.1 _ _ hl)
 ·obtain ⟨⟨v, rfl⟩, s2, rfl⟩ := pv
  rw [List.getElem?_map] at hx
  obtain ⟨sw, hsw, rfl⟩ := Option.map_eq_some_iff.mp hx
  have et : (zc6 m t1).take (i + 1) = (zc6 m t1).take i ++ [sw] := by rw [List.take_add_one, hsw, Option.toList_some]
  refine ⟨_, rfl, _, rfl, w2, m, t2, sw, rfl, W2.same (s1.trans s2), fun H3 s3 => ?_⟩
  refine ⟨_, rfl, ?_⟩
  cases hk : zde t2 sw
  ·refine zoo ?_
   refine ⟨_, rfl, ⟨_, rfl⟩, s2.trans s3, ?_⟩
   rw [et, List.filter_append, List.filter_cons_of_pos (by rw [hk]; rfl)]
   show _ = List.map _ (_ ++ _)
   rw [List.map_append]
   rfl
  ·refine zee ?_
   refine ⟨⟨_, rfl⟩, s2.trans s3, ?_⟩
   rw [et, List.filter_append, List.filter_cons_of_neg (by rw [hk]; decide), List.filter_nil, List.append_nil]
 obtain ⟨_, s2, rfl⟩ := pv
 rw [lw, List.take_length] at *
 have s3 := zak hol (.lst (zb4 ((zc6 m t1).filter fun s => !zde t2 s)))
 have hol3 : L2.upd H2 ol (.lst (zb4 ((zc6 m t1).filter fun s => !zde t2 s))) ol = some (.lst (zb4 (outside m t1 t2))) := zaf
 have s13 := (s1.trans s2).trans s3
 generalize L2.upd H2 ol (.lst (zb4 ((zc6 m t1).filter fun s => !zde t2 s))) = H3 at s3 hol3 s13 ⊢
 refine ⟨_, rfl, ol, _, rfl, .inl (SqL.of hol3), _, _, rfl, rfl, _, rfl, ?_⟩
 cases ho : outside m t1 t2 with
 | nil =>
  rw [ho] at hol3
  refine zgx (by rfl) ?_
  refine ⟨0, 0, rfl, by decide, ?_⟩
  exact r4 _ _ s13 ho
 | cons so r =>
  rw [ho] at hol3
  refine zjj (decide_eq_true (by rw [List.length_map, List.length_cons]; omega)) ?_
  refine ⟨_, rfl, ol, _, _, _, rfl, rfl, SqL.of hol3, at0, small (by show 2 ≤ 1000; decide), fun tp htp => ?_⟩
  have s4 := zak htp (.tup [.str ("out" : Str), .int (so : Int)])
  refine q _ _ (s13.trans s4) ?_
  unfold zen
  rw [ho]
  exact ⟨tp, _, rfl, zaf, _, _, rfl, rfl, _, _, rfl, rfl, rfl⟩
end
section
variable {P : Program} {w : World} {K : PySem.W.Frag} {mg : Str → Option Value} {base : Heap} {a : Adr} {d : Fds}
theorem zh3 (T : Txt K mg a d) : FnOk P w K mg base CX0 8 a.f_is_kept_leaf d.f_is_kept_leaf ["other", "word", "yes", "no"] zr6 := by
 have G_all_sure_kept := zef (P := P) (w := w) (base := base) T
 refine T.K_is_kept_leaf.ok zhx (fun vs H Q E h => ?_) (fun cdv A outer s H vs Q E hr h => ?_)
 ·obtain ⟨wd, m, ts, wo, y, n, rfl, _⟩ := h
  rfl
 obtain ⟨wd, m, ts, wo, y, n, rfl, W, q⟩ := h
 refine ⟨_, (zai (zam (zc7 (zck zby (pv 1) za0 (zas _)) (zcr (zag G_all_sure_kept hr.lv rfl T.g_all_sure_kept T.K_all_sure_kept.kp T.B_all_sure_kept .nil zal (zaa (pv 0) (zaa (pv 2) (zaa (pv 3) zac)))))))), ?_⟩
 refine ⟨_, rfl, rfl, _, rfl, ?_⟩
 unfold zkc at q
 by_cases c : V.str wo = V.str ("kept" : Str)
 ·refine zdq c ?_
  refine ⟨_, rfl, _, rfl, _, rfl, wd, m, ts, y, n, rfl, W, fun H' s' => ?_⟩
  have := q H' s'
  rw [decide_eq_true c, Bool.true_and] at this
  exact this
 ·refine zb1 c ?_
  have := q H (Same.refl _)
  rw [decide_eq_false c, Bool.false_and] at this
  exact this
end
section
variable {P : Program} {w : World} {K : PySem.W.Frag} {mg : Str → Option Value} {base : Heap} {a : Adr} {d : Fds}
theorem zhu (T : Txt K mg a d) (LB : LamB mg base a.c_shows_within a.t_shows_within) : FnOk P w K mg base CX0 21 a.f_shows_within d.f_shows_within ["one", "other", "tree"] (spT a.t_shows_within (zrv 11)) := by
 have G_check_alike := zfh (P := P) (w := w) (base := base) T
 have G_with_option := zcl (P := P) (w := w) (base := base) T
 refine T.K_shows_within.okC sc_shows_within (fun vs H Q E h => ?_) (fun cdv A outer s H vs Q E hcd hr h => ?_)
 ·obtain ⟨_, w1, w2, m, t1, t2, t, v, rfl, _⟩ := h
  rfl
 obtain ⟨tb, w1, w2, m, t1, t2, t, v, rfl, W1, W2, dn, gd, dp, q⟩ := h
 have LC : ((zcj CX0 P w K mg base ["one", "other", "tree", "root"] "shows_within" (zab zay) a.f_shows_within cdv A outer s H E).nox).env.code = .ref a.c_shows_within := hcd.symm.trans T.code_shows_within
 have LF : ∀ y ∈ (zcq (zc0 (zle (zah zay)[2]?))).names, y.2 = .free → ∃ c, ((zcj CX0 P w K mg base ["one", "other", "tree", "root"] "shows_within" (zab zay) a.f_shows_within cdv A outer s H E).nox).env.cells.lookup y.1 = some c := by
  intro y hy hz
  have e : y = (("other" : Str), NameKind.free) := by
   have h := (by decide +kernel : ∀ y ∈ (zcq (zc0 (zle (zah zay)[2]?))).names, y.2 = NameKind.free → y = (("other" : Str), NameKind.free))
   exact h y hy hz
  subst e
  exact ⟨_, rfl⟩
 have last : ∃ t', PSs ((zcj CX0 P w K mg base ["one", "other", "tree", "root"] "shows_within" (zab zay) a.f_shows_within cdv A outer s H E).nox) ((zah zay).drop 2) t' ∧ t' { nx := fun _ H' => Q .non H', rt := Q } [some (.ref w1), some (.ref w2), some v, some (.int 1)] H := by
  refine ⟨_, (zai (zam (zi0 (k := 20) hr.lv rfl T.g_is_tree T.K_is_tree.kp T.B_is_tree (fun _ => rfl) (zaa (pv 0) (zaa (pv 3) (zaa zad (zaa (pv 2) (zaa (zg8 LC LB rfl LF) zac)))))))), ?_⟩
  refine ⟨_, rfl, _, rfl, _, rfl, tb, fun p c' H1 np s1 hp hc base' ci _ _ => ?_⟩
  obtain ⟨cw, u, e1, r1, ic⟩ := ci 1 "other" (.ref w2) rfl rfl rfl
  have hcells : ((zcj CX0 P w K mg base ["one", "other", "tree", "root"] "shows_within" (zab zay) a.f_shows_within cdv A outer s H E).nox).env.cells = [(("other" : Str), cw)] := by
   have z : cw = s.heap.objs.size + 1 := (Option.some.inj (show some (s.heap.objs.size + 1) = some cw from e1)).symm
   rw [z]
   rfl
  have G_is_kept_leaf := zh3 (P := P) (w := w) (base := base') T
  have L := zre (P := P) (w := w) (K := K) (mg := mg) (base := base') (ps := ["word", "yes", "no"]) (fr := ["other"]) (fv := [.ref w2]) (k := 8) (lf := zkc t2) (fun H => WoodT H w2 m t2) hp ⟨rfl, rfl, rfl, by decide +kernel, by decide +kernel, by decide +kernel, by decide +kernel⟩
   (fun x cc h => by
    have h' := za4 LF h
    rw [hcells] at h'
    obtain ⟨_, rfl⟩ := zco h'
    exact ⟨_, ic⟩)
   (fun x y cc h1 h2 => by
    have h1' := za4 LF h1
    have h2' := za4 LF h2
    rw [hcells] at h1' h2'
    rw [(zco h1').1, (zco h2').1])
   (fun y hy hz => by
    obtain ⟨c, hc⟩ := LF y hy hz
    exact ⟨c, zb9 LF (by rw [← hz]; exact hy) hc⟩)
   (fun i x v h1 h2 => by
    cases i with
    | zero =>
     cases h1
     cases h2
     exact ⟨cw, u, zb9 LF (by decide +kernel) e1, r1, ic⟩
    | succ i => cases h1)
   rfl (fun _ _ _ => rfl) rfl
   (fun q A outer s H wo y n Q hr W0 q' => ⟨_, zag G_is_kept_leaf (hr.mono (by decide)) rfl T.g_is_kept_leaf T.K_is_kept_leaf.kp T.B_is_kept_leaf .nil zal (zaa (pv 3) (zaa (pv 0) (zaa (pv 1) (zaa (pv 2) zac)))), ⟨_, rfl, _, rfl, _, rfl, _, rfl, w2, m, t2, wo, y, n, rfl, W0, q'⟩⟩)
  have G := zia (P := P) (w := w) (base := base') (m := m) (ts := t1) T L (.all fun us hl => match us, hl with | [_, _, _], _ => rfl) zfl (fun H H' s h => ⟨h.1.same s, s _ _ h.2.1, s _ _ h.2.2⟩) (fun H h => h.2.1) 11
  exact ⟨_, G, w1, 1, 0, t, v, rfl, W1.same s1, Dn.same s1 _ _ dn, gd, dp, ⟨W2.same s1, hp, hc⟩, fun H' s2 => q H' (s1.trans s2)⟩
 obtain ⟨t4, h4, r4⟩ := last
 refine ⟨_, (zae (zdc (zag G_check_alike hr.lv rfl T.g_check_alike T.K_check_alike.kp T.B_check_alike .nil zal (zaa (pv 0) (zaa (pv 1) zac))))
   (zae (za1 (i := 3) sc_shows_within.nd rfl (Or.inl rfl) (zag G_with_option hr.lv rfl T.g_with_option T.K_with_option.kp T.B_with_option .nil zal (zaa zad (zaa zad zac))))
   h4)), ?_⟩
 refine ⟨_, rfl, _, rfl, w1, w2, m, t1, t2, rfl, W1, W2, ?_⟩
 exact ⟨0, 0, rfl, by decide, r4⟩
end
section
variable {P : Program} {w : World} {K : PySem.W.Frag} {mg : Str → Option Value} {base : Heap} {a : Adr} {d : Fds}
theorem zly (T : Txt K mg a d) (LBc : LamB mg base a.c_cases_of a.t_cases_of) (LB : LamB mg base a.c_within a.t_within) : FnOk P w K mg base CX0 22 a.f_compared d.f_compared ["one", "other"] (spT a.t_cases_of (spT a.t_within zm4)) := by
 have G_within := zhd (P := P) (w := w) (base := base) T LBc LB
 refine T.K_compared.ok sc_compared (fun vs H Q E h => ?_) (fun cdv A outer s H vs Q E hr h => ?_)
 ·obtain ⟨_, _, w1, w2, m, t1, t2, rfl, _⟩ := h
  rfl
 obtain ⟨ta, tb, w1, w2, m, t1, t2, rfl, W1, W2, m1, m9, q⟩ := h
 refine ⟨_, (zae (za1 (i := 2) sc_compared.nd rfl (Or.inl rfl) (zag G_within hr.lv rfl T.g_within T.K_within.kp T.B_within .nil zal (zaa (pv 0) (zaa (pv 1) zac))))
   (zae (za1 (i := 3) sc_compared.nd rfl (Or.inl rfl) (zag G_within hr.lv rfl T.g_within T.K_within.kp T.B_within .nil zal (zaa (pv 1) (zaa (pv 0) zac))))
   (zae (za9 (PW.pt (ziq (zat zby (zap (ixT (K := K)) (pv 2) zad (fun _ _ => rfl)) za0 (zas _)) (zgz (zat zby (zap (ixT (K := K)) (pv 3) zad (fun _ _ => rfl)) za0 (zas _))))) (zai (zam (zbb (zaa za0 (zaa (zap (ixT (K := K)) (pv 2) zad (fun _ _ => rfl)) (zaa (zap (ixT (K := K)) (pv 3) zad (fun _ _ => rfl)) zac)))))) zau)
   (zae (za9 (zat zby (zap (ixT (K := K)) (pv 2) zad (fun _ _ => rfl)) za0 (zas _)) (zai (zam (zbb (zaa za0 (zaa (zap (ixT (K := K)) (pv 2) zad (fun _ _ => rfl)) (zaa (zap (ixT (K := K)) (pv 3) zad (fun _ _ => rfl)) zac)))))) zau)
   (zae (za9 (zat zby (zap (ixT (K := K)) (pv 3) zad (fun _ _ => rfl)) za0 (zas _)) (zai (zam (zbb (zaa za0 (zaa (zap (ixT (K := K)) (pv 3) zad (fun _ _ => rfl)) (zaa (zap (ixT (K := K)) (pv 2) zad (fun _ _ => rfl)) zac)))))) zau)
   (zai (zam (zbb (zaa za0 (zaa (zap (ixT (K := K)) (pv 2) zad (fun _ _ => rfl)) (zaa (zap (ixT (K := K)) (pv 3) zad (fun _ _ => rfl)) zac))))))))))), ?_⟩
 refine ⟨_, rfl, _, rfl, ta, tb, w1, w2, m, t1, t2, rfl, W1, W2, m1, m9, fun v1 H1 s1 d1 => ?_⟩
 refine ⟨_, rfl, _, rfl, s1.tab ta, s1.tab tb, w2, w1, m, t2, t1, rfl, W2.same s1, W1.same s1, m1, m9, fun v2 H2 s2 d2 => ?_⟩
 have s12 := s1.trans s2
 rw [zm5] at d1 d2
 replace d1 := Dn.same s2 _ _ d1
 obtain ⟨p1, _, rfl, hp1, x1, _, rfl, hx1, y1, _, rfl, hy1, rfl⟩ := zcu d1
 obtain ⟨p2, _, rfl, hp2, x2, _, rfl, hx2, y2, _, rfl, hy2, rfl⟩ := zcu d2
 have fin : ∀ (x : Str) (p q' : V) (d e : PyData), Dn H2 d p → Dn H2 e q' → ztm m t1 t2 = .tuple [.str x, d, e] → ∀ tp, H2 tp = none → Q (.ref tp) (L2.upd H2 tp (.tup [.str x, p, q'])) := by
  intro x p q' d e hd he ec tp htp
  have s3 := zak htp (.tup [.str x, p, q'])
  refine q _ _ (s12.trans s3) ?_
  rw [ec]
  exact ⟨tp, _, rfl, zaf, _, _, rfl, rfl, _, _, rfl, Dn.same s3 _ _ hd, _, _, rfl, Dn.same s3 _ _ he, rfl⟩
 unfold ztm at fin
 cases b1 : wIn m t1 t2 <;> cases b2 : wIn m t2 t1 <;> rw [b1] at hx1 fin <;> rw [b2] at hx2 fin
 ·cases (show x1 = .str ("out" : Str) from hx1)
  cases (show x2 = .str ("out" : Str) from hx2)
  refine ⟨_, rfl, p1, _, _, _, rfl, rfl, sqT hp1, at0, rfl, _, rfl, ?_⟩
  refine zgx (by decide +kernel) ?_
  refine zee ?_
  refine ⟨_, rfl, p1, _, _, _, rfl, rfl, sqT hp1, at0, rfl, _, rfl, ?_⟩
  refine zgx (by decide +kernel) ?_
  refine ⟨_, rfl, p2, _, _, _, rfl, rfl, sqT hp2, at0, rfl, _, rfl, ?_⟩
  refine zgx (by decide +kernel) ?_
  exact ⟨_, rfl, p1, _, _, _, rfl, rfl, sqT hp1, at1, _, rfl, p2, _, _, _, rfl, rfl, sqT hp2, at1, small (by show 3 ≤ 1000; decide), fin _ _ _ _ _ hy1 hy2 (zmm _ _ _)⟩
 ·cases (show x1 = .str ("out" : Str) from hx1)
  cases (show x2 = .str ("in" : Str) from hx2)
  refine ⟨_, rfl, p1, _, _, _, rfl, rfl, sqT hp1, at0, rfl, _, rfl, ?_⟩
  refine zgx (by decide +kernel) ?_
  refine zee ?_
  refine ⟨_, rfl, p1, _, _, _, rfl, rfl, sqT hp1, at0, rfl, _, rfl, ?_⟩
  refine zgx (by decide +kernel) ?_
  refine ⟨_, rfl, p2, _, _, _, rfl, rfl, sqT hp2, at0, rfl, _, rfl, ?_⟩
  refine zjj (by decide +kernel) ?_
  exact ⟨_, rfl, p2, _, _, _, rfl, rfl, sqT hp2, at1, _, rfl, p1, _, _, _, rfl, rfl, sqT hp1, at1, small (by show 3 ≤ 1000; decide), fin _ _ _ _ _ hy2 hy1 (zos _ _ _)⟩
 ·cases (show x1 = .str ("in" : Str) from hx1)
  cases (show x2 = .str ("out" : Str) from hx2)
  refine ⟨_, rfl, p1, _, _, _, rfl, rfl, sqT hp1, at0, rfl, _, rfl, ?_⟩
  refine zjj (by decide +kernel) ?_
  refine ⟨_, rfl, p2, _, _, _, rfl, rfl, sqT hp2, at0, rfl, _, rfl, ?_⟩
  refine zgx (by decide +kernel) ?_
  refine ⟨_, rfl, p1, _, _, _, rfl, rfl, sqT hp1, at0, rfl, _, rfl, ?_⟩
  refine zjj (by decide +kernel) ?_
  exact ⟨_, rfl, p1, _, _, _, rfl, rfl, sqT hp1, at1, _, rfl, p2, _, _, _, rfl, rfl, sqT hp2, at1, small (by show 3 ≤ 1000; decide), fin _ _ _ _ _ hy1 hy2 (zpj _ _ _)⟩
 ·cases (show x1 = .str ("in" : Str) from hx1)
  cases (show x2 = .str ("in" : Str) from hx2)
  refine ⟨_, rfl, p1, _, _, _, rfl, rfl, sqT hp1, at0, rfl, _, rfl, ?_⟩
  refine zjj (by decide +kernel) ?_
  refine ⟨_, rfl, p2, _, _, _, rfl, rfl, sqT hp2, at0, rfl, _, rfl, ?_⟩
  refine zjj (by decide +kernel) ?_
  exact ⟨_, rfl, p1, _, _, _, rfl, rfl, sqT hp1, at1, _, rfl, p2, _, _, _, rfl, rfl, sqT hp2, at1, small (by show 3 ≤ 1000; decide), fin _ _ _ _ _ hy1 hy2 (zp8 _ _ _)⟩
end
section
variable {P : Program} {w : World} {K : PySem.W.Frag} {mg : Str → Option Value} {base : Heap} {a : Adr} {d : Fds}
theorem zdg (T : Txt K mg a d) : FnOk P w K mg base CX0 1 a.f_law_take d.f_law_take ["_law_state", "_law_most"] (zs9 K) := by
 refine T.K_law_take.ok sc_law_take (fun vs H Q E h => ?_) (fun cdv A outer s H vs Q E hr h => ?_)
 ·obtain ⟨pen, sp, ns, most, k, rfl, _⟩ := h
  rfl
 obtain ⟨pen, sp, ns, most, k, rfl, pn, k0, k1, m0, q⟩ := h
 have hp := pn.at_
 have el : (ns.map V.int).length = ns.length := List.length_map _
 have item : ∀ j : Int, 0 ≤ j → j < ns.length → ∃ v : Int, atI (ns.map V.int) j = some (.int v) := fun j j0 j1 => by
  obtain ⟨m, rfl⟩ : ∃ m : Nat, j = (m : Int) := ⟨j.toNat, by omega⟩
  have hj : m < ns.length := by omega
  refine ⟨ns[m], zdz ?_⟩
  rw [List.getElem?_map, List.getElem?_eq_getElem hj]
  rfl
 have last : ∃ t, PSs (zcj CX0 P w K mg base ["_law_state", "_law_most", "_law_script", "_law_at", "_law_number"] "_law_take" (zab zb6) a.f_law_take cdv A outer s H E).nox ((zah zb6).drop 5) t ∧ ∀ (N : Int) (v0 v2 v3 : Option V), t { nx := fun _ H' => Q .non H', rt := Q } [v0, some (.int most), v2, v3, some (.int N)] (L2.upd H pen (.lst [.ref sp, .int (k + 1)])) := by
  refine ⟨_, (zai (zam (za2 zes (za2 zes (za2 zd5 (za2 zes (za2 zd5 (pv 4) zad) zad) (za2 zci (za2 zes (pv 4) zad) zad)) zad) (pv 1)))), fun N v0 v2 v3 => ?_⟩
  have n0 : 0 ≤ N * 48271 % 2147483629 := Int.emod_nonneg _ (by decide)
  have n1 : N * 48271 % 2147483629 < 2147483629 := Int.emod_lt_of_pos _ (by decide)
  refine ⟨_, rfl, _, _, rfl, rfl, .inr ⟨by decide, by decide⟩, _, _, rfl, rfl, (by show (0 : Int) < 2147483629; decide), _, rfl, _, _, rfl, rfl, (by show (0 : Int) < 65521; decide), _, _, rfl, rfl, _, _, rfl, rfl, .inl ⟨by omega, by omega⟩, _, _, rfl, rfl, (by show (0 : Int) < 999999937; decide), _, rfl, _, _, rfl, rfl, m0, ?_⟩
  exact q _ (Int.emod_nonneg _ (by omega)) (Int.emod_lt_of_pos _ m0)
 obtain ⟨t5, h5, r5⟩ := last
 refine ⟨_, (zae (zik (pv 0) (zta (K := K) rfl (zbk (za6 (i := 2) sc_law_take.nd rfl (Or.inl rfl)) (zbk (za6 (i := 3) sc_law_take.nd rfl (Or.inl rfl)) zdl))))
   (zae (zik (za2 zci (pv 3) zad) (zsx (pv 0) zad zqk))
   (zae (za9 (zat zmb (pv 3) (zaz (zfx (K := K)) rfl T.m_len PySem.boot_len (zaa (pv 2) zac)) (zas _)) (zai (zam (za2 zes (zap (ixL (K := K)) (pv 2) (pv 3) (fun _ _ => rfl)) (pv 1)))) zau)
   (zae (za1 (i := 4) sc_law_take.nd rfl (Or.inl rfl) (za2 zci (za2 zci (za2 zd5 (za2 zd5 (pv 3) (pv 3)) zad) (za2 zd5 zad (pv 3))) zad))
   (zae (za9 (zat zhm (zaz (zfx (K := K)) rfl T.m_len PySem.boot_len (zaa (pv 2) zac)) zad (zas _)) (zai (za1 (i := 4) sc_law_take.nd rfl (Or.inl rfl) (za2 zci (pv 4) (za2 zd5 (za2 zes (zap (ixL (K := K)) (pv 2) (za2 zes (za2 zd5 (pv 3) zad) (zaz (zfx (K := K)) rfl T.m_len PySem.boot_len (zaa (pv 2) zac))) (fun _ _ => rfl)) zad) (za2 zci (pv 3) zad))))) zau)
   h5))))), ?_⟩
 refine ⟨_, rfl, pen, _, rfl, SqL.of hp, rfl, _, _, rfl, _, _, rfl, rfl, ?_⟩
 refine ⟨_, rfl, _, _, rfl, rfl, _, rfl, pen, _, _, _, rfl, rfl, hp, rfl, ?_⟩
 have hS := pn.scr _ (za3 (pen := pen) (H := H) (.lst [.ref sp, .int (k + 1)]))
 refine ⟨_, rfl, _, rfl, sp, _, rfl, .inl hS, _, _, rfl, rfl, _, rfl, ?_⟩
 refine zcs (fun c => ?_) (fun c => ?_)
 ·have c' : k < ((ns.map V.int).length : Nat) := of_decide_eq_true c
  rw [el] at c'
  obtain ⟨v, hv⟩ := item k k0 c'
  exact ⟨_, rfl, _, rfl, sp, _, _, _, rfl, rfl, hS, hv, _, rfl, _, _, rfl, rfl, m0, q _ (Int.emod_nonneg _ (by omega)) (Int.emod_lt_of_pos _ m0)⟩
 refine ⟨_, rfl, _, rfl, _, _, rfl, rfl, (by unfold CMul; omega), _, _, rfl, rfl, .inr ⟨by decide, by decide⟩, _, rfl, _, _, rfl, rfl, .inl ⟨by decide, by decide⟩, _, _, rfl, rfl, _, _, rfl, rfl, ?_⟩
 refine ⟨_, rfl, sp, _, rfl, .inl hS, _, _, rfl, rfl, _, rfl, ?_⟩
 refine zcs (fun c2 => ?_) (fun c2 => ?_)
 ·have c2' : (0 : Int) < ((ns.map V.int).length : Nat) := of_decide_eq_true c2
  rw [el] at c2'
  have m0' : 0 ≤ k * 3 % (ns.length : Int) := Int.emod_nonneg _ (by omega)
  have m1' : k * 3 % (ns.length : Int) < ns.length := Int.emod_lt_of_pos _ c2'
  obtain ⟨v, hv⟩ := item _ m0' m1'
  have v0 : 0 ≤ v % 2147483563 := Int.emod_nonneg _ (by decide)
  have v1 : v % 2147483563 < 2147483563 := Int.emod_lt_of_pos _ (by decide)
  refine ⟨_, rfl, _, rfl, _, rfl, _, _, rfl, rfl, .inr ⟨by decide, by decide⟩, _, rfl, sp, _, rfl, .inl hS, _, _, rfl, rfl, (by rw [el]; exact c2'), sp, _, _, _, rfl, rfl, hS, (by rw [el]; exact hv), ?_⟩
  refine ⟨_, _, rfl, rfl, (by show (0 : Int) < 2147483563; decide), _, rfl, _, _, rfl, rfl, _, _, rfl, rfl, .inl ⟨by omega, by omega⟩, _, _, rfl, rfl, ?_⟩
  exact r5 _ _ _ _
 ·exact r5 _ _ _ _
end
section
variable {P : Program} {w : World} {K : PySem.W.Frag} {mg : Str → Option Value} {base : Heap} {a : Adr} {d : Fds}
theorem zjk (T : Txt K mg a d) : FnOk P w K mg base CX0 2 a.f_law_boughs d.f_law_boughs ["_law_state", "_law_many_here"] (zo7 K) := by
 have G_law_take := zdg (P := P) (w := w) (base := base) T
 refine T.K_law_boughs.ok sc_law_boughs (fun vs H Q E h => ?_) (fun cdv A outer s H vs Q E hr h => ?_)
 ·obtain ⟨pen, sp, ns, m, k, rfl, _⟩ := h
  rfl
 obtain ⟨pen, sp, ns, m, k, rfl, pn, k0, k1, m1, m9, q⟩ := h
 have p62 : (2 : Int) ^ 62 = 4611686018427387904 := by decide
 have tailA : ∃ t, PSs (zcj CX0 P w K mg base ["_law_state", "_law_many_here", "_law_groups", "_law_k", "_law_up", "_law_old", "_law_boughs_here", "_law_kids", "_law_size", "_law_low", "_law_high"] "_law_boughs" (zab zbl) a.f_law_boughs cdv A outer s H E).nox ((zr3 (zah zbl) 3).drop 3) t ∧ ∀ (D : zh4) (g bl l : Addr) (u lo hi : Int) (kids : List Int) (v3 v5 v8 : Option V) (xs : List V) (H5 : Hp), H5 l = some (.lst (kids.map V.int)) → H5 bl = some (.lst xs) → xs.length ≤ 100 →
   (∀ (v : V) (H6 : Hp), Same H5 H6 → Dn H6 (zf9 u lo hi kids) v → D.nx [some (.ref pen), some (.int (m : Int)), some (.ref g), v3, some (.int u), v5, some (.ref bl), some (.ref l), v8, some (.int lo), some (.int hi)] (L2.upd H6 bl (.lst (xs ++ [v])))) →
   t D [some (.ref pen), some (.int (m : Int)), some (.ref g), v3, some (.int u), v5, some (.ref bl), some (.ref l), v8, some (.int lo), some (.int hi)] H5 := by
  refine ⟨_, (zai (zdc (zif (K := K) PySem.F.plainAttrs_list PySem.F.slot_list_append PySem.F.type_list_append zfu (pv 6) (zaa (zbb (zaa (pv 4) (zaa (pv 9) (zaa (pv 10) (zaa (zcw zcz rfl T.m_tuple PyProof.Rows.boot_tuple (zaa (pv 7) zac)) zac))))) zac)))), ?_⟩
  intro D g bl l u lo hi kids v3 v5 v8 xs H5 hl hbl few nx
  refine ⟨_, rfl, .inl ⟨rfl, _, SqL.of hbl⟩, _, rfl, _, rfl, _, rfl, _, rfl, l, _, rfl, .inl ⟨SqL.of hl, fun tk htk => ?_⟩⟩
  refine ⟨small (by show 4 ≤ 1000; decide), fun tb htb => ?_⟩
  have s1 := zak htk (.tup (kids.map V.int))
  have s2 := zak htb (.tup [.int u, .int lo, .int hi, .ref tk])
  have s12 := s1.trans s2
  refine ⟨bl, _, _, rfl, rfl, s12 _ _ hbl, zcy (by omega), ?_⟩
  exact nx _ _ s12 ⟨tb, _, rfl, zaf, _, _, rfl, rfl, _, _, rfl, rfl, _, _, rfl, rfl, _, _, rfl, ⟨tk, _, rfl, s2 _ _ zaf, zgj kids⟩, rfl⟩
 obtain ⟨tA, hA, rA⟩ := tailA
 refine ⟨_, (zae (za1 (i := 2) sc_law_boughs.nd rfl (Or.inl rfl) (zct zac))
   (zae (zg7 PassesOwn.never rfl (zow rfl T.m_range (zaa zad (zaa (pv 1) zac))) (za6 (i := 3) sc_law_boughs.nd rfl (Or.inl rfl)) (zae (za1 (i := 4) sc_law_boughs.nd rfl (Or.inr rfl) (za2 zd5 (zag G_law_take hr.lv rfl T.g_law_take T.K_law_take.kp T.B_law_take .nil zal (zaa (pv 0) (zaa (pv 3) zac))) (zcw zj1 rfl T.m_int PyProof.Rows.boot_int (zaa (zck zhm (zag G_law_take hr.lv rfl T.g_law_take T.K_law_take.kp T.B_law_take .nil zal (zaa (pv 0) (zaa zad zac))) zad (zas _)) zac))))
   (zae (zis (i := 5) sc_law_boughs.nd rfl rfl rfl (sc0 := zab zbl) (XN := ["_law_state", "_law_many_here", "_law_groups", "_law_k", "_law_up", "_law_old", "_law_boughs_here", "_law_kids", "_law_size", "_law_low", "_law_high"]) (N' := ["_law_group", "_law_up"]) (n := 1) (kp := [4]) rfl (piL (K := K) (pv 2)) rfl rfl (by decide +kernel) (fun _ _ _ _ _ => (za6 (i := 0) (by show List.Nodup (["_law_group", "_law_up"] : List Str); decide +kernel) rfl (Or.inl rfl))) (fun _ _ _ _ _ => (zd0 (zat zby (zap (ixT (K := K)) (pv 0) zad (fun _ _ => rfl)) (pv 1) (zas _)))) (fun _ _ _ _ _ => (pv 0)))
   (zai (za9 (PW.pt (ziq (zat (zmo hr.units) (pv 5) (zct zac) (zas _)) (zgz (zat zhm (zag G_law_take hr.lv rfl T.g_law_take T.K_law_take.kp T.B_law_take .nil zal (zaa (pv 0) (zaa zad zac))) zad (zas _))))) (zai (zdc (zif (K := K) PySem.F.plainAttrs_list PySem.F.slot_list_append PySem.F.type_list_append zfu (zap (ixT (K := K)) (zap (ixL (K := K)) (pv 5) (zpi zng zad) (fun _ _ => rfl)) zad (fun _ _ => rfl)) (zaa (pv 3) zac)))) (zai (zdc (zif (K := K) PySem.F.plainAttrs_list PySem.F.slot_list_insert PySem.F.type_list_insert zol (pv 2) (zaa (zag G_law_take hr.lv rfl T.g_law_take T.K_law_take.kp T.B_law_take .nil zal (zaa (pv 0) (zaa (za2 zci (zaz (zfx (K := K)) rfl T.m_len PySem.boot_len (zaa (pv 2) zac)) zad) zac))) (zaa (zbb (zaa (pv 4) (zaa (zct (zaa (pv 3) zac)) zac))) zac))))))))))
   (zae (za1 (i := 6) sc_law_boughs.nd rfl (Or.inl rfl) (zct zac))
   (zae (zg7 PassesOwn.never rfl (piL (K := K) (pv 2)) (pgT (K := K) (n := 2) rfl (zbk (za6 (i := 4) sc_law_boughs.nd rfl (Or.inr rfl)) (zbk (za6 (i := 7) sc_law_boughs.nd rfl (Or.inl rfl)) zdl))) (zae (za1 (i := 8) sc_law_boughs.nd rfl (Or.inl rfl) (zaz (zfx (K := K)) rfl T.m_len PySem.boot_len (zaa (pv 7) zac)))
   (zae (zik (zap (ixL (K := K)) (zct (zaa (zbb (zaa (pv 8) (zaa (pv 8) zac))) (zaa (zbb (zaa zad (zaa (pv 8) zac))) (zaa (zbb (zaa zad (zaa zad zac))) (zaa (zbb (zaa zad (zaa zad zac))) zac))))) (zag G_law_take hr.lv rfl T.g_law_take T.K_law_take.kp T.B_law_take .nil zal (zaa (pv 0) (zaa zad zac))) (fun _ _ => rfl)) (pgT (K := K) (n := 2) rfl (zbk (za6 (i := 9) sc_law_boughs.nd rfl (Or.inl rfl)) (zbk (za6 (i := 10) sc_law_boughs.nd rfl (Or.inl rfl)) zdl))))
   (zae (za9 (zat zby (zag G_law_take hr.lv rfl T.g_law_take T.K_law_take.kp T.B_law_take .nil zal (zaa (pv 0) (zaa zad zac))) zad (zas _)) (zae (za1 (i := 9) sc_law_boughs.nd rfl (Or.inl rfl) (zag G_law_take hr.lv rfl T.g_law_take T.K_law_take.kp T.B_law_take .nil zal (zaa (pv 0) (zaa (za2 zci (pv 8) zad) zac))))
   (zai (za1 (i := 10) sc_law_boughs.nd rfl (Or.inl rfl) (zaz (zed rfl) rfl T.m_max PyProof.Rows.boot_max (zaa zad (zaa (za2 zci (pv 9) (zag G_law_take hr.lv rfl T.g_law_take T.K_law_take.kp T.B_law_take .nil zal (zaa (pv 0) (zaa (za2 zci (za2 zex (pv 8) (pv 9)) zad) zac)))) zac)))))) zau)
   hA))))
   (zai (zam (pv 6))))))), ?_⟩
 refine ⟨small (by decide), fun g hg => ?_⟩
 have ngp : pen ≠ g := zaq pn.at_ hg
 refine ⟨_, rfl, _, _, rfl, ⟨by rw [p62]; omega, by rw [p62]; omega, by rw [p62]; omega, by rw [p62]; omega⟩, ?_⟩
 obtain ⟨Pv, hPv⟩ : ∃ Pv : Nat → St → Hp → Prop, ∀ i σ H2, Pv i σ H2 ↔ (∃ (v3 v4 v5 : Option V) (gs : List Grp) (kk : Int), σ = [some (.ref pen), some (.int (m : Int)), some (.ref g), v3, v4, v5, none, none, none, none, none] ∧ SameX pen H H2 ∧ H2 pen = some (.lst [.ref sp, .int kk]) ∧ k ≤ kk ∧ kk ≤ k + 4 * i ∧ GAt H H2 g gs ∧ GOk ((i : Int) + 1) gs) := ⟨_, fun _ _ _ => Iff.rfl⟩
 refine zjy (lo := 1) (n := ((m : Int) - 1).toNat) Pv ((hPv _ _ _).mpr ⟨none, none, none, [], k, rfl, Same.x (zak hg _), (zak hg _) _ _ pn.at_, Int.le_refl _, by omega, ⟨zaf, hg, (fun _ z => nomatch z), (fun _ z => nomatch z), List.nodup_nil⟩, ⟨(fun _ z => nomatch z), List.Perm.refl _⟩⟩) ?_ ?_
 ·rintro i σ H2 hi pv0
  obtain ⟨v3, v4, v5, gs, kk, rfl, sx, hp2, kk0, kk1, GA, GK⟩ := (hPv _ _ _).mp pv0
  have few := GK.few
  have i9 : (i : Int) < 9 := by omega
  have el : ∀ l : List Grp, (l.map fun x => V.ref x.t).length = l.length := fun l => List.length_map _
  have e1 : 1 + (i : Int) = (i : Int) + 1 := by omega
  have e2 : ((i + 1 : Nat) : Int) + 1 = (i : Int) + 2 := by omega
  refine ⟨_, rfl, _, rfl, pen, sp, ns, _, kk, rfl, pn.to sx hp2, by omega, by omega, by omega, fun c c0 c1 => ?_⟩
  have sx3 := sx.trans (za3 (pen := pen) (H := H2) (.lst [.ref sp, .int (kk + 1)]))
  have GA3 := GA.pen (ys := [.ref sp, .int (kk + 1)]) ⟨_, pn.at_⟩ hp2
  refine ⟨_, rfl, pen, sp, ns, 3, kk + 1, rfl, pn.to sx3 zaf, by omega, by omega, by decide, fun d d0 d1 => ?_⟩
  have sx4 := sx3.trans (za3 (pen := pen) (.lst [.ref sp, .int (kk + 1 + 1)]))
  have GA4 := GA3.pen (ys := [.ref sp, .int (kk + 1 + 1)]) ⟨_, pn.at_⟩ zaf
  have hp4 : L2.upd (L2.upd H2 pen (.lst [.ref sp, .int (kk + 1)])) pen (.lst [.ref sp, .int (kk + 1 + 1)]) pen = some (.lst [.ref sp, .int (kk + 1 + 1)]) := zaf
  generalize L2.upd (L2.upd H2 pen (.lst [.ref sp, .int (kk + 1)])) pen (.lst [.ref sp, .int (kk + 1 + 1)]) = H4 at sx4 GA4 hp4 ⊢
  refine ⟨_, _, rfl, rfl, .inr ⟨_, rfl, ?_⟩⟩
  refine ⟨_, _, rfl, rfl, .inl ⟨by omega, by omega⟩, ?_⟩
  obtain ⟨u, hu, u0, u1⟩ : ∃ u : Int, c * (if decide (d > 0) = true then 1 else 0) = u ∧ 0 ≤ u ∧ u < (i : Int) + 1 := by
   refine ⟨_, rfl, ?_, ?_⟩ <;> split <;> omega
  dsimp only
  rw [hu]
  refine ⟨_, rfl, g, rfl, ⟨_, SqL.of GA4.at_⟩, ?_⟩
  refine zh8 (K := K) (a := g) (xs := gs.map fun x => V.ref x.t) (fun j ys σ H5 => (∃ v, σ = [v, some (.int u)]) ∧ H5 = H4 ∧ ys = ((gs.take j).filter fun x => decide (x.up = u)).map fun x => V.ref x.t) ⟨⟨none, rfl⟩, rfl, rfl⟩ (fun j ys σ H5 hj pv => ?_) (fun j ys σ H5 hj pv => ?_) (fun j x ys σ H5 hx pv => ?_) (fun ys σ H5 pv ol hol => ?_)
  ·obtain ⟨_, _, rfl⟩ := pv
   rw [el]
   have := List.length_filter_le (fun x : Grp => decide (x.up = u)) (gs.take j)
   rw [List.length_take] at this
   exact small (by omega)
  ·rw [pv.2.1]
   exact SqL.of GA4.at_
  ·obtain ⟨⟨v, rfl⟩, rfl, rfl⟩ := pv
   rw [List.getElem?_map] at hx
   obtain ⟨y, hy, rfl⟩ := Option.map_eq_some_iff.mp hx
   have et : gs.take (j + 1) = gs.take j ++ [y] := by rw [List.take_add_one, hy, Option.toList_some]
   refine ⟨_, rfl, y.t, _, _, _, rfl, rfl, sqT (GA4.tup y (List.mem_of_getElem? hy)), at0, _, rfl, rfl, _, rfl, ?_⟩
   by_cases cc : y.up = u
   ·refine zdq (by rw [cc]) ?_
    refine ⟨_, rfl, ⟨_, rfl⟩, rfl, ?_⟩
    rw [et, List.filter_append, List.filter_cons_of_pos (by simpa using cc), List.map_append]
    rfl
   ·refine zb1 (fun z => cc (by injection z)) ?_
    refine ⟨⟨_, rfl⟩, rfl, ?_⟩
    rw [et, List.filter_append, List.filter_cons_of_neg (by simpa using cc), List.filter_nil, List.append_nil]
  obtain ⟨_, rfl, rfl⟩ := pv
  have nop : ol ≠ pen := Ne.symm (zaq hp4 hol)
  rw [el, List.take_length] at *
  generalize hold : gs.filter (fun x => decide (x.up = u)) = old at *
  have omem : ∀ x ∈ old, x ∈ gs := fun x hx => by rw [← hold] at hx; exact (List.mem_filter.mp hx).1
  have s6 := zak hol (.lst (old.map fun x => V.ref x.t))
  have GA6 := GA4.same s6
  have hp6 := s6 _ _ hp4
  have sx6 := sx4.trans (Same.x s6)
  have hol6 : L2.upd H5 ol (.lst (old.map fun x => V.ref x.t)) ol = some (.lst (old.map fun x => V.ref x.t)) := zaf
  generalize L2.upd H5 ol (.lst (old.map fun x => V.ref x.t)) = H6 at s6 GA6 hp6 sx6 hol6 ⊢
  refine ⟨_, rfl, small (by decide), fun nl0 hnl0 => ?_⟩
  have s7 := zak hnl0 (.lst [])
  have GA7 := GA6.same s7
  have hp7 := s7 _ _ hp6
  have sx7 := sx6.trans (Same.x s7)
  have hol7 := s7 _ _ hol6
  have hnl07 : L2.upd H6 nl0 (.lst []) nl0 = some (.lst []) := zaf
  generalize L2.upd H6 nl0 (.lst []) = H7 at s7 GA7 hp7 sx7 hol7 hnl07 ⊢
  refine ⟨.list (old.map zm0), .list [], ⟨ol, _, rfl, hol7, znw GA7 old omem⟩, ⟨nl0, _, rfl, hnl07, rfl⟩, zmd old, zmt, _, rfl, ?_⟩
  rw [zq4]
  have new : ∀ (k3 : Int) (H8 : Hp) (v5 : Option V), k ≤ k3 → k3 ≤ k + 4 * i + 4 → SameX pen H H8 → H8 pen = some (.lst [.ref sp, .int k3]) → GAt H H8 g gs → ∀ (nl nt : Addr) (j : Nat), H8 nl = none → L2.upd H8 nl (.lst [.int (1 + (i : Int))]) nt = none → j ≤ gs.length →
    Pv (i + 1) [some (.ref pen), some (.int (m : Int)), some (.ref g), some (.int (1 + (i : Int))), some (.int u), v5, none, none, none, none, none] (L2.upd (L2.upd (L2.upd H8 nl (.lst [.int (1 + (i : Int))])) nt (.tup [.int u, .ref nl])) g (.lst ((gs.map fun x => V.ref x.t).take j ++ V.ref nt :: (gs.map fun x => V.ref x.t).drop j))) := by
   intro k3 H8 v5 k30 k31 sx8 hp8 GA8 nl nt j hnl hnt hj
   have s9 := (zak hnl (.lst [.int (1 + (i : Int))])).trans (zak hnt (.tup [.int u, .ref nl]))
   rw [← List.map_take, ← List.map_drop]
   refine (hPv _ _ _).mpr ⟨_, _, _, gs.take j ++ ⟨nt, u, nl, [1 + (i : Int)]⟩ :: gs.drop j, k3, rfl, SameX.put (sx8.trans (Same.x s9)) hg (Ne.symm ngp) (s9 _ _ GA8.at_), ?_, k30, by push_cast; omega, ?_, ?_⟩
   ·rw [zan ngp]
    exact s9 _ _ hp8
   ·exact GAt.ins (pre := gs.take j) (post := gs.drop j) (by rw [List.take_append_drop]; exact GA8) (sx8.free ⟨_, hp8⟩ hnl) hnl hnt
   ·rw [e2, e1]
    exact GOk.ins (k := i) (by rw [List.take_append_drop]; exact GK) u0 u1
  by_cases c5 : old = []
  ·refine zin (by rw [c5]; rfl) ?_
   refine zee ?_
   refine ⟨_, rfl, .inl ⟨rfl, _, SqL.of GA7.at_⟩, _, rfl, _, rfl, g, _, rfl, .inl (SqL.of GA7.at_), ?_⟩
   refine ⟨_, _, rfl, rfl, pen, sp, ns, _, kk + 1 + 1, rfl, pn.to sx7 hp7, by omega, by omega, (by rw [el]; omega), fun j j0 j1 => ?_⟩
   rw [el] at j1
   have sx8 := sx7.trans (za3 (pen := pen) (.lst [.ref sp, .int (kk + 1 + 1 + 1)]))
   have GA8 := GA7.pen (ys := [.ref sp, .int (kk + 1 + 1 + 1)]) ⟨_, pn.at_⟩ hp7
   have hp8 : L2.upd H7 pen (.lst [.ref sp, .int (kk + 1 + 1 + 1)]) pen = some (.lst [.ref sp, .int (kk + 1 + 1 + 1)]) := zaf
   generalize L2.upd H7 pen (.lst [.ref sp, .int (kk + 1 + 1 + 1)]) = H8 at sx8 GA8 hp8 ⊢
   refine ⟨_, rfl, _, rfl, small (by show 1 ≤ 1000; decide), fun nl hnl => ?_⟩
   refine ⟨small (by show 2 ≤ 1000; decide), fun nt hnt => ?_⟩
   have s9 := (zak hnl (.lst [.int (1 + (i : Int))])).trans (zak hnt (.tup [.int u, .ref nl]))
   refine ⟨g, _, _, _, rfl, rfl, s9 _ _ GA8.at_, j0, (by rw [el]; omega), (by rw [el]; exact zcy (by omega)), ?_⟩
   exact new (kk + 1 + 1 + 1) H8 _ (by omega) (by omega) sx8 hp8 GA8 nl nt j.toNat hnl hnt (by omega)
  ·refine zn6 (fun z => c5 (by cases old with | nil => rfl | cons x r => cases z)) ?_
   refine ⟨_, rfl, pen, sp, ns, 3, kk + 1 + 1, rfl, pn.to sx7 hp7, by omega, by omega, by decide, fun e e0 e1' => ?_⟩
   have sx8 := sx7.trans (za3 (pen := pen) (.lst [.ref sp, .int (kk + 1 + 1 + 1)]))
   have GA8 := GA7.pen (ys := [.ref sp, .int (kk + 1 + 1 + 1)]) ⟨_, pn.at_⟩ hp7
   have hp8 : L2.upd H7 pen (.lst [.ref sp, .int (kk + 1 + 1 + 1)]) pen = some (.lst [.ref sp, .int (kk + 1 + 1 + 1)]) := zaf
   have hol8 : L2.upd H7 pen (.lst [.ref sp, .int (kk + 1 + 1 + 1)]) ol = some (.lst (old.map fun x => V.ref x.t)) := by rw [zan nop]; exact hol7
   generalize L2.upd H7 pen (.lst [.ref sp, .int (kk + 1 + 1 + 1)]) = H8 at sx8 GA8 hp8 hol8 ⊢
   refine ⟨_, _, rfl, rfl, _, rfl, ?_⟩
   refine zcs (fun c6 => ?_) (fun c6 => ?_)
   ·have lo1 : 0 < old.length := List.length_pos_iff.mpr c5
    obtain ⟨x, hxo⟩ : ∃ x, old[old.length - 1]? = some x := ⟨_, List.getElem?_eq_getElem (by omega)⟩
    have hx := omem x (List.mem_of_getElem? hxo)
    have lox : old.length ≤ gs.length := by rw [← hold]; exact List.length_filter_le _ _
    obtain ⟨pre, post, egs⟩ := List.append_of_mem hx
    have ty := GA8.tup x hx
    have ly := GA8.lst x hx
    refine ⟨_, rfl, _, rfl, ol, _, _, .ref x.t, rfl, rfl, SqL.of hol8, ?_, x.t, _, _, _, rfl, rfl, sqT ty, at1, .inl ⟨rfl, _, SqL.of ly.1⟩, _, rfl, x.l, _, _, rfl, rfl, ly.1, ?_, ?_⟩
    ·unfold atI ixN
     rw [el, if_neg (by omega), if_pos (by omega)]
     show (List.map _ old)[((-1 : Int) + (old.length : Int)).toNat]? = _
     rw [show ((-1 : Int) + (old.length : Int)).toNat = old.length - 1 by omega, List.getElem?_map, hxo]
     rfl
    ·have h1 := GK.perm.length_eq
     rw [List.length_map, List.length_range', egs, List.flatMap_append, List.flatMap_cons, List.length_append, List.length_append] at h1
     rw [List.length_map]
     exact zcy (by omega)
    have G9 : GAt H _ g _ := GAt.put (k := 1 + (i : Int)) (pre := pre) (post := post) (x := x) (by rw [← egs]; exact GA8)
    refine (hPv _ _ _).mpr ⟨_, _, _, _, kk + 1 + 1 + 1, rfl, SameX.put sx8 ly.2.1 (fun z => by have := pn.at_; rw [← z, ly.2.1] at this; cases this) ly.1, ?_, by omega, by push_cast; omega, G9, ?_⟩
    ·rw [zan (fun z => by have := pn.at_; rw [z, ly.2.1] at this; cases this)]
     exact hp8
    ·rw [e2, e1]
     exact GOk.put (k := i) (by rw [← egs]; exact GK)
   ·refine ⟨_, rfl, .inl ⟨rfl, _, SqL.of GA8.at_⟩, _, rfl, _, rfl, g, _, rfl, .inl (SqL.of GA8.at_), ?_⟩
    refine ⟨_, _, rfl, rfl, pen, sp, ns, _, kk + 1 + 1 + 1, rfl, pn.to sx8 hp8, by omega, by omega, (by rw [el]; omega), fun j j0 j1 => ?_⟩
    rw [el] at j1
    have sx9 := sx8.trans (za3 (pen := pen) (.lst [.ref sp, .int (kk + 1 + 1 + 1 + 1)]))
    have GA9 := GA8.pen (ys := [.ref sp, .int (kk + 1 + 1 + 1 + 1)]) ⟨_, pn.at_⟩ hp8
    have hp9 : L2.upd H8 pen (.lst [.ref sp, .int (kk + 1 + 1 + 1 + 1)]) pen = some (.lst [.ref sp, .int (kk + 1 + 1 + 1 + 1)]) := zaf
    generalize L2.upd H8 pen (.lst [.ref sp, .int (kk + 1 + 1 + 1 + 1)]) = H9 at sx9 GA9 hp9 ⊢
    refine ⟨_, rfl, _, rfl, small (by show 1 ≤ 1000; decide), fun nl hnl => ?_⟩
    refine ⟨small (by show 2 ≤ 1000; decide), fun nt hnt => ?_⟩
    have s10 := (zak hnl (.lst [.int (1 + (i : Int))])).trans (zak hnt (.tup [.int u, .ref nl]))
    refine ⟨g, _, _, _, rfl, rfl, s10 _ _ GA9.at_, j0, (by rw [el]; omega), (by rw [el]; exact zcy (by omega)), ?_⟩
    exact new (kk + 1 + 1 + 1 + 1) H9 _ (by omega) (by omega) sx9 hp9 GA9 nl nt j.toNat hnl hnt (by omega)
 ·rintro σ H2 pv0
  obtain ⟨v3, v4, v5, gs, kk, rfl, sx, hp2, kk0, kk1, GA, GK⟩ := (hPv _ _ _).mp pv0
  have em : (((m : Int) - 1).toNat : Int) + 1 = (m : Int) := by omega
  rw [em] at GK
  have few := GK.few
  have el : (gs.map fun x => V.ref x.t).length = gs.length := List.length_map _
  refine ⟨small (by decide), fun bl hbl => ?_⟩
  have nbH : H bl = none := sx.free ⟨_, hp2⟩ hbl
  have nbp : bl ≠ pen := fun z => by rw [z, hp2] at hbl; cases hbl
  have ngb : g ≠ bl := zaq GA.at_ hbl
  have s3 := zak hbl (.lst [])
  refine ⟨_, rfl, g, rfl, ⟨_, SqL.of (s3 _ _ GA.at_)⟩, ?_⟩
  obtain ⟨Pw, hPw⟩ : ∃ Pw : Nat → St → Hp → Prop, ∀ j σ H3, Pw j σ H3 ↔ (∃ (v3 v4 v5 v7 v8 v9 v10 : Option V) (kc : Int) (bs : List PyData) (xs : List V), σ = [some (.ref pen), some (.int (m : Int)), some (.ref g), v3, v4, v5, some (.ref bl), v7, v8, v9, v10] ∧ SameX pen H2 H3 ∧ H3 pen = some (.lst [.ref sp, .int kc]) ∧ kk ≤ kc ∧ kc ≤ kk + 4 * j ∧ H3 bl = some (.lst xs) ∧ DnL H3 bs xs ∧ bs.length = j ∧ (∀ b ∈ bs, zc4 m b = true) ∧ bs.flatMap zix = (gs.take j).flatMap (·.kids) ∧ bs.all (zbs 3) = true) := ⟨_, fun _ _ _ => Iff.rfl⟩
  refine zgs (K := K) (a := g) (xs := gs.map fun x => V.ref x.t) Pw ((hPw _ _ _).mpr ⟨_, _, _, _, _, _, _, kk, [], [], rfl, Same.x s3, s3 _ _ hp2, Int.le_refl _, by omega, zaf, rfl, rfl, (fun _ z => nomatch z), rfl, rfl⟩) (fun j σ H3 _ z => ?_) ?_ ?_
  ·obtain ⟨_, _, _, _, _, _, _, _, _, _, _, sx3, _⟩ := (hPw _ _ _).mp z
   exact SqL.of (sx3 _ _ (Ne.symm ngp) GA.at_)
  ·rintro j y σ H3 hy pv0
   obtain ⟨v3, v4, v5, v7, v8, v9, v10, kc, bs, xs, rfl, sx3, hp3, kc0, kc1, hb3, dn, ln, okb, ki, fl⟩ := (hPw _ _ _).mp pv0
   rw [List.getElem?_map] at hy
   obtain ⟨x, hx', rfl⟩ := Option.map_eq_some_iff.mp hy
   have hm := List.mem_of_getElem? hx'
   have hj : j < gs.length := (List.getElem?_eq_some_iff.mp hx').1
   have lx := GA.lst x hm
   have nlp : x.l ≠ pen := fun z => by have := pn.at_; rw [← z, lx.2.1] at this; cases this
   have hxl := sx3 _ _ nlp lx.1
   have gx := GK.each x hm
   have ekl : (x.kids.map V.int).length = x.kids.length := List.length_map _
   have kp := List.length_pos_iff.mpr gx.2.1
   have kl : x.kids.length ≤ 9 := by
    have pk := GK.perm.length_eq
    rw [List.length_map, List.length_range'] at pk
    obtain ⟨l1, l2, e⟩ := List.append_of_mem hm
    rw [e, List.flatMap_append, List.flatMap_cons, List.length_append, List.length_append] at pk
    omega
   have lys := dn.length
   refine ⟨x.t, _, rfl, sqT ((SameX.tup hp2 sx3) _ _ (GA.tup x hm)), rfl, _, _, rfl, _, _, rfl, rfl, ?_⟩
   refine ⟨_, rfl, x.l, _, rfl, .inl (SqL.of hxl), ?_⟩
   rw [ekl]
   have done : ∀ (lo hi kd : Int) (H5 : Hp) (w3 w5 w8 : Option V), SameX pen H3 H5 → H5 pen = some (.lst [.ref sp, .int kd]) → kc ≤ kd → kd ≤ kc + 4 → H5 bl = some (.lst xs) → 0 ≤ lo → lo ≤ hi → 1 ≤ hi → hi ≤ x.kids.length → ∀ (v : V) (H6 : Hp), Same H5 H6 → Dn H6 (zf9 x.up lo hi x.kids) v →
     Pw (j + 1) [some (.ref pen), some (.int (m : Int)), some (.ref g), w3, some (.int x.up), w5, some (.ref bl), some (.ref x.l), w8, some (.int lo), some (.int hi)] (L2.upd H6 bl (.lst (xs ++ [v]))) := by
    intro lo hi kd H5 w3 w5 w8 sx5 hp5 kd0 kd1 hb5 l0 l1 h1 h2 v H6 s6 dv
    have hb6 := s6 _ _ hb5
    have fb := zib x.up lo hi x.kids (by omega)
    have d6 := DnL.same s6 _ _ (DnL.tupS (SameX.tup hp3 sx5) fl dn)
    refine (hPw _ _ _).mpr ⟨_, _, _, _, _, _, _, kd, bs ++ [zf9 x.up lo hi x.kids], xs ++ [v], rfl, SameX.put ((sx3.trans sx5).trans (Same.x s6)) hbl nbp hb6, ?_, by omega, by push_cast; omega, zaf, ?_, ?_, fun b hb' => ?_, ?_, ?_⟩
    ·rw [zan (Ne.symm nbp)]
     exact s6 _ _ hp5
    ·exact (DnL.pen hb6 fl d6).append ⟨v, [], rfl, Dn.pen hb6 fb dv, rfl⟩
    ·rw [List.length_append, List.length_singleton, ln]
    ·rcases List.mem_append.mp hb' with z | z
     ·exact okb b z
     ·rw [List.mem_singleton.mp z]
      exact zm1 gx.1 gx.2.1 gx.2.2 l0 l1 h1 h2
    ·rw [List.flatMap_append, ki, zkx hx']
     simp [zfa]
    ·rw [List.all_append, fl]
     simp [fb]
   refine ⟨_, rfl, _, rfl, small (by show 2 ≤ 1000; decide), fun t1 ht1 => ?_⟩
   refine ⟨_, rfl, small (by show 2 ≤ 1000; decide), fun t2 ht2 => ?_⟩
   refine ⟨small (by show 2 ≤ 1000; decide), fun t3 ht3 => ?_⟩
   refine ⟨small (by show 2 ≤ 1000; decide), fun t4 ht4 => ?_⟩
   refine ⟨small (by show 4 ≤ 1000; decide), fun tl htl => ?_⟩
   have q1 := zak ht1 (.tup [.int (x.kids.length : Nat), .int (x.kids.length : Nat)])
   have q2 := zak ht2 (.tup [.int 0, .int (x.kids.length : Nat)])
   have q3 := zak ht3 (.tup [.int 1, .int 1])
   have q4 := zak ht4 (.tup [.int 0, .int 1])
   have q5 := zak htl (.lst [.ref t1, .ref t2, .ref t3, .ref t4])
   have sA := (((q1.trans q2).trans q3).trans q4).trans q5
   have e1 := q5 _ _ (q4 _ _ (q3 _ _ (q2 _ _ zaf)))
   have e2 := q5 _ _ (q4 _ _ (q3 _ _ zaf))
   have e3 := q5 _ _ (q4 _ _ zaf)
   have e4 := q5 _ _ zaf
   have e5 : L2.upd (L2.upd (L2.upd (L2.upd (L2.upd H3 t1 (.tup [.int (x.kids.length : Nat), .int (x.kids.length : Nat)])) t2 (.tup [.int 0, .int (x.kids.length : Nat)])) t3 (.tup [.int 1, .int 1])) t4 (.tup [.int 0, .int 1])) tl (.lst [.ref t1, .ref t2, .ref t3, .ref t4]) tl = some (.lst [.ref t1, .ref t2, .ref t3, .ref t4]) := zaf
   generalize L2.upd (L2.upd (L2.upd (L2.upd (L2.upd H3 t1 (.tup [.int (x.kids.length : Nat), .int (x.kids.length : Nat)])) t2 (.tup [.int 0, .int (x.kids.length : Nat)])) t3 (.tup [.int 1, .int 1])) t4 (.tup [.int 0, .int 1])) tl (.lst [.ref t1, .ref t2, .ref t3, .ref t4]) = H4 at sA e1 e2 e3 e4 e5 ⊢
   have sxA := sx3.trans (Same.x (pen := pen) sA)
   have hpA := sA _ _ hp3
   have hbA := sA _ _ hb3
   have pn3 := pn.to (sx.trans sxA) hpA
   refine ⟨_, rfl, pen, sp, ns, 4, kc, rfl, pn3, by omega, by omega, by decide, fun y y0 y1 => ?_⟩
   have ntl : tl ≠ pen := fun z => by rw [z, hpA] at e5; cases e5
   obtain ⟨tt, lo', hi', hat, ht, g1, g2, g3, g4⟩ : ∃ (tt : Addr) (lo' hi' : Int), atI [V.ref t1, V.ref t2, V.ref t3, V.ref t4] y = some (.ref tt) ∧ H4 tt = some (.tup [.int lo', .int hi']) ∧ 0 ≤ lo' ∧ lo' ≤ hi' ∧ 1 ≤ hi' ∧ hi' ≤ x.kids.length := by
    have e : y = 0 ∨ y = 1 ∨ y = 2 ∨ y = 3 := by omega
    rcases e with e | e | e | e <;> rw [e]
    ·exact ⟨t1, _, _, rfl, e1, by omega, by omega, by omega, by omega⟩
    ·exact ⟨t2, _, _, rfl, e2, by omega, by omega, by omega, by omega⟩
    ·exact ⟨t3, _, _, rfl, e3, by omega, by omega, by omega, by omega⟩
    ·exact ⟨t4, _, _, rfl, e4, by omega, by omega, by omega, by omega⟩
   have sxB : SameX pen H3 (L2.upd H4 pen (.lst [.ref sp, .int (kc + 1)])) := (Same.x (pen := pen) sA).trans (za3 _)
   have htB : L2.upd H4 pen (.lst [.ref sp, .int (kc + 1)]) tt = some (.tup [.int lo', .int hi']) := by rw [zan (fun z => by rw [z, hpA] at ht; cases ht)]; exact ht
   have hpB : L2.upd H4 pen (.lst [.ref sp, .int (kc + 1)]) pen = some (.lst [.ref sp, .int (kc + 1)]) := zaf
   refine ⟨tl, _, _, _, rfl, rfl, SqL.of (by rw [zan ntl]; exact e5), hat, ?_⟩
   generalize L2.upd H4 pen (.lst [.ref sp, .int (kc + 1)]) = H5 at sxB htB hpB ⊢
   refine ⟨tt, _, rfl, sqT htB, rfl, _, _, rfl, _, _, rfl, rfl, ?_⟩
   have pnB := pn.to ((sx.trans sx3).trans sxB) hpB
   refine ⟨_, rfl, pen, sp, ns, 3, kc + 1, rfl, pnB, by omega, by omega, by decide, fun z z0 z1 => ?_⟩
   have sxC := sxB.trans (za3 (pen := pen) (.lst [.ref sp, .int (kc + 1 + 1)]))
   have hpC : L2.upd H5 pen (.lst [.ref sp, .int (kc + 1 + 1)]) pen = some (.lst [.ref sp, .int (kc + 1 + 1)]) := zaf
   generalize L2.upd H5 pen (.lst [.ref sp, .int (kc + 1 + 1)]) = H6 at sxC hpC ⊢
   refine ⟨rfl, _, rfl, ?_⟩
   refine zcs (fun c => ?_) (fun c => ?_)
   ·have pnC := pn.to ((sx.trans sx3).trans sxC) hpC
    refine ⟨_, rfl, _, rfl, _, _, rfl, rfl, pen, sp, ns, _, kc + 1 + 1, rfl, pnC, by omega, by omega, by omega, fun lo lo0 lo1 => ?_⟩
    have sxD := sxC.trans (za3 (pen := pen) (.lst [.ref sp, .int (kc + 1 + 1 + 1)]))
    have hpD : L2.upd H6 pen (.lst [.ref sp, .int (kc + 1 + 1 + 1)]) pen = some (.lst [.ref sp, .int (kc + 1 + 1 + 1)]) := zaf
    generalize L2.upd H6 pen (.lst [.ref sp, .int (kc + 1 + 1 + 1)]) = H7 at sxD hpD ⊢
    have pnD := pn.to ((sx.trans sx3).trans sxD) hpD
    refine ⟨_, rfl, _, rfl, _, rfl, _, rfl, _, _, rfl, rfl, _, _, rfl, rfl, pen, sp, ns, _, kc + 1 + 1 + 1, rfl, pnD, by omega, by omega, by omega, fun w w0 w1 => ?_⟩
    have sxE := sxD.trans (za3 (pen := pen) (.lst [.ref sp, .int (kc + 1 + 1 + 1 + 1)]))
    refine ⟨_, _, rfl, rfl, _, _, rfl, ?_⟩
    have hb7 := sxE _ _ nbp hb3
    refine rA _ g bl x.l x.up lo _ x.kids _ _ _ xs _ (sxE _ _ nlp hxl) hb7 (by omega) (done lo _ (kc + 1 + 1 + 1 + 1) _ _ _ _ sxE zaf (by omega) (by omega) hb7 lo0 ?_ ?_ ?_)
    all_goals split <;> omega
   ·have hb6 := sxC _ _ nbp hb3
    exact rA _ g bl x.l x.up lo' hi' x.kids _ _ _ xs _ (sxC _ _ nlp hxl) hb6 (by omega) (done lo' hi' (kc + 1 + 1) _ _ _ _ sxC hpC (by omega) (by omega) hb6 g1 g2 g3 g4)
  ·rintro σ H3 pv0
   obtain ⟨v3, v4, v5, v7, v8, v9, v10, kc, bs, xs, rfl, sx3, hp3, kc0, kc1, hb3, dn, ln, okb, ki, fl⟩ := (hPw _ _ _).mp pv0
   rw [el] at ln ki kc1
   rw [List.take_length] at ki
   exact ⟨_, rfl, q bl bs xs kc H3 (sx.trans sx3) hp3 (by omega) (by omega) hb3 nbH dn ⟨okb, by rw [ki]; exact GK.perm⟩ (by omega) fl⟩
end
section
variable {P : Program} {w : World} {K : PySem.W.Frag} {mg : Str → Option Value} {base : Heap} {a : Adr} {d : Fds}
theorem zgr (T : Txt K mg a d) : FnOk P w K mg base CX0 2 a.f_law_cross d.f_law_cross ["_law_state", "_law_many_here", "_law_most"] (zna K) := by
 have G_law_take := zdg (P := P) (w := w) (base := base) T
 refine T.K_law_cross.ok sc_law_cross (fun vs H Q E h => ?_) (fun cdv A outer s H vs Q E hr h => ?_)
 ·obtain ⟨pen, sp, ns, m, most, k, rfl, _⟩ := h
  rfl
 obtain ⟨pen, sp, ns, m, most, k, rfl, pn, k0, k1, m1, m9, mo0, mo8, q⟩ := h
 have p62 : (2 : Int) ^ 62 = 4611686018427387904 := by decide
 have tailC : ∃ t, PSs (zcj CX0 P w K mg base ["_law_state", "_law_many_here", "_law_most", "_law_cross_here", "_law_turn", "_law_one", "_law_other", "_law_way", "_law_far", "_law_pairs", "_law_total", "_law_top"] "_law_cross" (zab zbe) a.f_law_cross cdv A outer s H E).nox ((zrb (zah zbe) [(1, false), (3, true)]).drop 3) t ∧ ∀ (D : zh4) (cl pl : Addr) (far kd : Int) (ps : List PyData) (xs zs : List V) (v4 v5 v6 v7 v10 v11 : Option V) (H5 : Hp), Pen K H5 pen sp ns kd → 0 ≤ kd → kd ≤ 950000 → H5 pl = some (.lst xs) → zh5 H5 m ps xs → 0 < ps.length → H5 cl = some (.lst zs) → zs.length ≤ 100 → cl ≠ pen → pl ≠ pen →
   (∀ (v : V) (top : Int) (w10 : Option V) (H6 : Hp), SameX pen H5 H6 → H6 pen = some (.lst [.ref sp, .int (kd + 1 + 1)]) → Dn H6 (.tuple [.str ("most" : Str), .int top, .tuple ps]) v → H6 cl = some (.lst zs) → D.nx [some (.ref pen), some (.int (m : Int)), some (.int most), some (.ref cl), v4, v5, v6, v7, some (.int far), some (.ref pl), w10, some (.int top)] (L2.upd H6 cl (.lst (zs ++ [v])))) →
   t D [some (.ref pen), some (.int (m : Int)), some (.int most), some (.ref cl), v4, v5, v6, v7, some (.int far), some (.ref pl), v10, v11] H5 := by
  refine ⟨_, (zae (za1 (i := 10) sc_law_cross.nd rfl (Or.inl rfl) (zaz (zda rfl) rfl T.m_sum PyProof.Rows.boot_sum (zaa (zi3 (sc0 := zab zbe) (XN := ["_law_state", "_law_many_here", "_law_most", "_law_cross_here", "_law_turn", "_law_one", "_law_other", "_law_way", "_law_far", "_law_pairs", "_law_total", "_law_top"]) (N' := ["_law_c", "_law_number"]) (n := 2) (kp := []) rfl (piL (K := K) (pv 9)) rfl rfl (by decide +kernel) (fun _ _ _ _ _ => (pgT (K := K) (n := 2) rfl (zbk (za6 (i := 0) (by show List.Nodup (["_law_c", "_law_number"] : List Str); decide +kernel) rfl (Or.inl rfl)) (zbk (za6 (i := 1) (by show List.Nodup (["_law_c", "_law_number"] : List Str); decide +kernel) rfl (Or.inl rfl)) zdl)))) (fun _ _ _ _ _ => znv) (fun _ _ _ _ _ => (zaz (zed rfl) rfl T.m_max PyProof.Rows.boot_max (zaa zad (zaa (pv 1) zac))))) zac)))
   (zae (za1 (i := 11) sc_law_cross.nd rfl (Or.inl rfl) (za2 zex (za2 zex (zag G_law_take hr.lv rfl T.g_law_take T.K_law_take.kp T.B_law_take .nil zal (zaa (pv 0) (zaa (za2 zci (pv 10) zad) zac))) zad) (za2 zd5 (pv 8) (za2 zn0 (zag G_law_take hr.lv rfl T.g_law_take T.K_law_take.kp T.B_law_take .nil zal (zaa (pv 0) (zaa zad zac))) zad))))
   (zai (zdc (zif (K := K) PySem.F.plainAttrs_list PySem.F.slot_list_append PySem.F.type_list_append zfu (pv 3) (zaa (zbb (zaa za0 (zaa (pv 11) (zaa (zcw zcz rfl T.m_tuple PyProof.Rows.boot_tuple (zaa (pv 9) zac)) zac)))) zac)))))), ?_⟩
  intro D cl pl far kd ps xs zs v4 v5 v6 v7 v10 v11 H5 pn5 kd0 kd1 hpl pt p0 hcl zfew ncp npp nx
  have few := pt.few
  have lx := pt.dn.length
  refine ⟨_, rfl, pl, rfl, ⟨_, SqL.of hpl⟩, ?_⟩
  refine zh8 (K := K) (a := pl) (xs := xs) (fun i ys σ H7 => (∃ v v', σ = [v, v']) ∧ H7 = H5 ∧ ∃ nl : List Int, ys = nl.map V.int ∧ 0 ≤ nl.sum ∧ nl.length = i) ⟨⟨none, none, rfl⟩, rfl, [], rfl, Int.le_refl _, rfl⟩ (fun i ys σ H7 hi pv => ?_) (fun i ys σ H7 hi pv => ?_) (fun i x ys σ H7 hx pv => ?_) (fun ys σ H7 pv l hl => ?_)
  ·obtain ⟨_, _, nl, rfl, _, h1⟩ := pv
   rw [List.length_map]
   exact small (by omega)
  ·rw [pv.2.1]
   exact SqL.of hpl
  ·obtain ⟨⟨v, v', rfl⟩, rfl, nl, rfl, h0, h1⟩ := pv
   obtain ⟨dd, hdd, hx'⟩ := pt.dn.get hx
   have pk := (List.all_eq_true.mp pt.ok) dd (List.mem_of_getElem? hdd)
   obtain ⟨r, xa, nb, rfl, hr'⟩ : ∃ (r : Addr) (xa : V) (nb : Int), x = .ref r ∧ H7 r = some (.tup [xa, .int nb]) := by
    unfold ze5 at pk
    split at pk
    next dx dy =>
     obtain ⟨iy, rfl⟩ := zkg pk
     obtain ⟨r, ys, rfl, hr2, xa, r1, rfl, ha, xb, r2, rfl, hb, hnil⟩ := zcu hx'
     cases (show r2 = [] from hnil)
     cases zdj hb
     exact ⟨r, xa, iy, rfl, hr2⟩
    next => cases pk
   refine ⟨r, _, rfl, sqT hr', rfl, _, _, rfl, _, _, rfl, rfl, ?_⟩
   refine ⟨_, rfl, _, _, rfl, ⟨_, _, rfl⟩, rfl, nl ++ [if nb > 0 then nb else 0], ?_, ?_, ?_⟩
   ·rw [List.map_append]
    rfl
   ·rw [List.sum_append]
    have : 0 ≤ (if nb > 0 then nb else 0) := by split <;> omega
    simp only [List.sum_cons, List.sum_nil]
    omega
   ·rw [List.length_append, List.length_singleton, h1]
  obtain ⟨_, rfl, nl, rfl, h0, _⟩ := pv
  have s7 := zak hl (.lst (nl.map V.int))
  have pn7 := pn5.to (Same.x s7) (s7 _ _ pn5.at_)
  refine ⟨l, nl, rfl, SqL.of zaf, ?_⟩
  have hcl7 := s7 _ _ hcl
  have hpl7 := s7 _ _ hpl
  have d7 := DnL.same s7 _ _ pt.dn
  have x7 : SameX pen H7 _ := Same.x (pen := pen) s7
  generalize L2.upd H7 l (.lst (nl.map V.int)) = H8 at s7 pn7 hcl7 hpl7 d7 x7 ⊢
  refine ⟨_, rfl, _, rfl, _, _, rfl, rfl, pen, sp, ns, _, kd, rfl, pn7, by omega, by omega, by omega, fun x x0 x1 => ?_⟩
  have x8 := x7.trans (za3 (pen := pen) (.lst [.ref sp, .int (kd + 1)]))
  have hcl8 : L2.upd H8 pen (.lst [.ref sp, .int (kd + 1)]) cl = some (.lst zs) := by rw [zan ncp]; exact hcl7
  have hpl8 : L2.upd H8 pen (.lst [.ref sp, .int (kd + 1)]) pl = some (.lst xs) := by rw [zan npp]; exact hpl7
  have d8 := DnL.pen (ys := [.ref sp, .int (kd + 1)]) pn7.at_ pt.flat d7
  have pn8 := pn7.to (za3 (pen := pen) (H := H8) (.lst [.ref sp, .int (kd + 1)])) zaf
  generalize L2.upd H8 pen (.lst [.ref sp, .int (kd + 1)]) = H9 at x8 hcl8 hpl8 d8 pn8 ⊢
  refine ⟨_, _, rfl, rfl, _, rfl, _, rfl, pen, sp, ns, 4, kd + 1, rfl, pn8, by omega, by omega, by decide, fun y y0 y1 => ?_⟩
  have x9 := x8.trans (za3 (pen := pen) (.lst [.ref sp, .int (kd + 1 + 1)]))
  have hcl9 : L2.upd H9 pen (.lst [.ref sp, .int (kd + 1 + 1)]) cl = some (.lst zs) := by rw [zan ncp]; exact hcl8
  have hpl9 : L2.upd H9 pen (.lst [.ref sp, .int (kd + 1 + 1)]) pl = some (.lst xs) := by rw [zan npp]; exact hpl8
  have d9 := DnL.pen (ys := [.ref sp, .int (kd + 1 + 1)]) pn8.at_ pt.flat d8
  have hp9 : L2.upd H9 pen (.lst [.ref sp, .int (kd + 1 + 1)]) pen = some (.lst [.ref sp, .int (kd + 1 + 1)]) := zaf
  generalize L2.upd H9 pen (.lst [.ref sp, .int (kd + 1 + 1)]) = HA at x9 hcl9 hpl9 d9 hp9 ⊢
  have y2 : 0 ≤ y / 3 := Int.ediv_nonneg y0 (by decide)
  have y3 : y / 3 ≤ 1 := by omega
  refine ⟨_, _, rfl, rfl, ⟨by decide, by decide⟩, _, _, rfl, rfl, .inr ⟨by omega, by omega⟩, _, _, rfl, rfl, ?_⟩
  refine ⟨_, rfl, .inl ⟨rfl, _, SqL.of hcl9⟩, _, rfl, _, rfl, pl, _, rfl, .inl ⟨SqL.of hpl9, fun tk htk => ?_⟩⟩
  refine ⟨small (by show 3 ≤ 1000; decide), fun tt htt => ?_⟩
  have sa := zak htk (.tup xs)
  have sb := zak htt (.tup [.str ("most" : Str), .int (x - 1 - far * (y / 3)), .ref tk])
  have sab := sa.trans sb
  refine ⟨cl, _, _, rfl, rfl, sab _ _ hcl9, zcy (by omega), ?_⟩
  exact nx _ _ _ _ (x9.trans (Same.x sab)) (sab _ _ hp9) ⟨tt, _, rfl, zaf, _, _, rfl, rfl, _, _, rfl, rfl, _, _, rfl, ⟨tk, _, rfl, sb _ _ zaf, DnL.same sab _ _ d9⟩, rfl⟩ (sab _ _ hcl9)
 obtain ⟨tC, hC, rC⟩ := tailC
 have elseE : ∃ t, PSs (zcj CX0 P w K mg base ["_law_state", "_law_many_here", "_law_most", "_law_cross_here", "_law_turn", "_law_one", "_law_other", "_law_way", "_law_far", "_law_pairs", "_law_total", "_law_top"] "_law_cross" (zab zbe) a.f_law_cross cdv A outer s H E).nox (zrb (zah zbe) [(1, false), (3, true)]) t ∧ ∀ (D : zh4) (cl : Addr) (one kc : Int) (zs : List V) (v4 v6 v7 v8 v9 v10 v11 : Option V) (H4 : Hp), Pen K H4 pen sp ns kc → 0 ≤ kc → kc ≤ 940000 → 0 ≤ one → one < m → H4 cl = some (.lst zs) → zs.length ≤ 100 → cl ≠ pen →
   (∀ (v : V) (top : Int) (ps : List PyData) (w8 w9 w10 w11 : Option V) (kd : Int) (H6 : Hp), SameX pen H4 H6 → H6 pen = some (.lst [.ref sp, .int kd]) → kc ≤ kd → kd ≤ kc + 21 → Dn H6 (.tuple [.str ("most" : Str), .int top, .tuple ps]) v → (ps.all ze5 = true ∧ ps.all (zbs 1) = true ∧ zbt (m : Int) (ps.map zmy) (-1) = true ∧ ps.length ≤ m ∧ 0 < ps.length) → H6 cl = some (.lst zs) → D.nx [some (.ref pen), some (.int (m : Int)), some (.int most), some (.ref cl), v4, some (.int one), v6, v7, w8, w9, w10, w11] (L2.upd H6 cl (.lst (zs ++ [v])))) →
   t D [some (.ref pen), some (.int (m : Int)), some (.int most), some (.ref cl), v4, some (.int one), v6, v7, v8, v9, v10, v11] H4 := by
  refine ⟨_, (zae (za1 (i := 8) sc_law_cross.nd rfl (Or.inr rfl) (zap (ixL (K := K)) (zct (zaa zad (zaa (za2 zsz zad zad) zac))) (zag G_law_take hr.lv rfl T.g_law_take T.K_law_take.kp T.B_law_take .nil zal (zaa (pv 0) (zaa zad zac))) (fun _ _ => rfl)))
   (zae (zis (i := 9) sc_law_cross.nd rfl rfl rfl (sc0 := zab zbe) (XN := ["_law_state", "_law_many_here", "_law_most", "_law_cross_here", "_law_turn", "_law_one", "_law_other", "_law_way", "_law_far", "_law_pairs", "_law_total", "_law_top"]) (N' := ["_law_c", "_law_state", "_law_far"]) (n := 1) (kp := [0, 8]) rfl (zhh rfl T.m_range (zaa (pv 1) zac)) rfl rfl (by decide +kernel) (fun _ _ _ _ _ => (za6 (i := 0) (by show List.Nodup (["_law_c", "_law_state", "_law_far"] : List Str); decide +kernel) rfl (Or.inl rfl))) (fun _ _ _ _ _ => (zd0 (zat zhm (zag G_law_take hr.lv rfl T.g_law_take T.K_law_take.kp T.B_law_take .nil zal (zaa (pv 1) (zaa zad zac))) zad (zas _)))) (fun _ _ _ _ _ => (zbb (zaa (pv 0) (zaa (za2 zex (zag G_law_take hr.lv rfl T.g_law_take T.K_law_take.kp T.B_law_take .nil zal (zaa (pv 1) (zaa (za2 zd5 zad (pv 2)) zac))) (za2 zn0 (pv 2) zad)) zac)))))
   (zae (za9 (zat (zo0 hr.units) (pv 9) (zct zac) (zas _)) (zai (za1 (i := 9) sc_law_cross.nd rfl (Or.inl rfl) (zct (zaa (zbb (zaa (pv 5) (zaa (pv 8) zac))) zac)))) zau)
   hC))), ?_⟩
  intro D cl one kc zs v4 v6 v7 v8 v9 v10 v11 H4 pn4 k40 k41 o0 o1 hc4 zfew ncp nx
  refine ⟨_, _, rfl, rfl, ⟨by decide, by decide, by decide⟩, small (by show 2 ≤ 1000; decide), fun fl' hfl => ?_⟩
  have sf := zak hfl (.lst [.int 4, .int (10 ^ (57 : Int).toNat)])
  have xf := Same.x (pen := pen) sf
  have nfp : fl' ≠ pen := Ne.symm (zaq pn4.at_ hfl)
  refine ⟨_, rfl, pen, sp, ns, 2, kc, rfl, pn4.to xf (sf _ _ pn4.at_), by omega, by omega, by decide, fun y y0 y1 => ?_⟩
  have xg := xf.trans (za3 (pen := pen) (.lst [.ref sp, .int (kc + 1)]))
  obtain ⟨far, hat, f0⟩ : ∃ far : Int, atI [V.int 4, V.int (10 ^ (57 : Int).toNat)] y = some (.int far) ∧ 0 < far := by
   have e : y = 0 ∨ y = 1 := by omega
   rcases e with e | e <;> rw [e]
   ·exact ⟨_, rfl, by decide⟩
   ·exact ⟨_, rfl, by decide +kernel⟩
  refine ⟨fl', _, _, _, rfl, rfl, SqL.of (by rw [zan nfp]; exact zaf), hat, ?_⟩
  have hpg : L2.upd (L2.upd H4 fl' (.lst [.int 4, .int (10 ^ (57 : Int).toNat)])) pen (.lst [.ref sp, .int (kc + 1)]) pen = some (.lst [.ref sp, .int (kc + 1)]) := zaf
  generalize L2.upd (L2.upd H4 fl' (.lst [.int 4, .int (10 ^ (57 : Int).toNat)])) pen (.lst [.ref sp, .int (kc + 1)]) = H5 at xg hpg ⊢
  generalize hkd : kc + 1 = kd at *
  have pn5 := pn4.to xg hpg
  refine ⟨_, rfl, _, rfl, by rw [p62]; omega, by rw [p62]; omega, ?_⟩
  rw [Int.toNat_natCast]
  refine zjm (k := m) (fun j ys σ H6 => (∃ v, σ = [v, some (.ref pen), some (.int far)]) ∧ SameX pen H5 H6 ∧ j ≤ m ∧ ∃ (kq : Int) (ps : List PyData), H6 pen = some (.lst [.ref sp, .int kq]) ∧ kd ≤ kq ∧ kq ≤ kd + 2 * j ∧ zh5 H6 j ps ys) ⟨⟨none, rfl⟩, SameX.refl _ _, Nat.zero_le _, kd, [], hpg, Int.le_refl _, by omega, ⟨rfl, rfl, rfl, rfl, Nat.le_refl _⟩⟩ (fun j ys σ H6 hj pv => ?_) (fun j ys σ H6 hj pv => ?_) (fun ys σ H6 pv pl hpl => ?_)
  ·obtain ⟨_, _, jm, kq, ps, _, _, _, pt⟩ := pv
   have := pt.few
   have := pt.dn.length
   exact small (by omega)
  ·obtain ⟨⟨v, rfl⟩, sx6, jm, kq, ps, hp6, kq0, kq1, pt⟩ := pv
   have few := pt.few
   have pn6 := pn5.to sx6 hp6
   refine ⟨_, rfl, pen, sp, ns, 3, kq, rfl, pn6, by omega, by omega, by decide, fun b b0 b1 => ?_⟩
   have xh := sx6.trans (za3 (pen := pen) (.lst [.ref sp, .int (kq + 1)]))
   have d7 := DnL.pen (ys := [.ref sp, .int (kq + 1)]) hp6 pt.flat pt.dn
   have hp7 : L2.upd H6 pen (.lst [.ref sp, .int (kq + 1)]) pen = some (.lst [.ref sp, .int (kq + 1)]) := zaf
   generalize L2.upd H6 pen (.lst [.ref sp, .int (kq + 1)]) = H7 at xh d7 hp7 ⊢
   refine ⟨_, _, rfl, rfl, _, rfl, ?_⟩
   refine zcs (fun c => ?_) (fun c => ?_)
   ·refine ⟨_, rfl, _, rfl, _, rfl, _, _, rfl, rfl, .inl ⟨by decide, by decide⟩, pen, sp, ns, _, kq + 1, rfl, pn5.to xh hp7, by omega, by omega, by omega, fun e e0 e1 => ?_⟩
    have xi := xh.trans (za3 (pen := pen) (.lst [.ref sp, .int (kq + 1 + 1)]))
    have d8 := DnL.pen (ys := [.ref sp, .int (kq + 1 + 1)]) hp7 pt.flat d7
    have hp8 : L2.upd H7 pen (.lst [.ref sp, .int (kq + 1 + 1)]) pen = some (.lst [.ref sp, .int (kq + 1 + 1)]) := zaf
    generalize L2.upd H7 pen (.lst [.ref sp, .int (kq + 1 + 1)]) = H8 at xi d8 hp8 ⊢
    refine ⟨_, rfl, _, _, rfl, rfl, ⟨by decide, by decide⟩, _, _, rfl, rfl, small (by show 2 ≤ 1000; decide), fun tp htp => ?_⟩
    have s9 := zak htp (.tup [.int (j : Int), .int (e - far / 2)])
    refine ⟨⟨_, rfl⟩, xi.trans (Same.x s9), hj, kq + 1 + 1, ps ++ [.tuple [.int (j : Int), .int (e - far / 2)]], s9 _ _ hp8, by omega, by push_cast; omega, ⟨?_, ?_, ?_, ?_, ?_⟩⟩
    ·exact (DnL.same s9 _ _ d8).append ⟨_, [], rfl, ⟨tp, _, rfl, zaf, _, _, rfl, rfl, _, _, rfl, rfl, rfl⟩, rfl⟩
    ·rw [List.all_append, pt.ok]
     rfl
    ·rw [List.all_append, pt.flat]
     rfl
    ·rw [List.map_append]
     show zbt ((j + 1 : Nat) : Int) (ps.map zmy ++ [.int (j : Int)]) (-1) = true
     exact zfe (by omega) pt.ris (by omega)
    ·rw [List.length_append, List.length_singleton]
     omega
   ·exact ⟨⟨_, rfl⟩, xh, hj, kq + 1, ps, hp7, by omega, by push_cast; omega, ⟨d7, pt.ok, pt.flat, zd3 (by omega) pt.ris, by omega⟩⟩
  obtain ⟨_, sx6, _, kq, ps, hp6, kq0, kq1, pt⟩ := pv
  have few := pt.few
  have lps := pt.dn.length
  have s7 := zak hpl (.lst ys)
  have x7 := xg.trans (sx6.trans (Same.x s7))
  have hp7 := s7 _ _ hp6
  have d7 := DnL.same s7 _ _ pt.dn
  have hpl7 : L2.upd H6 pl (.lst ys) pl = some (.lst ys) := zaf
  have npp : pl ≠ pen := Ne.symm (zaq hp6 hpl)
  generalize L2.upd H6 pl (.lst ys) = H7 at s7 x7 hp7 d7 hpl7 ⊢
  refine ⟨_, rfl, small (by decide), fun nl hnl => ?_⟩
  have s8 := zak hnl (.lst [])
  refine ⟨pl, nl, ys, rfl, rfl, s8 _ _ hpl7, zaf, _, rfl, ?_⟩
  by_cases ye : ys = []
  ·refine zdq ye ?_
   refine ⟨_, rfl, _, rfl, small (by show 2 ≤ 1000; decide), fun tp htp => ?_⟩
   have s9 := zak htp (.tup [.int one, .int far])
   refine ⟨small (by show 1 ≤ 1000; decide), fun pl2 hpl2 => ?_⟩
   have s10 := zak hpl2 (.lst [.ref tp])
   have sA := (s8.trans s9).trans s10
   have xA := x7.trans (Same.x (pen := pen) sA)
   have ptA : zh5 _ m [.tuple [.int one, .int far]] [.ref tp] := ⟨⟨_, [], rfl, ⟨tp, _, rfl, s10 _ _ zaf, _, _, rfl, rfl, _, _, rfl, rfl, rfl⟩, rfl⟩, rfl, rfl, by
    show (decide ((-1 : Int) + 1 ≤ one) && decide (one ≤ (m : Int) - 1) && true) = true
    rw [decide_eq_true (by omega), decide_eq_true (by omega)]
    rfl, by show 1 ≤ m; omega⟩
   refine rC _ cl pl2 far kq _ _ zs _ _ _ _ _ _ _ (pn4.to xA (sA _ _ hp7)) (by omega) (by omega) zaf ptA (by show 0 < 1; decide) (xA _ _ ncp hc4) (by omega) ncp (Ne.symm (zaq ((s8.trans s9) _ _ hp7) hpl2)) (fun v top w10 H9 x9 hp9 dv hc9 => ?_)
   exact nx v top _ _ _ _ _ (kq + 1 + 1) H9 (xA.trans x9) hp9 (by omega) (by omega) dv ⟨rfl, rfl, ptA.ris, ptA.few, by show 0 < 1; decide⟩ hc9
  ·refine zb1 ye ?_
   have xA := x7.trans (Same.x (pen := pen) s8)
   have p0 : 0 < ps.length := by
    rw [lps]
    exact List.length_pos_iff.mpr ye
   have ptA : zh5 _ m ps ys := ⟨DnL.same s8 _ _ d7, pt.ok, pt.flat, pt.ris, pt.few⟩
   refine rC _ cl pl far kq _ _ zs _ _ _ _ _ _ _ (pn4.to xA (s8 _ _ hp7)) (by omega) (by omega) (s8 _ _ hpl7) ptA p0 (xA _ _ ncp hc4) (by omega) ncp npp (fun v top w10 H9 x9 hp9 dv hc9 => ?_)
   exact nx v top _ _ _ _ _ (kq + 1 + 1) H9 (xA.trans x9) hp9 (by omega) (by omega) dv ⟨pt.ok, pt.flat, pt.ris, pt.few, p0⟩ hc9
 obtain ⟨tE, hE, rE⟩ := elseE
 refine ⟨_, (zae (za1 (i := 3) sc_law_cross.nd rfl (Or.inl rfl) (zct zac))
   (zae (zg7 PassesOwn.never rfl (zhh rfl T.m_range (zaa (zag G_law_take hr.lv rfl T.g_law_take T.K_law_take.kp T.B_law_take .nil zal (zaa (pv 0) (zaa (za2 zci (pv 2) zad) zac))) zac)) (za6 (i := 4) sc_law_cross.nd rfl (Or.inl rfl)) (zae (za1 (i := 5) sc_law_cross.nd rfl (Or.inl rfl) (zag G_law_take hr.lv rfl T.g_law_take T.K_law_take.kp T.B_law_take .nil zal (zaa (pv 0) (zaa (pv 1) zac))))
   (zae (za1 (i := 6) sc_law_cross.nd rfl (Or.inl rfl) (za2 zes (za2 zci (za2 zci (pv 5) zad) (zag G_law_take hr.lv rfl T.g_law_take T.K_law_take.kp T.B_law_take .nil zal (zaa (pv 0) (zaa (zaz (zed rfl) rfl T.m_max PyProof.Rows.boot_max (zaa zad (zaa (za2 zex (pv 1) zad) zac))) zac)))) (pv 1)))
   (zae (za1 (i := 7) sc_law_cross.nd rfl (Or.inl rfl) (zag G_law_take hr.lv rfl T.g_law_take T.K_law_take.kp T.B_law_take .nil zal (zaa (pv 0) (zaa zad zac))))
   (zai (za9 (PW.pt (ziq (zat zmb (pv 7) zad (zas _)) (zgz (zat zhm (pv 1) zad (zas _))))) (zai (zdc (zif (K := K) PySem.F.plainAttrs_list PySem.F.slot_list_append PySem.F.type_list_append zfu (pv 3) (zaa (zbb (zaa (zap (ixL (K := K)) (zct (zaa za0 (zaa za0 zac))) (pv 7) (fun _ _ => rfl)) (zaa (pv 5) (zaa (pv 6) zac)))) zac)))) hE))))))
   (zai (zam (pv 3))))), ?_⟩
 refine ⟨small (by decide), fun cl hcl => ?_⟩
 have ncp : cl ≠ pen := Ne.symm (zaq pn.at_ hcl)
 have s1 := zak hcl (.lst [])
 have pn1 := pn.to (Same.x s1) (s1 _ _ pn.at_)
 have hcl1 : L2.upd H cl (.lst []) cl = some (.lst []) := zaf
 have x1 : SameX pen H _ := Same.x (pen := pen) s1
 generalize L2.upd H cl (.lst []) = H1 at s1 pn1 hcl1 x1 ⊢
 refine ⟨_, rfl, _, rfl, _, _, rfl, rfl, pen, sp, ns, _, k, rfl, pn1, by omega, by omega, by omega, fun n n0 n1 => ?_⟩
 have x2 := x1.trans (za3 (pen := pen) (.lst [.ref sp, .int (k + 1)]))
 have hcl2 : L2.upd H1 pen (.lst [.ref sp, .int (k + 1)]) cl = some (.lst []) := by rw [zan ncp]; exact hcl1
 have hp2 : L2.upd H1 pen (.lst [.ref sp, .int (k + 1)]) pen = some (.lst [.ref sp, .int (k + 1)]) := zaf
 generalize L2.upd H1 pen (.lst [.ref sp, .int (k + 1)]) = H2 at x2 hcl2 hp2 ⊢
 refine ⟨_, rfl, by rw [p62]; omega, by rw [p62]; omega, ?_⟩
 refine zmz (n := n.toNat) (fun i σ H3 => ∃ (v4 v5 v6 v7 v8 v9 v10 v11 : Option V) (kc : Int) (cs : List PyData) (zs : List V), σ = [some (.ref pen), some (.int (m : Int)), some (.int most), some (.ref cl), v4, v5, v6, v7, v8, v9, v10, v11] ∧ SameX pen H H3 ∧ H3 pen = some (.lst [.ref sp, .int kc]) ∧ k ≤ kc ∧ kc ≤ k + 1 + 26 * i ∧ H3 cl = some (.lst zs) ∧ DnL H3 cs zs ∧ cs.length = i ∧ (∀ c ∈ cs, zf0 m c = true) ∧ cs.all (zbs 3) = true)
  ⟨_, _, _, _, _, _, _, _, k + 1, [], [], rfl, x2, hp2, by omega, by omega, hcl2, rfl, rfl, (fun _ z => nomatch z), rfl⟩ ?_ ?_
 ·rintro i σ H3 hi ⟨v4, v5, v6, v7, v8, v9, v10, v11, kc, cs, zs, rfl, sx, hp3, kc0, kc1, hc3, dn, ln, okc, fl⟩
  have i8 : i ≤ 8 := by omega
  have lz := dn.length
  have pn3 := pn.to sx hp3
  have done : ∀ (dd : PyData) (v : V) (kd : Int) (H6 : Hp) (w4 w5 w6 w7 w8 w9 w10 w11 : Option V), SameX pen H3 H6 → H6 pen = some (.lst [.ref sp, .int kd]) → kc ≤ kd → kd ≤ kc + 26 → H6 cl = some (.lst zs) → Dn H6 dd v → zf0 m dd = true → zbs 3 dd = true →
    (∃ (v4 v5 v6 v7 v8 v9 v10 v11 : Option V) (kc : Int) (cs : List PyData) (zs' : List V), [some (.ref pen), some (.int (m : Int)), some (.int most), some (.ref cl), w4, w5, w6, w7, w8, w9, w10, w11] = [some (.ref pen), some (.int (m : Int)), some (.int most), some (.ref cl), v4, v5, v6, v7, v8, v9, v10, v11] ∧ SameX pen H (L2.upd H6 cl (.lst (zs ++ [v]))) ∧ (L2.upd H6 cl (.lst (zs ++ [v]))) pen = some (.lst [.ref sp, .int kc]) ∧ k ≤ kc ∧ kc ≤ k + 1 + 26 * ((i + 1 : Nat) : Int) ∧ (L2.upd H6 cl (.lst (zs ++ [v]))) cl = some (.lst zs') ∧ DnL (L2.upd H6 cl (.lst (zs ++ [v]))) cs zs' ∧ cs.length = i + 1 ∧ (∀ c ∈ cs, zf0 m c = true) ∧ cs.all (zbs 3) = true) := by
   intro dd v kd H6 w4 w5 w6 w7 w8 w9 w10 w11 sx6 hp6 kd0 kd1 hc6 dv ti fd
   refine ⟨_, _, _, _, _, _, _, _, kd, cs ++ [dd], zs ++ [v], rfl, SameX.put (sx.trans sx6) hcl ncp hc6, ?_, by omega, by push_cast; omega, zaf, ?_, ?_, fun c hc' => ?_, ?_⟩
   ·rw [zan (Ne.symm ncp)]
    exact hp6
   ·exact (DnL.pen hc6 fl (DnL.tupS (SameX.tup hp3 sx6) fl dn)).append ⟨v, [], rfl, Dn.pen hc6 fd dv, rfl⟩
   ·rw [List.length_append, List.length_singleton, ln]
   ·rcases List.mem_append.mp hc' with z | z
    ·exact okc c z
    ·rw [List.mem_singleton.mp z]
     exact ti
   ·rw [List.all_append, fl]
    simp [fd]
  refine ⟨_, rfl, _, rfl, pen, sp, ns, m, kc, rfl, pn3, by omega, by omega, by omega, fun one o0 o1 => ?_⟩
  have xa := za3 (pen := pen) (H := H3) (.lst [.ref sp, .int (kc + 1)])
  refine ⟨_, rfl, _, _, rfl, rfl, _, rfl, _, rfl, _, _, rfl, rfl, _, _, rfl, pen, sp, ns, _, kc + 1, rfl, pn3.to xa zaf, by omega, by omega, (by split <;> omega), fun x x0 x1 => ?_⟩
  have xb := xa.trans (za3 (pen := pen) (.lst [.ref sp, .int (kc + 1 + 1)]))
  refine ⟨_, _, rfl, rfl, _, rfl, _, _, rfl, rfl, (by show (0 : Int) < m; omega), ?_⟩
  refine ⟨_, rfl, pen, sp, ns, 4, kc + 1 + 1, rfl, pn3.to xb zaf, by omega, by omega, by decide, fun way w0 w1 => ?_⟩
  have xc := xb.trans (za3 (pen := pen) (.lst [.ref sp, .int (kc + 1 + 1 + 1)]))
  have hpc : L2.upd (L2.upd (L2.upd H3 pen (.lst [.ref sp, .int (kc + 1)])) pen (.lst [.ref sp, .int (kc + 1 + 1)])) pen (.lst [.ref sp, .int (kc + 1 + 1 + 1)]) pen = some (.lst [.ref sp, .int (kc + 1 + 1 + 1)]) := zaf
  generalize L2.upd (L2.upd (L2.upd H3 pen (.lst [.ref sp, .int (kc + 1)])) pen (.lst [.ref sp, .int (kc + 1 + 1)])) pen (.lst [.ref sp, .int (kc + 1 + 1 + 1)]) = H4 at xc hpc ⊢
  have hc4 := xc _ _ ncp hc3
  have pn4 := pn3.to xc hpc
  refine ⟨_, rfl, _, _, rfl, rfl, _, rfl, ?_⟩
  have both : (way < 2 ∧ (1 : Int) < m) ∨ ¬ (way < 2 ∧ (1 : Int) < m) := Decidable.em _
  rcases both with ⟨c', m2'⟩ | nb
  ·refine zjj (decide_eq_true c') ?_
   refine ⟨_, rfl, _, _, rfl, rfl, _, rfl, ?_⟩
   refine zjj (decide_eq_true m2') ?_
   refine ⟨_, rfl, .inl ⟨rfl, _, SqL.of hc4⟩, small (by show 2 ≤ 1000; decide), fun lp hlp => ?_⟩
   have sn := zak hlp (.lst [.str ("needs" : Str), .str ("bans" : Str)])
   obtain ⟨sN, sk, snm, sok, hat⟩ : ∃ sN : Str, (sN = ("needs" : Str) ∨ sN = ("bans" : Str)) ∧ ¬ sN = ("most" : Str) ∧ PyData.strOk sN = true ∧ atI ([.str ("needs" : Str), .str ("bans" : Str)] : List V) way = some (.str sN) := by
    have e : way = 0 ∨ way = 1 := by omega
    rcases e with e | e <;> rw [e]
    ·exact ⟨_, .inl rfl, by decide +kernel, zhl, rfl⟩
    ·exact ⟨_, .inr rfl, by decide +kernel, znl, rfl⟩
   refine ⟨_, rfl, lp, _, _, _, rfl, rfl, SqL.of zaf, hat, _, rfl, _, rfl, small (by show 3 ≤ 1000; decide), fun tp htp => ?_⟩
   have x2 : x < (m : Int) - 1 := by revert x1; split <;> omega
   obtain ⟨n0', n1', n2'⟩ := zpg (many := m) m2' (by omega) o0 o1 x0 x2
   have st := zak htp (.tup [.str sN, .int one, .int ((one + 1 + x) % (m : Int))])
   have snt := sn.trans st
   refine ⟨cl, _, _, rfl, rfl, snt _ _ hc4, zcy (by omega), ?_⟩
   refine done (.tuple [.str sN, .int one, .int ((one + 1 + x) % (m : Int))]) _ (kc + 1 + 1 + 1) _ _ _ _ _ _ _ _ _ (xc.trans (Same.x snt)) (snt _ _ hpc) (by omega) (by omega) (snt _ _ hc4) ⟨tp, _, rfl, zaf, _, _, rfl, rfl, _, _, rfl, rfl, _, _, rfl, rfl, rfl⟩ ?_ ?_
   ·show zmk m sN _ _ = true
    unfold zmk
    rw [if_neg snm, if_pos sk]
    show ((decide ((0 : Int) ≤ _) && decide (_ ≤ (m : Int) - 1)) && ((decide ((0 : Int) ≤ _) && decide (_ ≤ (m : Int) - 1)) && !decide (_ = _))) = true
    rw [decide_eq_true o0, decide_eq_true (by omega), decide_eq_true n0', decide_eq_true (by omega), decide_eq_false n2']
    rfl
   ·show (true && (zbs 2 (.str sN) && (true && (true && true)))) = true
    rw [show zbs 2 (.str sN) = true from sok]
    rfl
  ·have mk : ∀ (v : V) (top : Int) (ps : List PyData) (w6 w8 w9 w10 w11 : Option V) (kd : Int) (H6 : Hp), SameX pen H4 H6 → H6 pen = some (.lst [.ref sp, .int kd]) → kc + 1 + 1 + 1 ≤ kd → kd ≤ kc + 1 + 1 + 1 + 21 → Dn H6 (.tuple [.str ("most" : Str), .int top, .tuple ps]) v → (ps.all ze5 = true ∧ ps.all (zbs 1) = true ∧ zbt (m : Int) (ps.map zmy) (-1) = true ∧ ps.length ≤ m ∧ 0 < ps.length) → H6 cl = some (.lst zs) → _ := fun v top ps w6 w8 w9 w10 w11 kd H6 x6 hp6 kd0 kd1 dv pp hc6 => done (.tuple [.str ("most" : Str), .int top, .tuple ps]) v kd H6 (some (.int (i : Int))) (some (.int one)) w6 (some (.int way)) w8 w9 w10 w11 (xc.trans x6) hp6 (by omega) (by omega) hc6 dv (by
     obtain ⟨pok, _, pri, _, p0⟩ := pp
     show zmk m ("most" : Str) (.int top) (.tuple ps) = true
     unfold zmk
     rw [if_pos rfl]
     show (true && (decide (0 < ps.length) && ps.all ze5 && zbt m (ps.map zmy) (-1))) = true
     rw [decide_eq_true p0, pok, pri]
     rfl) (by
     obtain ⟨_, pfl, _, pfw, _⟩ := pp
     have f2 : zbs 2 (.tuple ps) = true := by
      show (decide (ps.length ≤ 1000) && ps.all (zbs 1)) = true
      rw [decide_eq_true (by omega), pfl]
      rfl
     show (true && (zbs 2 (.str ("most" : Str)) && (zbs 2 (.int top) && (zbs 2 (.tuple ps) && true)))) = true
     rw [show zbs 2 (.str ("most" : Str)) = true from zmw, f2]
     rfl)
   by_cases c : way < 2
   ·refine zjj (decide_eq_true c) ?_
    refine ⟨_, rfl, _, _, rfl, rfl, _, rfl, ?_⟩
    refine zgx (decide_eq_false fun z => nb ⟨c, z⟩) ?_
    exact rE _ cl one (kc + 1 + 1 + 1) zs _ _ _ _ _ _ _ H4 pn4 (by omega) (by omega) o0 o1 hc4 (by omega) ncp fun v top ps w8 w9 w10 w11 => mk v top ps _ w8 w9 w10 w11
   ·refine zgx (decide_eq_false c) ?_
    refine zee ?_
    exact rE _ cl one (kc + 1 + 1 + 1) zs _ _ _ _ _ _ _ H4 pn4 (by omega) (by omega) o0 o1 hc4 (by omega) ncp fun v top ps w8 w9 w10 w11 => mk v top ps _ w8 w9 w10 w11
 ·rintro σ H3 ⟨v4, v5, v6, v7, v8, v9, v10, v11, kc, cs, zs, rfl, sx, hp3, kc0, kc1, hc3, dn, ln, okc, fl⟩
  exact ⟨_, rfl, q cl cs zs kc H3 sx hp3 (by omega) (by omega) hc3 hcl dn okc (by omega) fl⟩
end
section
variable {P : Program} {w : World} {K : PySem.W.Frag} {mg : Str → Option Value} {base : Heap} {a : Adr} {d : Fds}
theorem zmg (T : Txt K mg a d) : FnOk P w K mg base CX0 2 a.f_law_many d.f_law_many ["_law_state"] (zrj K) := by
 have G_law_take := zdg (P := P) (w := w) (base := base) T
 refine T.K_law_many.ok zlf (fun vs H Q E h => ?_) (fun cdv A outer s H vs Q E hr h => ?_)
 ·obtain ⟨pen, sp, ns, k, rfl, _⟩ := h
  rfl
 obtain ⟨pen, sp, ns, k, rfl, pn, k0, k1, q⟩ := h
 refine ⟨_, (zae (za9 (zat zby (zag G_law_take hr.lv rfl T.g_law_take T.K_law_take.kp T.B_law_take .nil zal (zaa (pv 0) (zaa zad zac))) zad (zas _)) (zai (zam (za2 zci zad (zag G_law_take hr.lv rfl T.g_law_take T.K_law_take.kp T.B_law_take .nil zal (zaa (pv 0) (zaa zad zac)))))) zau)
   (zai (zam (za2 zci zad (zag G_law_take hr.lv rfl T.g_law_take T.K_law_take.kp T.B_law_take .nil zal (zaa (pv 0) (zaa zad zac))))))), ?_⟩
 refine ⟨_, rfl, pen, sp, ns, 8, k, rfl, pn, k0, by omega, by decide, fun c c0 c1 => ?_⟩
 have sx1 := za3 (pen := pen) (H := H) (.lst [.ref sp, .int (k + 1)])
 have p1 := pn.to sx1 zaf
 refine ⟨rfl, _, rfl, ?_⟩
 refine zcs (fun c2 => ?_) (fun c2 => ?_)
 ·refine ⟨_, rfl, pen, sp, ns, 3, k + 1, rfl, p1, by omega, by omega, by decide, fun d d0 d1 => ?_⟩
  obtain ⟨m, rfl⟩ : ∃ m : Nat, d = (m : Int) := ⟨d.toNat, by omega⟩
  refine ⟨_, _, rfl, rfl, ?_⟩
  have := q (7 + m) (k + 1 + 1) _ (sx1.trans (za3 (pen := pen) _)) zaf (by omega) (by omega) (by omega) (by omega)
  rw [Int.natCast_add] at this
  exact this
 ·refine ⟨_, rfl, pen, sp, ns, 6, k + 1, rfl, p1, by omega, by omega, by decide, fun d d0 d1 => ?_⟩
  obtain ⟨m, rfl⟩ : ∃ m : Nat, d = (m : Int) := ⟨d.toNat, by omega⟩
  refine ⟨_, _, rfl, rfl, ?_⟩
  have := q (1 + m) (k + 1 + 1) _ (sx1.trans (za3 (pen := pen) _)) zaf (by omega) (by omega) (by omega) (by omega)
  rw [Int.natCast_add] at this
  exact this
end
section
variable {P : Program} {w : World} {K : PySem.W.Frag} {mg : Str → Option Value} {base : Heap} {a : Adr} {d : Fds}
theorem zhq (T : Txt K mg a d) : FnOk P w K mg base CX0 3 a.f_law_wood d.f_law_wood ["_law_state", "_law_many_here", "_law_most"] (zru K) := by
 have G_law_boughs := zjk (P := P) (w := w) (base := base) T
 have G_law_cross := zgr (P := P) (w := w) (base := base) T
 refine T.K_law_wood.ok zmc (fun vs H Q E h => ?_) (fun cdv A outer s H vs Q E hr h => ?_)
 ·obtain ⟨pen, sp, ns, m, most, k, rfl, _⟩ := h
  rfl
 obtain ⟨pen, sp, ns, m, most, k, rfl, pn, k0, k1, m1, m9, mo0, mo1, q⟩ := h
 refine ⟨_, (zai (zam (zbb (zaa (pv 1) (zaa (zcw zcz rfl T.m_tuple PyProof.Rows.boot_tuple (zaa (zag G_law_boughs hr.lv rfl T.g_law_boughs T.K_law_boughs.kp T.B_law_boughs .nil zal (zaa (pv 0) (zaa (pv 1) zac))) zac)) (zaa (zcw zcz rfl T.m_tuple PyProof.Rows.boot_tuple (zaa (zag G_law_cross hr.lv rfl T.g_law_cross T.K_law_cross.kp T.B_law_cross .nil zal (zaa (pv 0) (zaa (pv 1) (zaa (pv 2) zac)))) zac)) zac)))))), ?_⟩
 refine ⟨_, rfl, _, rfl, _, rfl, pen, sp, ns, m, k, rfl, pn, k0, by omega, m1, m9, fun l bs xs k2 H2 sx2 hp2 k20 k21 hl2 nl dn gb b8 fb => ?_⟩
 have lx := dn.length
 refine ⟨l, _, rfl, .inl ⟨SqL.of hl2, fun t1 ht1 => ?_⟩⟩
 have s3 := zak ht1 (.tup xs)
 have ht13 : L2.upd H2 t1 (.tup xs) t1 = some (.tup xs) := zaf
 have hp3 := s3 _ _ hp2
 have sx3 := sx2.trans (Same.x (pen := pen) s3)
 have d3 := DnL.same s3 _ _ dn
 generalize L2.upd H2 t1 (.tup xs) = H3 at s3 ht13 hp3 sx3 d3 ⊢
 refine ⟨_, rfl, _, rfl, _, rfl, pen, sp, ns, m, most, k2, rfl, pn.to sx3 hp3, by omega, by omega, m1, m9, mo0, mo1, fun cl cs zs k4 H4 sx4 hp4 k40 k41 hc4 nc dc okc lc fc => ?_⟩
 refine ⟨cl, _, rfl, .inl ⟨SqL.of hc4, fun t2 ht2 => ?_⟩⟩
 have s5 := zak ht2 (.tup zs)
 refine ⟨small (by show 3 ≤ 1000; decide), fun wd hwd => ?_⟩
 have s6 := zak hwd (.tup [.int (m : Int), .ref t1, .ref t2])
 have s56 := s5.trans s6
 have tS := SameX.tup hp3 sx4
 refine q wd bs cs k4 _ ((sx3.trans sx4).trans (Same.x s56)) (s56 _ _ hp4) (by omega) (by omega) ⟨⟨xs, zs, ⟨t1, t2, zaf, s56 _ _ (tS _ _ ht13), s6 _ _ zaf⟩, DnL.same s56 _ _ (DnL.tupS tS fb d3), DnL.same s56 _ _ dc⟩, gb, okc, by omega, by omega, fb, fc, m1, m9⟩ lc
end
section
variable {P : Program} {w : World} {K : PySem.W.Frag} {mg : Str → Option Value} {base : Heap} {a : Adr} {d : Fds}
theorem zlz (T : Txt K mg a d) : FnOk P w K mg base CX0 4 a.f_law_near d.f_law_near ["_law_state", "_law_wood_here"] (zr7 K) := by
 have G_law_take := zdg (P := P) (w := w) (base := base) T
 have G_law_wood := zhq (P := P) (w := w) (base := base) T
 have G_law_cross := zgr (P := P) (w := w) (base := base) T
 refine T.K_law_near.ok sc_law_near (fun vs H Q E h => ?_) (fun cdv A outer s H vs Q E hr h => ?_)
 ·obtain ⟨pen, sp, ns, wd, m, bs, cs, k, rfl, _⟩ := h
  rfl
 obtain ⟨pen, sp, ns, wd, m, bs, cs, k, rfl, pn, k0, k1, W, c4, q⟩ := h
 obtain ⟨xs, ys, ⟨tb, tc, hw, hb, hc⟩, db, dc⟩ := W.ex
 have m1 := W.m1
 have m9 := W.m9
 have b8 := W.b8
 have lxs := db.length
 have lys := dc.length
 have fcs := W.fc
 have fbs := W.fb
 have ret : ∀ (H5 : Hp) (tb' tc' : Addr) (xs' ys' : List V) (bs' cs' : List PyData) (k' : Int), SameX pen H H5 → H5 pen = some (.lst [.ref sp, .int k']) → k ≤ k' → k' ≤ k + 400 → H5 tb' = some (.tup xs') → H5 tc' = some (.tup ys') → DnL H5 bs' xs' → DnL H5 cs' ys' → GoodB m bs' → bs'.length ≤ 9 → bs'.all (zbs 3) = true → (∀ c ∈ cs', zf0 m c = true) → cs'.length ≤ 8 → cs'.all (zbs 3) = true → ∀ wd', H5 wd' = none → Q (.ref wd') (L2.upd H5 wd' (.tup [.int (m : Int), .ref tb', .ref tc'])) := by
  intro H5 tb' tc' xs' ys' bs' cs' k' x5 hp5 kk0 kk1 htb htc dbs dcs gb b9 fb gc c8 fc wd' hwd
  have s6 := zak hwd (.tup [.int (m : Int), .ref tb', .ref tc'])
  exact q wd' bs' cs' k' _ (x5.trans (Same.x s6)) (s6 _ _ hp5) kk0 kk1 ⟨⟨xs', ys', ⟨tb', tc', zaf, s6 _ _ htb, s6 _ _ htc⟩, DnL.same s6 _ _ dbs, DnL.same s6 _ _ dcs⟩, gb, gc, b9, by omega, fb, fc, m1, m9⟩ c8
 have rest : ∃ t, PSs (zcj CX0 P w K mg base ["_law_state", "_law_wood_here", "_law_many_here", "_law_boughs_here", "_law_cross_here", "_law_way", "_law_at", "_law_up", "_law_low", "_law_high", "_law_kids"] "_law_near" (zab zb5) a.f_law_near cdv A outer s H E).nox ((zah zb5).drop 8) t ∧ ∀ (way : Int) (at_ : Nat) (k' : Int) (v7 v8 v9 v10 : Option V) (H2 : Hp), SameX pen H H2 → H2 pen = some (.lst [.ref sp, .int k']) → k ≤ k' → k' ≤ k + 10 → at_ < bs.length →
   t { nx := fun _ H' => Q .non H', rt := Q } [some (.ref pen), some (.ref wd), some (.int (m : Int)), some (.ref tb), some (.ref tc), some (.int way), some (.int (at_ : Int)), v7, v8, v9, v10] H2 := by
  refine ⟨_, (zae (zik (zap (ixT (K := K)) (pv 3) (pv 6) (fun _ _ => rfl)) (pgT (K := K) (n := 4) rfl (zbk (za6 (i := 7) sc_law_near.nd rfl (Or.inl rfl)) (zbk (za6 (i := 8) sc_law_near.nd rfl (Or.inl rfl)) (zbk (za6 (i := 9) sc_law_near.nd rfl (Or.inl rfl)) (zbk (za6 (i := 10) sc_law_near.nd rfl (Or.inl rfl)) zdl))))))
   (zae (za9 (zat zby (pv 5) zad (zas _)) (zai (zam (zbb (zaa (pv 2) (zaa (za2 zd6 (za2 zd6 (zez zgh (pv 3) zgt (zgp (pv 6))) (zbb (zaa (zbb (zaa (pv 7) (zaa zad (zaa (zaz (zfx (K := K)) rfl T.m_len PySem.boot_len (zaa (pv 10) zac)) (zaa (pv 10) zac))))) zac))) (zez zgh (pv 3) (zgp (za2 zci (pv 6) zad)) zgt)) (zaa (pv 4) zac)))))) zau)
   (zae (za9 (zat zby (pv 5) zad (zas _)) (zai (zam (zbb (zaa (pv 2) (zaa (za2 zd6 (za2 zd6 (zez zgh (pv 3) (zgp (za2 zci (pv 6) zad)) zgt) (zez zgh (pv 3) zgt (zgp (pv 6)))) (zbb (zaa (zbb (zaa (pv 7) (zaa (pv 8) (zaa (zaz (zed rfl) rfl T.m_max PyProof.Rows.boot_max (zaa zad (zaa (pv 8) zac))) (zaa (pv 10) zac))))) zac))) (zaa (pv 4) zac)))))) zau)
   (zai (zam (zbb (zaa (pv 2) (zaa (pv 3) (zaa (za2 zd6 (pv 4) (zbb (zaa (zbb (zaa za0 (zaa (zaz (zo3 rfl) rfl T.m_max PyProof.Rows.boot_max (zaa (pv 10) zac)) (zaa (pv 7) zac)))) zac))) zac))))))))), ?_⟩
  intro way at_ k' v7 v8 v9 v10 H2 x2 hp2 kk0 kk1 hat
  have tS : zo1 H H2 := SameX.tup pn.at_ x2
  have hb2 := tS _ _ hb
  have hc2 := tS _ _ hc
  have db2 := DnL.tupS tS fbs db
  have dc2 := DnL.tupS tS fcs dc
  have hxa : at_ < xs.length := by omega
  obtain ⟨dd, hdd, hx'⟩ := db2.get (List.getElem?_eq_getElem hxa)
  have ddm := List.mem_of_getElem? hdd
  obtain ⟨u, lo, hi, kids, p, pk, ed, ep, hp, hpk, u0, um, kne, ris, lo0, lohi, hi1, hik, kfew, kup⟩ := zme (W.gb.each dd ddm) hx'
  have ebs : bs = bs.take at_ ++ dd :: bs.drop (at_ + 1) := by
   rw [← List.take_append_drop at_ bs]
   congr 1
   ·rw [List.take_append_drop]
   ·rw [List.take_append_drop, List.drop_eq_getElem_cons hat]
    congr 1
    exact (List.getElem?_eq_some_iff.mp hdd).2
  have lk : (kids.map V.int).length = kids.length := List.length_map _
  have kp := List.length_pos_iff.mpr kne
  have all3 : ∀ l : List PyData, (∀ b ∈ l, b ∈ bs) → l.all (zbs 3) = true := fun l h => List.all_eq_true.mpr fun b hb' => (List.all_eq_true.mp fbs) b (h b hb')
  refine ⟨_, rfl, _, rfl, tb, _, _, _, rfl, rfl, sqT hb2, zdz (List.getElem?_eq_getElem hxa), ?_⟩
  rw [ep]
  refine ⟨p, _, rfl, sqT hp, rfl, _, _, rfl, _, _, rfl, _, _, rfl, _, _, rfl, rfl, ?_⟩
  refine ⟨_, rfl, rfl, _, rfl, ?_⟩
  by_cases w4 : way = 4
  ·refine zdq (by rw [w4]) ?_
   refine ⟨_, rfl, _, rfl, _, rfl, _, rfl, tb, _, rfl, hb2, fun p1 H3 s3 h3 => ?_⟩
   refine ⟨_, rfl, _, rfl, pk, _, rfl, .inr (sqT (s3 _ _ hpk)), _, rfl, small (by show 4 ≤ 1000; decide), fun t1 ht1 => ?_⟩
   have s4 := zak ht1 (.tup [.int u, .int 0, .int ((kids.map V.int).length : Nat), .ref pk])
   refine ⟨small (by show 1 ≤ 1000; decide), fun t2 ht2 => ?_⟩
   have s5 := zak ht2 (.tup [.ref t1])
   have s45 := s4.trans s5
   have ht15 := s5 _ _ (zaf (H := H3) (a := t1) (o := .tup [.int u, .int 0, .int ((kids.map V.int).length : Nat), .ref pk]))
   have ht25 : L2.upd (L2.upd H3 t1 (.tup [.int u, .int 0, .int ((kids.map V.int).length : Nat), .ref pk])) t2 (.tup [.ref t1]) t2 = some (.tup [.ref t1]) := zaf
   generalize L2.upd (L2.upd H3 t1 (.tup [.int u, .int 0, .int ((kids.map V.int).length : Nat), .ref pk])) t2 (.tup [.ref t1]) = H5 at s45 ht15 ht25 ⊢
   have l1 := zdf xs none (some (at_ : Int))
   refine ⟨p1, t2, _, _, rfl, rfl, s45 _ _ h3, ht25, small (by show _ + 1 ≤ 1000; omega), fun p2 H6 s6 h6 => ?_⟩
   have s36 := s45.trans s6
   have s26 := s3.trans s36
   refine ⟨_, rfl, _, rfl, _, _, rfl, rfl, _, rfl, tb, _, rfl, s26 _ _ hb2, fun p3 H7 s7 h7 => ?_⟩
   have l2 := zdf xs (some ((at_ : Int) + 1)) none
   refine ⟨p2, p3, _, _, rfl, rfl, s7 _ _ h6, h7, small (by rw [List.length_append]; show _ + 1 + _ ≤ 1000; omega), fun p4 H8 s8 h8 => ?_⟩
   have s28 := (s26.trans s7).trans s8
   have e1 : zf5 xs none (some (at_ : Int)) = xs.take at_ := zlv xs at_ (by omega)
   have e2 : zf5 xs (some ((at_ : Int) + 1)) none = xs.drop (at_ + 1) := ziu xs (at_ + 1) (by omega)
   rw [e1, e2] at h8
   refine ⟨_, rfl, small (by show 3 ≤ 1000; decide), fun wd' hwd => ?_⟩
   have okN : zc4 m (zf9 u 0 kids.length kids) = true := zm1 u0 kne ris (Int.le_refl _) (by omega) (by omega) (Int.le_refl _)
   have fN := zib u 0 kids.length kids (by omega)
   have dN : Dn H8 (zf9 u 0 kids.length kids) (.ref t1) := ⟨t1, _, rfl, (s6.trans (s7.trans s8)) _ _ ht15, _, _, rfl, rfl, _, _, rfl, rfl, _, _, rfl, (by rw [lk]; rfl), _, _, rfl, ⟨pk, _, rfl, s28 _ _ hpk, zgj kids⟩, rfl⟩
   have d8 := DnL.same s28 _ _ db2
   refine ret H8 p4 tc _ ys (bs.take at_ ++ zf9 u 0 kids.length kids :: bs.drop (at_ + 1)) cs k' (x2.trans (Same.x s28)) (s28 _ _ hp2) kk0 (by omega) h8 (s28 _ _ hc2) ?_ (DnL.same s28 _ _ dc2) ?_ ?_ ?_ W.gc (by omega) fcs wd' hwd
   ·rw [List.append_assoc]
    exact (DnL.take at_ d8).append ⟨_, _, rfl, dN, DnL.drop (at_ + 1) d8⟩
   ·have G := W.gb
    rw [ebs] at G
    exact G.swap okN (by rw [zfa, ed, zfa])
   ·rw [List.length_append, List.length_cons, List.length_take, List.length_drop]
    omega
   ·rw [List.all_append, List.all_cons, all3 _ fun b hb' => List.mem_of_mem_take hb', all3 _ fun b hb' => List.mem_of_mem_drop hb', fN]
    rfl
  refine zb1 (fun z => w4 (by injection z)) ?_
  refine ⟨_, rfl, rfl, _, rfl, ?_⟩
  by_cases w5 : way = 5
  ·refine zdq (by rw [w5]) ?_
   refine ⟨_, rfl, _, rfl, _, rfl, _, _, rfl, rfl, _, rfl, tb, _, rfl, hb2, fun p1 H3 s3 h3 => ?_⟩
   refine ⟨_, rfl, _, rfl, _, rfl, tb, _, rfl, s3 _ _ hb2, fun p2 H4 s4 h4 => ?_⟩
   have l1 := zdf xs none (some (at_ : Int))
   have l2 := zdf xs (some ((at_ : Int) + 1)) none
   refine ⟨p1, p2, _, _, rfl, rfl, s4 _ _ h3, h4, small (by omega), fun p3 H5 s5 h5 => ?_⟩
   have s25 := (s3.trans s4).trans s5
   refine ⟨_, rfl, _, rfl, _, rfl, _, _, rfl, _, rfl, small (by show 4 ≤ 1000; decide), fun t1 ht1 => ?_⟩
   have s6 := zak ht1 (.tup [.int u, .int lo, .int (if lo > 1 then lo else 1), .ref pk])
   refine ⟨small (by show 1 ≤ 1000; decide), fun t2 ht2 => ?_⟩
   have s7 := zak ht2 (.tup [.ref t1])
   have s67 := s6.trans s7
   have ht17 := s7 _ _ (zaf (H := H5) (a := t1) (o := .tup [.int u, .int lo, .int (if lo > 1 then lo else 1), .ref pk]))
   have ht27 : L2.upd (L2.upd H5 t1 (.tup [.int u, .int lo, .int (if lo > 1 then lo else 1), .ref pk])) t2 (.tup [.ref t1]) t2 = some (.tup [.ref t1]) := zaf
   generalize L2.upd (L2.upd H5 t1 (.tup [.int u, .int lo, .int (if lo > 1 then lo else 1), .ref pk])) t2 (.tup [.ref t1]) = H7 at s67 ht17 ht27 ⊢
   refine ⟨p3, t2, _, _, rfl, rfl, s67 _ _ h5, ht27, small (by rw [List.length_append]; show _ + 1 ≤ 1000; omega), fun p4 H8 s8 h8 => ?_⟩
   have s28 := (s25.trans s67).trans s8
   have e1 : zf5 xs none (some (at_ : Int)) = xs.take at_ := zlv xs at_ (by omega)
   have e2 : zf5 xs (some ((at_ : Int) + 1)) none = xs.drop (at_ + 1) := ziu xs (at_ + 1) (by omega)
   rw [e1, e2] at h8
   refine ⟨_, rfl, small (by show 3 ≤ 1000; decide), fun wd' hwd => ?_⟩
   obtain ⟨h1, eh, g1, g2, g3⟩ : ∃ h1 : Int, (if lo > 1 then lo else 1) = h1 ∧ lo ≤ h1 ∧ 1 ≤ h1 ∧ h1 ≤ kids.length := ⟨_, rfl, by split <;> omega, by split <;> omega, by split <;> omega⟩
   rw [eh] at ht17
   have okN : zc4 m (zf9 u lo h1 kids) = true := zm1 u0 kne ris lo0 g1 g2 g3
   have fN := zib u lo h1 kids (by omega)
   have dN : Dn H8 (zf9 u lo h1 kids) (.ref t1) := ⟨t1, _, rfl, s8 _ _ ht17, _, _, rfl, rfl, _, _, rfl, rfl, _, _, rfl, rfl, _, _, rfl, ⟨pk, _, rfl, s28 _ _ hpk, zgj kids⟩, rfl⟩
   have d8 := DnL.same s28 _ _ db2
   refine ret H8 p4 tc _ ys (bs.drop (at_ + 1) ++ bs.take at_ ++ [zf9 u lo h1 kids]) cs k' (x2.trans (Same.x s28)) (s28 _ _ hp2) kk0 (by omega) h8 (s28 _ _ hc2) ?_ (DnL.same s28 _ _ dc2) ?_ ?_ ?_ W.gc (by omega) fcs wd' hwd
   ·exact ((DnL.drop (at_ + 1) d8).append (DnL.take at_ d8)).append ⟨_, [], rfl, dN, rfl⟩
   ·have G := W.gb
    rw [ebs] at G
    refine (G.swap okN (by rw [zfa, ed, zfa])).perm ?_
    rw [List.append_assoc]
    refine List.perm_append_comm.trans ?_
    rw [List.append_assoc]
    exact List.Perm.append_left _ (List.Perm.refl _)
   ·rw [List.length_append, List.length_append, List.length_singleton, List.length_take, List.length_drop]
    omega
   ·rw [List.all_append, List.all_append, List.all_cons, all3 _ fun b hb' => List.mem_of_mem_take hb', all3 _ fun b hb' => List.mem_of_mem_drop hb', fN]
    rfl
  refine zb1 (fun z => w5 (by injection z)) ?_
  refine ⟨_, rfl, _, rfl, _, rfl, _, rfl, pk, kids, rfl, sqT hpk, by omega, fun M hM => ?_⟩
  obtain ⟨mu, mm⟩ := kup M hM
  refine ⟨_, rfl, small (by show 3 ≤ 1000; decide), fun t1 ht1 => ?_⟩
  have s4 := zak ht1 (.tup [.str ("needs" : Str), .int M, .int u])
  refine ⟨small (by show 1 ≤ 1000; decide), fun t2 ht2 => ?_⟩
  have s5 := zak ht2 (.tup [.ref t1])
  have s45 := s4.trans s5
  have ht15 := s5 _ _ (zaf (H := H2) (a := t1) (o := .tup [.str ("needs" : Str), .int M, .int u]))
  have ht25 : L2.upd (L2.upd H2 t1 (.tup [.str ("needs" : Str), .int M, .int u])) t2 (.tup [.ref t1]) t2 = some (.tup [.ref t1]) := zaf
  generalize L2.upd (L2.upd H2 t1 (.tup [.str ("needs" : Str), .int M, .int u])) t2 (.tup [.ref t1]) = H5 at s45 ht15 ht25 ⊢
  refine ⟨tc, t2, _, _, rfl, rfl, s45 _ _ hc2, ht25, small (by show _ + 1 ≤ 1000; omega), fun p2 H6 s6 h6 => ?_⟩
  have s26 := s45.trans s6
  refine ⟨small (by show 3 ≤ 1000; decide), fun wd' hwd => ?_⟩
  have nm : ¬ ("needs" : Str) = ("most" : Str) := by decide +kernel
  have tiN : zf0 m (.tuple [.str ("needs" : Str), .int M, .int u]) = true := by
   show zmk m ("needs" : Str) _ _ = true
   unfold zmk
   rw [if_neg nm, if_pos (.inl rfl)]
   show ((decide ((0 : Int) ≤ _) && decide (_ ≤ (m : Int) - 1)) && ((decide ((0 : Int) ≤ _) && decide (_ ≤ (m : Int) - 1)) && !decide (_ = _))) = true
   rw [decide_eq_true (by omega), decide_eq_true (by omega), decide_eq_true u0, decide_eq_true (by omega), decide_eq_false (by omega)]
   rfl
  have fN : zbs 3 (.tuple [.str ("needs" : Str), .int M, .int u]) = true := by
   show (true && (zbs 2 (.str ("needs" : Str)) && (true && (true && true)))) = true
   rw [show zbs 2 (.str ("needs" : Str)) = true from zhl]
   rfl
  refine ret H6 tb p2 xs _ bs (cs ++ [.tuple [.str ("needs" : Str), .int M, .int u]]) k' (x2.trans (Same.x s26)) (s26 _ _ hp2) kk0 (by omega) (s26 _ _ hb2) h6 (DnL.same s26 _ _ db2) ?_ W.gb b8 fbs (fun c hc' => ?_) (by rw [List.length_append, List.length_singleton]; omega) ?_ wd' hwd
  ·exact (DnL.same s26 _ _ dc2).append ⟨_, [], rfl, ⟨t1, _, rfl, s6 _ _ ht15, _, _, rfl, rfl, _, _, rfl, rfl, _, _, rfl, rfl, rfl⟩, rfl⟩
  ·rcases List.mem_append.mp hc' with z | z
   ·exact W.gc c z
   ·rw [List.mem_singleton.mp z]
    exact tiN
  ·rw [List.all_append, fcs]
   simp [fN]
 obtain ⟨t8, h8, r8⟩ := rest
 refine ⟨_, (zae (zik (pv 1) (pgT (K := K) (n := 3) rfl (zbk (za6 (i := 2) sc_law_near.nd rfl (Or.inl rfl)) (zbk (za6 (i := 3) sc_law_near.nd rfl (Or.inl rfl)) (zbk (za6 (i := 4) sc_law_near.nd rfl (Or.inl rfl)) zdl)))))
   (zae (za1 (i := 5) sc_law_near.nd rfl (Or.inl rfl) (zag G_law_take hr.lv rfl T.g_law_take T.K_law_take.kp T.B_law_take .nil zal (zaa (pv 0) (zaa zad zac))))
   (zae (za1 (i := 6) sc_law_near.nd rfl (Or.inl rfl) (zag G_law_take hr.lv rfl T.g_law_take T.K_law_take.kp T.B_law_take .nil zal (zaa (pv 0) (zaa (zaz (zed rfl) rfl T.m_max PyProof.Rows.boot_max (zaa zad (zaa (zaz (zfx (K := K)) rfl T.m_len PySem.boot_len (zaa (pv 3) zac)) zac))) zac))))
   (zae (za9 (zat zby (pv 5) zad (zas _)) (zai (zam (zag G_law_wood hr.lv rfl T.g_law_wood T.K_law_wood.kp T.B_law_wood .nil zal (zaa (pv 0) (zaa (pv 2) (zaa zad zac)))))) zau)
   (zae (za9 (zat zby (pv 5) zad (zas _)) (zai (zam (zbb (zaa (pv 2) (zaa (zn9 (pv 3) (zpi zng zad)) (zaa (zn9 (pv 4) (zpi zng zad)) zac)))))) zau)
   (zae (za9 (zat zby (pv 5) zad (zas _)) (zai (zam (zbb (zaa (pv 2) (zaa (pv 3) (zaa (zez zgh (pv 4) (zgp zad) zgt) zac)))))) zau)
   (zae (za9 (zat zby (pv 5) zad (zas _)) (zai (zam (zbb (zaa (pv 2) (zaa (pv 3) (zaa (za2 zd6 (zcw zcz rfl T.m_tuple PyProof.Rows.boot_tuple (zaa (zag G_law_cross hr.lv rfl T.g_law_cross T.K_law_cross.kp T.B_law_cross .nil zal (zaa (pv 0) (zaa (pv 2) (zaa zad zac)))) zac)) (pv 4)) zac)))))) zau)
   (zae (za9 (zat (znm hr.units) (pv 3) (zbb zac) (zas _)) (zai (zam (pv 1))) zau)
   h8)))))))), ?_⟩
 refine ⟨_, rfl, wd, _, rfl, sqT hw, rfl, _, _, rfl, _, _, rfl, _, _, rfl, rfl, ?_⟩
 refine ⟨_, rfl, pen, sp, ns, 7, k, rfl, pn, k0, by omega, by decide, fun way w0 w1 => ?_⟩
 have x1 := za3 (pen := pen) (H := H) (.lst [.ref sp, .int (k + 1)])
 have pn1 := pn.to x1 zaf
 have hb1 := (SameX.tup pn.at_ x1) _ _ hb
 generalize L2.upd H pen (.lst [.ref sp, .int (k + 1)]) = H1 at x1 pn1 hb1 ⊢
 refine ⟨_, rfl, _, rfl, tb, _, rfl, .inr (sqT hb1), _, _, rfl, pen, sp, ns, _, k + 1, rfl, pn1, by omega, by omega, (by split <;> omega), fun at' a0 a1 => ?_⟩
 obtain ⟨at_, rfl⟩ : ∃ j : Nat, at' = (j : Int) := ⟨at'.toNat, by omega⟩
 have x2 := x1.trans (za3 (pen := pen) (.lst [.ref sp, .int (k + 1 + 1)]))
 have hp2 : L2.upd H1 pen (.lst [.ref sp, .int (k + 1 + 1)]) pen = some (.lst [.ref sp, .int (k + 1 + 1)]) := zaf
 generalize L2.upd H1 pen (.lst [.ref sp, .int (k + 1 + 1)]) = H2 at x2 hp2 ⊢
 have tS : zo1 H H2 := SameX.tup pn.at_ x2
 have hb2 := tS _ _ hb
 have hc2 := tS _ _ hc
 have db2 := DnL.tupS tS fbs db
 have dc2 := DnL.tupS tS fcs dc
 have pn2 := pn.to x2 hp2
 refine ⟨_, rfl, rfl, _, rfl, ?_⟩
 by_cases c0 : way = 0
 ·refine zdq (by rw [c0]) ?_
  refine ⟨_, rfl, _, rfl, pen, sp, ns, m, 4, k + 1 + 1, rfl, pn2, by omega, by omega, m1, m9, by decide, by decide, fun wd' bs' cs' k' H3 sx3 hp3 k30 k31 W3 lc3 => ?_⟩
  exact q wd' bs' cs' k' H3 (x2.trans sx3) hp3 (by omega) (by omega) W3 (by omega)
 refine zb1 (fun z => c0 (by injection z)) ?_
 refine ⟨_, rfl, rfl, _, rfl, ?_⟩
 by_cases c1 : way = 1
 ·refine zdq (by rw [c1]) ?_
  refine ⟨_, rfl, _, rfl, _, rfl, tb, _, rfl, rfl, hb2, fun p1 hp1 => ?_⟩
  have s3 := zak hp1 (.tup xs.reverse)
  refine ⟨_, rfl, _, rfl, tc, _, rfl, rfl, s3 _ _ hc2, fun p2 hp2' => ?_⟩
  have s4 := zak hp2' (.tup ys.reverse)
  have s34 := s3.trans s4
  refine ⟨small (by show 3 ≤ 1000; decide), fun wd' hwd => ?_⟩
  refine ret _ p1 p2 _ _ bs.reverse cs.reverse (k + 1 + 1) (x2.trans (Same.x s34)) (s34 _ _ hp2) (by omega) (by omega) (s4 _ _ zaf) zaf (DnL.reverse (DnL.same s34 _ _ db2)) (DnL.reverse (DnL.same s34 _ _ dc2)) (W.gb.perm (List.reverse_perm bs)) (by rw [List.length_reverse]; exact b8) (by rw [List.all_reverse]; exact fbs) (fun c hc' => W.gc c (List.mem_reverse.mp hc')) (by rw [List.length_reverse]; omega) (by rw [List.all_reverse]; exact fcs) wd' hwd
 refine zb1 (fun z => c1 (by injection z)) ?_
 refine ⟨_, rfl, rfl, _, rfl, ?_⟩
 by_cases c2 : way = 2
 ·refine zdq (by rw [c2]) ?_
  refine ⟨_, rfl, _, rfl, _, rfl, _, rfl, tc, _, rfl, hc2, fun p1 H3 s3 h3 => ?_⟩
  rw [zoy] at h3
  refine ⟨small (by show 3 ≤ 1000; decide), fun wd' hwd => ?_⟩
  refine ret H3 tb p1 xs _ bs (cs.drop 1) (k + 1 + 1) (x2.trans (Same.x s3)) (s3 _ _ hp2) (by omega) (by omega) (s3 _ _ hb2) h3 (DnL.same s3 _ _ db2) (DnL.drop 1 (DnL.same s3 _ _ dc2)) W.gb b8 fbs (fun c hc' => W.gc c (List.mem_of_mem_drop hc')) (by rw [List.length_drop]; omega) (List.all_eq_true.mpr fun c hc' => (List.all_eq_true.mp fcs) c (List.mem_of_mem_drop hc')) wd' hwd
 refine zb1 (fun z => c2 (by injection z)) ?_
 refine ⟨_, rfl, rfl, _, rfl, ?_⟩
 by_cases c3 : way = 3
 ·refine zdq (by rw [c3]) ?_
  refine ⟨_, rfl, _, rfl, _, rfl, _, rfl, pen, sp, ns, m, 2, k + 1 + 1, rfl, pn2, by omega, by omega, m1, m9, by decide, by decide, fun l cs' zs k' H3 sx3 hp3 k30 k31 hl3 nl dz okz lz fz => ?_⟩
  refine ⟨l, _, rfl, .inl ⟨SqL.of hl3, fun t1 ht1 => ?_⟩⟩
  have s4 := zak ht1 (.tup zs)
  have tS3 := SameX.tup hp2 sx3
  have lzs := dz.length
  refine ⟨_, rfl, t1, tc, _, _, rfl, rfl, zaf, s4 _ _ (tS3 _ _ hc2), small (by omega), fun p2 H5 s5 h5 => ?_⟩
  have s45 := s4.trans s5
  refine ⟨small (by show 3 ≤ 1000; decide), fun wd' hwd => ?_⟩
  refine ret H5 tb p2 xs _ bs (cs' ++ cs) k' ((x2.trans sx3).trans (Same.x s45)) (s45 _ _ hp3) (by omega) (by omega) (s45 _ _ (tS3 _ _ hb2)) h5 (DnL.same s45 _ _ (DnL.tupS tS3 fbs db2)) ((DnL.same s45 _ _ dz).append (DnL.same s45 _ _ (DnL.tupS tS3 fcs dc2))) W.gb b8 fbs (fun c hc' => ?_) (by rw [List.length_append]; omega) (by rw [List.all_append, fz, fcs]; rfl) wd' hwd
  rcases List.mem_append.mp hc' with z | z
  ·exact okz c z
  ·exact W.gc c z
 refine zb1 (fun z => c3 (by injection z)) ?_
 refine ⟨_, rfl, small (by decide), fun e0 he0 => ?_⟩
 have s3 := zak he0 (.tup [])
 refine ⟨.tuple bs, .tuple [], ⟨tb, _, rfl, s3 _ _ hb2, DnL.same s3 _ _ db2⟩, ⟨e0, _, rfl, zaf, rfl⟩, zms (by decide) fbs, zl8, _, rfl, ?_⟩
 rw [zpo]
 by_cases be : bs = []
 ·refine zdq be ?_
  refine ⟨_, rfl, ?_⟩
  exact q wd bs cs (k + 1 + 1) _ (x2.trans (Same.x s3)) (s3 _ _ hp2) (by omega) (by omega) (W.tupS (fun b zs h => s3 _ _ (tS b zs h))) (by omega)
 ·refine zb1 be ?_
  have lb := List.length_pos_iff.mpr be
  exact r8 way at_ (k + 1 + 1) _ _ _ _ _ (x2.trans (Same.x s3)) (s3 _ _ hp2) (by omega) (by omega) (by revert a1; split <;> omega)
end
section
variable {P : Program} {w : World} {K : PySem.W.Frag} {mg : Str → Option Value} {base : Heap} {a : Adr} {d : Fds}
theorem zej (T : Txt K mg a d) {p : Addr} {C : Hp → Prop} {r : Bool} {fdL : FuncData} {φ : Heap → Prop} (L__law_ask : FnOk P w K mg base (CXR P w) 24 p fdL [] (zse C a.x_Unlike r)) (LB__law_ask : Binds K fdL [] []) (LP__law_ask : ∀ h : Heap, φ h → ∃ o fd', h.get? p = some o ∧ o.data = .func fd')
  (hCp : ∀ H, C H → H p = some (.ext φ)) : FnOk P w K mg base CX0 25 a.f_law_heard d.f_law_heard ["_law_ask"] (zq7 p C r) := by
 refine T.K_law_heard.ok sc_law_heard (fun vs H Q E h => ?_) (fun cdv A outer s H vs Q E hr h => ?_)
 ·obtain ⟨rfl, _⟩ := h
  rfl
 obtain ⟨rfl, c0, q⟩ := h
 obtain ⟨W, hW⟩ : ∃ W : XK, W = fun cls _ H' => r = true ∧ cls = .ref a.x_Unlike ∧ H' = H := ⟨_, rfl⟩
 refine ⟨_, (zae (za1 (i := 1) sc_law_heard.nd rfl (Or.inl rfl) zeu)
   (zae (zq1 (i := 2) (W := W) rfl rfl (fun _ => (zai (zdc (zpe (i := 0) L__law_ask hr.lv rfl (.inl rfl) LB__law_ask LP__law_ask zt3)))) rfl T.g_WoodError T.x_WoodError.cl sc_law_heard.nd rfl rfl (Or.inl rfl) (fun _ => (zai (za1 (i := 1) sc_law_heard.nd rfl (Or.inl rfl) (pv 2)))))
   (zae (za9 (zat zqg (pv 1) zeu (zas _)) (zai (zam za0)) zau)
   (zae (za9 (PW.pt (zhp (zb8 (zaz (zkw (K := K)) rfl T.m_isinstance PyProof.Rows.boot_isinstance (zaa (pv 1) (zaa (zd1 (v := .ref a.x_NoCount) rfl T.g_NoCount rfl) zac)))) (zhp (zb8 (zaz (zkw (K := K)) rfl T.m_isinstance PyProof.Rows.boot_isinstance (zaa (pv 1) (zaa (zd1 (v := .ref a.x_NoName) rfl T.g_NoName rfl) zac)))) (zha (zb8 (zaz (zkw (K := K)) rfl T.m_isinstance PyProof.Rows.boot_isinstance (zaa (pv 1) (zaa (zd1 (v := .ref a.x_NoOffer) rfl T.g_NoOffer rfl) zac)))))))) (zai (zam za0)) zau)
   (zae (za9 (PW.pt (zhp (zb8 (zaz (zkw (K := K)) rfl T.m_isinstance PyProof.Rows.boot_isinstance (zaa (pv 1) (zaa (zd1 (v := .ref a.x_NoRow) rfl T.g_NoRow rfl) zac)))) (zhp (zb8 (zaz (zkw (K := K)) rfl T.m_isinstance PyProof.Rows.boot_isinstance (zaa (pv 1) (zaa (zd1 (v := .ref a.x_NoText) rfl T.g_NoText rfl) zac)))) (zha (zb8 (zaz (zkw (K := K)) rfl T.m_isinstance PyProof.Rows.boot_isinstance (zaa (pv 1) (zaa (zd1 (v := .ref a.x_NoWares) rfl T.g_NoWares rfl) zac)))))))) (zai (zam za0)) zau)
   (zae (za9 (PW.pt (zhp (zb8 (zaz (zkw (K := K)) rfl T.m_isinstance PyProof.Rows.boot_isinstance (zaa (pv 1) (zaa (zd1 (v := .ref a.x_NoWood) rfl T.g_NoWood rfl) zac)))) (zha (zem (zb8 (zaz (zkw (K := K)) rfl T.m_isinstance PyProof.Rows.boot_isinstance (zaa (pv 1) (zaa (zri (v := .ty "ValueError") rfl T.m_ValueError zrk rfl) zac)))))))) (zai (zam za0)) zau)
   (zai (zam (zap (ixL (K := K)) (zct (zaa za0 (zaa za0 zac))) (zcw zj1 rfl T.m_int PyProof.Rows.boot_int (zaa (zaz (zkw (K := K)) rfl T.m_isinstance PyProof.Rows.boot_isinstance (zaa (pv 1) (zaa (zd1 (v := .ref a.x_Unlike) rfl T.g_Unlike rfl) zac))) zac)) (fun _ _ => rfl)))))))))), ?_⟩
 refine ⟨⟨rfl, hCp _ c0, rfl, c0, fun hr' => by rw [hW]; exact ⟨hr', rfl, rfl⟩, fun hr' v H' s' => ?_⟩, ?_⟩
 ·refine ⟨_, rfl, rfl, _, rfl, ?_⟩
  refine zdq rfl ?_
  have q' := q H' s'
  rw [hr'] at q'
  exact q'
 intro σ' H' ea Dc hl w1 hea
 rw [hW] at w1
 obtain ⟨hr', ec, rfl⟩ := w1
 cases Value.ref.inj ec
 obtain ⟨v0, v1, v2, rfl⟩ := len3 hl
 refine ⟨T.x_Unlike.cl, T.s_Unlike_WoodError, ?_⟩
 have s1 := zak hea (.ext (zji ea a.x_Unlike))
 have h1 : L2.upd H' ea (.ext (zji ea a.x_Unlike)) ea = some (.ext (zji ea a.x_Unlike)) := zaf
 generalize L2.upd H' ea (.ext (zji ea a.x_Unlike)) = H1 at s1 h1 ⊢
 refine ⟨_, rfl, ?_⟩
 refine ⟨_, rfl, rfl, _, rfl, ?_⟩
 refine zb1 (fun z => nomatch z) ?_
 refine ⟨_, rfl, ea, _, _, _, rfl, h1, T.x_Unlike, .inl ⟨_, rfl, T.k_Unlike_NoCount⟩, _, rfl, ?_⟩
 refine zee ?_
 refine ⟨_, rfl, ea, _, _, _, rfl, h1, T.x_Unlike, .inl ⟨_, rfl, T.k_Unlike_NoName⟩, _, rfl, ?_⟩
 refine zee ?_
 refine ⟨_, rfl, ea, _, _, _, rfl, h1, T.x_Unlike, .inl ⟨_, rfl, T.k_Unlike_NoOffer⟩, _, rfl, ?_⟩
 refine zee ?_
 refine ⟨_, rfl, ea, _, _, _, rfl, h1, T.x_Unlike, .inl ⟨_, rfl, T.k_Unlike_NoRow⟩, _, rfl, ?_⟩
 refine zee ?_
 refine ⟨_, rfl, ea, _, _, _, rfl, h1, T.x_Unlike, .inl ⟨_, rfl, T.k_Unlike_NoText⟩, _, rfl, ?_⟩
 refine zee ?_
 refine ⟨_, rfl, ea, _, _, _, rfl, h1, T.x_Unlike, .inl ⟨_, rfl, T.k_Unlike_NoWares⟩, _, rfl, ?_⟩
 refine zee ?_
 refine ⟨_, rfl, ea, _, _, _, rfl, h1, T.x_Unlike, .inl ⟨_, rfl, T.k_Unlike_NoWood⟩, _, rfl, ?_⟩
 refine zee ?_
 refine ⟨_, rfl, ea, _, _, _, rfl, h1, T.x_Unlike, .inr ⟨_, rfl, T.v_Unlike⟩, _, rfl, ?_⟩
 refine zee ?_
 refine ⟨small (by show 2 ≤ 1000; decide), fun l hl => ?_⟩
 have s2 := zak hl (.lst [.str ("other" : Str), .str ("unlike" : Str)])
 refine ⟨_, rfl, ea, _, _, _, rfl, s2 _ _ h1, T.x_Unlike, .inl ⟨_, rfl, T.k_Unlike_Unlike⟩, .inr ⟨_, rfl, ?_⟩⟩
 refine ⟨l, _, _, .str ("unlike" : Str), rfl, rfl, SqL.of zaf, rfl, ?_⟩
 have q' := q _ (s1.trans s2)
 rw [hr'] at q'
 exact q'
end
section
variable {P : Program} {w : World} {K : PySem.W.Frag} {mg : Str → Option Value} {base : Heap} {a : Adr} {d : Fds}
theorem zev (T : Txt K mg a d) : FnOk P w K mg base (CXR P w) 1 a.f_check_alike d.f_check_alike ["one", "other"] (zhb a.x_Unlike) := by
 refine T.K_check_alike.okR ze6 (fun vs H Q E h => ?_) (fun cdv A outer s H vs Q E hr h => ?_)
 ·obtain ⟨w1, w2, m1, m2, t1, t2, rfl, _⟩ := h
  rfl
 obtain ⟨w1, w2, m1, m2, t1, t2, rfl, W1, W2, ne, hE⟩ := h
 obtain ⟨xs, ys, ⟨tb, tc, hw, hb, hc⟩, _⟩ := W1.ex
 obtain ⟨xs', ys', ⟨tb', tc', hw', hb', hc'⟩, _⟩ := W2.ex
 refine ⟨_, zai (za9 (zat zml (zap (ixT (K := K)) (pv 0) zad (fun _ _ => rfl)) (zap (ixT (K := K)) (pv 1) zad (fun _ _ => rfl)) (zas _)) (zai (zpv rfl rfl T.g_Unlike T.x_Unlike.cl (zaa za0 zac) (fun _ _ _ _ _ _ _ I hx hW => zq9 I hx hW))) zau), ?_⟩
 refine ⟨_, rfl, w1, _, _, _, rfl, rfl, sqT hw, at0, _, rfl, w2, _, _, _, rfl, rfl, sqT hw', at0, rfl, _, rfl, ?_⟩
 refine zjj ?_ ?_
 ·rw [Bool.not_eq_true', decide_eq_false_iff_not]
  intro z
  injection z with z
  omega
 ·exact ⟨by show 1 ≤ 1000; decide, hE⟩
theorem zjc (T : Txt K mg a d) : FnOk P w K mg base (CXR P w) 2 a.f_within d.f_within ["one", "other"] (zhb a.x_Unlike) := by
 have X_check_alike := zev (P := P) (w := w) (base := base) T
 refine T.K_within.okR sc_within (fun vs H Q E h => ?_) (fun cdv A outer s H vs Q E hr h => ?_)
 ·obtain ⟨w1, w2, m1, m2, t1, t2, rfl, _⟩ := h
  rfl
 obtain ⟨w1, w2, m1, m2, t1, t2, rfl, hs⟩ := h
 have rest : PSs (zcj (CXR P w) P w K mg base ["one", "other", "outside", "root"] "within" (zab zbr) a.f_within cdv A outer s H E) ((zah zbr).drop 1) (fun _ _ _ => False) := fun _ _ _ _ _ _ h => h.elim
 refine ⟨_, zae (zdc (zag X_check_alike hr.lv rfl T.g_check_alike T.K_check_alike.kp T.B_check_alike .nil zm3 (zaa (pv 0) (zaa (pv 1) zac)))) rest, ?_⟩
 exact ⟨_, rfl, _, rfl, w1, w2, m1, m2, t1, t2, rfl, hs⟩
theorem zkd (T : Txt K mg a d) : FnOk P w K mg base (CXR P w) 3 a.f_compared d.f_compared ["one", "other"] (zhb a.x_Unlike) := by
 have X_within := zjc (P := P) (w := w) (base := base) T
 refine T.K_compared.okR sc_compared (fun vs H Q E h => ?_) (fun cdv A outer s H vs Q E hr h => ?_)
 ·obtain ⟨w1, w2, m1, m2, t1, t2, rfl, _⟩ := h
  rfl
 obtain ⟨w1, w2, m1, m2, t1, t2, rfl, hs⟩ := h
 have rest : PSs (zcj (CXR P w) P w K mg base ["one", "other", "there", "back"] "compared" (zab zb7) a.f_compared cdv A outer s H E) ((zah zb7).drop 1) (fun _ _ _ => False) := fun _ _ _ _ _ _ h => h.elim
 refine ⟨_, zae (za1 (i := 2) sc_compared.nd rfl (Or.inl rfl) (zag X_within hr.lv rfl T.g_within T.K_within.kp T.B_within .nil zm3 (zaa (pv 0) (zaa (pv 1) zac)))) rest, ?_⟩
 exact ⟨_, rfl, _, rfl, w1, w2, m1, m2, t1, t2, rfl, hs⟩
theorem zg5 (T : Txt K mg a d) : FnOk P w K mg base (CXR P w) 2 a.f_shows_within d.f_shows_within ["one", "other", "tree"] (zpb a.x_Unlike) := by
 have X_check_alike := zev (P := P) (w := w) (base := base) T
 refine T.K_shows_within.okR sc_shows_within (fun vs H Q E h => ?_) (fun cdv A outer s H vs Q E hr h => ?_)
 ·obtain ⟨w1, w2, m1, m2, t1, t2, v, rfl, _⟩ := h
  rfl
 obtain ⟨w1, w2, m1, m2, t1, t2, v, rfl, hs⟩ := h
 have rest : PSs (zcj (CXR P w) P w K mg base ["one", "other", "tree", "root"] "shows_within" (zab zay) a.f_shows_within cdv A outer s H E) ((zah zay).drop 1) (fun _ _ _ => False) := fun _ _ _ _ _ _ h => h.elim
 refine ⟨_, zae (zdc (zag X_check_alike hr.lv rfl T.g_check_alike T.K_check_alike.kp T.B_check_alike .nil zm3 (zaa (pv 0) (zaa (pv 1) zac)))) rest, ?_⟩
 exact ⟨_, rfl, _, rfl, w1, w2, m1, m2, t1, t2, rfl, hs⟩
theorem zio (T : Txt K mg a d) (LBc : LamB mg base a.c_cases_of a.t_cases_of) (LBw : LamB mg base a.c_within a.t_within) (LBs : LamB mg base a.c_shows_within a.t_shows_within) (LB : LamB mg base a.c_law_refused a.t_law_refused) (r : Bool) : FnOk P w K mg base CX0 26 a.f_law_refused d.f_law_refused ["_law_one", "_law_other", "_law_tree", "_law_due"] (znn [a.t_cases_of, a.t_within, a.t_shows_within, a.t_law_refused] r) := by
 obtain ⟨ps, hps⟩ : ∃ ps, ps = [a.t_cases_of, a.t_within, a.t_shows_within, a.t_law_refused] := ⟨_, rfl⟩
 rw [← hps]
 have tc0 : a.t_cases_of ∈ ps := by rw [hps]; simp
 have tw0 : a.t_within ∈ ps := by rw [hps]; simp
 have ts0 : a.t_shows_within ∈ ps := by rw [hps]; simp
 have tl0 : a.t_law_refused ∈ ps := by rw [hps]; simp
 refine T.K_law_refused.okC zja (fun vs H Q E h => ?_) (fun cdv A outer s H vs Q E hcd hr h => ?_)
 ·obtain ⟨w1, w2, m1, m2, t1, t2, v, rfl, _⟩ := h
  rfl
 obtain ⟨w1, w2, m1, m2, t1, t2, v, rfl, AC, lo, hi, q⟩ := h
 have LC : ((zcj CX0 P w K mg base ["_law_one", "_law_other", "_law_tree", "_law_due"] "_law_refused" (zab zax) a.f_law_refused cdv A outer s H E).nox).env.code = .ref a.c_law_refused := hcd.symm.trans T.code_law_refused
 have LF1 : ∀ y ∈ (zcq (zc0 (zpd (ifT (zah zax)[0]?)))).names, y.2 = .free → ∃ c, ((zcj CX0 P w K mg base ["_law_one", "_law_other", "_law_tree", "_law_due"] "_law_refused" (zab zax) a.f_law_refused cdv A outer s H E).nox).env.cells.lookup y.1 = some c := by
  intro y hy hz
  have h := (by decide +kernel : ∀ y ∈ (zcq (zc0 (zpd (ifT (zah zax)[0]?)))).names, y.2 = NameKind.free → y = (("_law_one" : Str), NameKind.free) ∨ y = (("_law_other" : Str), NameKind.free))
  rcases h y hy hz with rfl | rfl
  ·exact ⟨_, rfl⟩
  ·exact ⟨_, rfl⟩
 have LF2 : ∀ y ∈ (zcq (zc0 (zpd (ifT (zah zax)[1]?)))).names, y.2 = .free → ∃ c, ((zcj CX0 P w K mg base ["_law_one", "_law_other", "_law_tree", "_law_due"] "_law_refused" (zab zax) a.f_law_refused cdv A outer s H E).nox).env.cells.lookup y.1 = some c := by
  intro y hy hz
  have h := (by decide +kernel : ∀ y ∈ (zcq (zc0 (zpd (ifT (zah zax)[1]?)))).names, y.2 = NameKind.free → y = (("_law_one" : Str), NameKind.free) ∨ y = (("_law_other" : Str), NameKind.free))
  rcases h y hy hz with rfl | rfl
  ·exact ⟨_, rfl⟩
  ·exact ⟨_, rfl⟩
 have LF3 : ∀ y ∈ (zcq (zc0 (zpd (zle (zah zax)[2]?)))).names, y.2 = .free → ∃ c, ((zcj CX0 P w K mg base ["_law_one", "_law_other", "_law_tree", "_law_due"] "_law_refused" (zab zax) a.f_law_refused cdv A outer s H E).nox).env.cells.lookup y.1 = some c := by
  intro y hy hz
  have h := (by decide +kernel : ∀ y ∈ (zcq (zc0 (zpd (zle (zah zax)[2]?)))).names, y.2 = NameKind.free → y = (("_law_one" : Str), NameKind.free) ∨ y = (("_law_other" : Str), NameKind.free) ∨ y = (("_law_tree" : Str), NameKind.free))
  rcases h y hy hz with rfl | rfl | rfl
  ·exact ⟨_, rfl⟩
  ·exact ⟨_, rfl⟩
  ·exact ⟨_, rfl⟩
 have hcells : ((zcj CX0 P w K mg base ["_law_one", "_law_other", "_law_tree", "_law_due"] "_law_refused" (zab zax) a.f_law_refused cdv A outer s H E).nox).env.cells = [(("_law_tree" : Str), s.heap.objs.size + 3), (("_law_other" : Str), s.heap.objs.size + 2), (("_law_one" : Str), s.heap.objs.size + 1)] := rfl
 refine ⟨_, (zae (za9 (zat zml (zg3 (k := 25) hr.lv rfl T.g_law_heard T.K_law_heard.kp T.B_law_heard (fun _ => rfl) (zaa (zg8 LC LB rfl LF1) zac)) (pv 3) (zas _)) (zai (zam zlc)) zau)
   (zae (za9 (zat zml (zg3 (k := 25) hr.lv rfl T.g_law_heard T.K_law_heard.kp T.B_law_heard (fun _ => rfl) (zaa (zg8 LC LB rfl LF2) zac)) (pv 3) (zas _)) (zai (zam zlc)) zau)
   (zai (zam (zck zby (zg3 (k := 25) hr.lv rfl T.g_law_heard T.K_law_heard.kp T.B_law_heard (fun _ => rfl) (zaa (zg8 LC LB rfl LF3) zac)) (pv 3) (zas _)))))), ?_⟩
 refine ⟨AC.tabs _ tl0, fun p c' H1 np s1 hp hc base' ci _ _ kb => ?_⟩
 obtain ⟨cw1, u1, e1, r1, i1⟩ := ci 0 "_law_one" (.ref w1) rfl rfl rfl
 obtain ⟨cw2, u2, e2, r2, i2⟩ := ci 1 "_law_other" (.ref w2) rfl rfl rfl
 obtain ⟨cw3, u3, e3, r3, i3⟩ := ci 2 "_law_tree" v rfl rfl rfl
 obtain rfl : cw1 = s.heap.objs.size + 1 := (Option.some.inj (show some (s.heap.objs.size + 1) = some cw1 from e1)).symm
 obtain rfl : cw2 = s.heap.objs.size + 2 := (Option.some.inj (show some (s.heap.objs.size + 2) = some cw2 from e2)).symm
 obtain rfl : cw3 = s.heap.objs.size + 3 := (Option.some.inj (show some (s.heap.objs.size + 3) = some cw3 from e3)).symm
 have L := zj8 (P := P) (w := w) (K := K) (mg := mg) (base := base') (D := a.x_Unlike) (fr := ["_law_one", "_law_other"]) (fv := [.ref w1, .ref w2]) (k := 23) (r := r) (AskC ps w1 w2 m1 m2 t1 t2 v r) hp ⟨rfl, rfl, rfl, by decide +kernel, by decide +kernel, by decide +kernel, by decide +kernel⟩
   (fun x cc h => by
    have h' := za4 LF1 h
    rw [hcells] at h'
    rcases zdm h' with ⟨_, rfl⟩ | ⟨_, rfl⟩ | ⟨_, rfl⟩
    ·exact ⟨_, i3⟩
    ·exact ⟨_, i2⟩
    ·exact ⟨_, i1⟩)
   (fun x y cc h1 h2 => by
    have h1' := za4 LF1 h1
    have h2' := za4 LF1 h2
    rw [hcells] at h1' h2'
    rcases zdm h1' with ⟨rfl, z1⟩ | ⟨rfl, z1⟩ | ⟨rfl, z1⟩ <;> rcases zdm h2' with ⟨rfl, z2⟩ | ⟨rfl, z2⟩ | ⟨rfl, z2⟩ <;> first | rfl | exact absurd (Nat.add_left_cancel (z1.symm.trans z2)) (by decide))
   (fun y hy hz => by
    obtain ⟨c, hc⟩ := LF1 y hy hz
    exact ⟨c, zb9 LF1 (by rw [← hz]; exact hy) hc⟩)
   (fun i x v' h1 h2 => by
    cases i with
    | zero =>
     cases h1
     cases h2
     exact ⟨_, u1, zb9 LF1 (by decide +kernel) e1, r1, i1⟩
    | succ i =>
     cases i with
     | zero =>
      cases h1
      cases h2
      exact ⟨_, u2, zb9 LF1 (by decide +kernel) e2, r2, i2⟩
     | succ i => cases h1)
   rfl (fun _ _ _ => rfl)
   (fun q A outer s H Q E hr C0 qt qf => by
    cases hr0 : r with
    | true =>
     exact ⟨_, zag (zjc (P := P) (w := w) (base := base') T) (hr.mono (by decide)) rfl T.g_within T.K_within.kp T.B_within .nil zj4 (zaa (pv 0) (zaa (pv 1) zac)), ⟨_, rfl, _, rfl, w1, w2, m1, m2, t1, t2, rfl, C0.one, C0.other, C0.no hr0, qt hr0⟩⟩
    | false =>
     obtain ⟨me, tr, dt, gd, dp⟩ := C0.tree hr0
     have W2' : WoodT H w2 m1 t2 := by rw [me]; exact C0.other
     exact ⟨_, zag (zhd (P := P) (w := w) (base := base') T (LBc.keeps kb) (LBw.keeps kb)) (hr.mono (by decide)) rfl T.g_within T.K_within.kp T.B_within .nil zal (zaa (pv 0) (zaa (pv 1) zac)), ⟨_, rfl, _, rfl, C0.tabs _ tc0, C0.tabs _ tw0, w1, w2, m1, t1, t2, rfl, C0.one, W2', lo, hi, fun v' H' s' _ => qf hr0 v' H' s'⟩⟩)
 have G := zej (P := P) (w := w) (base := base') T L (.all fun us hl => match us, hl with | [], _ => rfl) zfl (fun H h => h.2.1)
 refine ⟨_, G, rfl, ⟨AC.same s1, hp, hc⟩, fun H2 s2 => ?_⟩
 refine ⟨_, rfl, rfl, _, rfl, ?_⟩
 refine zin rfl ?_
 clear G L
 have s12 := s1.trans s2
 refine ⟨(AC.same s12).tabs _ tl0, fun p c' H3 np s3 hp hc base' ci _ _ kb => ?_⟩
 clear i1 i2 i3 r1 r2 r3
 obtain ⟨cw1, u1, e1, r1, i1⟩ := ci 0 "_law_one" (.ref w1) rfl rfl rfl
 obtain ⟨cw2, u2, e2, r2, i2⟩ := ci 1 "_law_other" (.ref w2) rfl rfl rfl
 obtain ⟨cw3, u3, e3, r3, i3⟩ := ci 2 "_law_tree" v rfl rfl rfl
 obtain rfl : cw1 = s.heap.objs.size + 1 := (Option.some.inj (show some (s.heap.objs.size + 1) = some cw1 from e1)).symm
 obtain rfl : cw2 = s.heap.objs.size + 2 := (Option.some.inj (show some (s.heap.objs.size + 2) = some cw2 from e2)).symm
 obtain rfl : cw3 = s.heap.objs.size + 3 := (Option.some.inj (show some (s.heap.objs.size + 3) = some cw3 from e3)).symm
 have L := zj8 (P := P) (w := w) (K := K) (mg := mg) (base := base') (D := a.x_Unlike) (fr := ["_law_one", "_law_other"]) (fv := [.ref w1, .ref w2]) (k := 23) (r := r) (AskC ps w1 w2 m1 m2 t1 t2 v r) hp ⟨rfl, rfl, rfl, by decide +kernel, by decide +kernel, by decide +kernel, by decide +kernel⟩
   (fun x cc h => by
    have h' := za4 LF2 h
    rw [hcells] at h'
    rcases zdm h' with ⟨_, rfl⟩ | ⟨_, rfl⟩ | ⟨_, rfl⟩
    ·exact ⟨_, i3⟩
    ·exact ⟨_, i2⟩
    ·exact ⟨_, i1⟩)
   (fun x y cc h1 h2 => by
    have h1' := za4 LF2 h1
    have h2' := za4 LF2 h2
    rw [hcells] at h1' h2'
    rcases zdm h1' with ⟨rfl, z1⟩ | ⟨rfl, z1⟩ | ⟨rfl, z1⟩ <;> rcases zdm h2' with ⟨rfl, z2⟩ | ⟨rfl, z2⟩ | ⟨rfl, z2⟩ <;> first | rfl | exact absurd (Nat.add_left_cancel (z1.symm.trans z2)) (by decide))
   (fun y hy hz => by
    obtain ⟨c, hc⟩ := LF2 y hy hz
    exact ⟨c, zb9 LF2 (by rw [← hz]; exact hy) hc⟩)
   (fun i x v' h1 h2 => by
    cases i with
    | zero =>
     cases h1
     cases h2
     exact ⟨_, u1, zb9 LF2 (by decide +kernel) e1, r1, i1⟩
    | succ i =>
     cases i with
     | zero =>
      cases h1
      cases h2
      exact ⟨_, u2, zb9 LF2 (by decide +kernel) e2, r2, i2⟩
     | succ i => cases h1)
   rfl (fun _ _ _ => rfl)
   (fun q A outer s H Q E hr C0 qt qf => by
    cases hr0 : r with
    | true =>
     exact ⟨_, zag (zkd (P := P) (w := w) (base := base') T) (hr.mono (by decide)) rfl T.g_compared T.K_compared.kp T.B_compared .nil zj4 (zaa (pv 0) (zaa (pv 1) zac)), ⟨_, rfl, _, rfl, w1, w2, m1, m2, t1, t2, rfl, C0.one, C0.other, C0.no hr0, qt hr0⟩⟩
    | false =>
     obtain ⟨me, tr, dt, gd, dp⟩ := C0.tree hr0
     have W2' : WoodT H w2 m1 t2 := by rw [me]; exact C0.other
     exact ⟨_, zag (zly (P := P) (w := w) (base := base') T (LBc.keeps kb) (LBw.keeps kb)) (hr.mono (by decide)) rfl T.g_compared T.K_compared.kp T.B_compared .nil zal (zaa (pv 0) (zaa (pv 1) zac)), ⟨_, rfl, _, rfl, C0.tabs _ tc0, C0.tabs _ tw0, w1, w2, m1, t1, t2, rfl, C0.one, W2', lo, hi, fun v' H' s' _ => qf hr0 v' H' s'⟩⟩)
 have G := zej (P := P) (w := w) (base := base') T L (.all fun us hl => match us, hl with | [], _ => rfl) zfl (fun H h => h.2.1)
 have s13 := s12.trans s3
 refine ⟨_, G, rfl, ⟨AC.same s13, hp, hc⟩, fun H4 s4 => ?_⟩
 refine ⟨_, rfl, rfl, _, rfl, ?_⟩
 refine zin rfl ?_
 clear G L
 have s14 := s13.trans s4
 refine ⟨(AC.same s14).tabs _ tl0, fun p c' H5 np s5 hp hc base' ci _ _ kb => ?_⟩
 clear i1 i2 i3 r1 r2 r3
 obtain ⟨cw1, u1, e1, r1, i1⟩ := ci 0 "_law_one" (.ref w1) rfl rfl rfl
 obtain ⟨cw2, u2, e2, r2, i2⟩ := ci 1 "_law_other" (.ref w2) rfl rfl rfl
 obtain ⟨cw3, u3, e3, r3, i3⟩ := ci 2 "_law_tree" v rfl rfl rfl
 obtain rfl : cw1 = s.heap.objs.size + 1 := (Option.some.inj (show some (s.heap.objs.size + 1) = some cw1 from e1)).symm
 obtain rfl : cw2 = s.heap.objs.size + 2 := (Option.some.inj (show some (s.heap.objs.size + 2) = some cw2 from e2)).symm
 obtain rfl : cw3 = s.heap.objs.size + 3 := (Option.some.inj (show some (s.heap.objs.size + 3) = some cw3 from e3)).symm
 have L := zj8 (P := P) (w := w) (K := K) (mg := mg) (base := base') (D := a.x_Unlike) (fr := ["_law_one", "_law_other", "_law_tree"]) (fv := [.ref w1, .ref w2, v]) (k := 23) (r := r) (AskC ps w1 w2 m1 m2 t1 t2 v r) hp ⟨rfl, rfl, rfl, by decide +kernel, by decide +kernel, by decide +kernel, by decide +kernel⟩
   (fun x cc h => by
    have h' := za4 LF3 h
    rw [hcells] at h'
    rcases zdm h' with ⟨_, rfl⟩ | ⟨_, rfl⟩ | ⟨_, rfl⟩
    ·exact ⟨_, i3⟩
    ·exact ⟨_, i2⟩
    ·exact ⟨_, i1⟩)
   (fun x y cc h1 h2 => by
    have h1' := za4 LF3 h1
    have h2' := za4 LF3 h2
    rw [hcells] at h1' h2'
    rcases zdm h1' with ⟨rfl, z1⟩ | ⟨rfl, z1⟩ | ⟨rfl, z1⟩ <;> rcases zdm h2' with ⟨rfl, z2⟩ | ⟨rfl, z2⟩ | ⟨rfl, z2⟩ <;> first | rfl | exact absurd (Nat.add_left_cancel (z1.symm.trans z2)) (by decide))
   (fun y hy hz => by
    obtain ⟨c, hc⟩ := LF3 y hy hz
    exact ⟨c, zb9 LF3 (by rw [← hz]; exact hy) hc⟩)
   (fun i x v' h1 h2 => by
    cases i with
    | zero =>
     cases h1
     cases h2
     exact ⟨_, u1, zb9 LF3 (by decide +kernel) e1, r1, i1⟩
    | succ i =>
     cases i with
     | zero =>
      cases h1
      cases h2
      exact ⟨_, u2, zb9 LF3 (by decide +kernel) e2, r2, i2⟩
     | succ i =>
      cases i with
      | zero =>
       cases h1
       cases h2
       exact ⟨_, u3, zb9 LF3 (by decide +kernel) e3, r3, i3⟩
      | succ i => cases h1)
   rfl (fun _ _ _ => rfl)
   (fun q A outer s H Q E hr C0 qt qf => by
    cases hr0 : r with
    | true =>
     exact ⟨_, zag (zg5 (P := P) (w := w) (base := base') T) (hr.mono (by decide)) rfl T.g_shows_within T.K_shows_within.kp T.B_shows_within .nil zj4 (zaa (pv 0) (zaa (pv 1) (zaa (pv 2) zac))), ⟨_, rfl, _, rfl, _, rfl, w1, w2, m1, m2, t1, t2, v, rfl, C0.one, C0.other, C0.no hr0, qt hr0⟩⟩
    | false =>
     obtain ⟨me, tr, dt, gd, dp⟩ := C0.tree hr0
     have W2' : WoodT H w2 m1 t2 := by rw [me]; exact C0.other
     exact ⟨_, zag (zhu (P := P) (w := w) (base := base') T (LBs.keeps kb)) (hr.mono (by decide)) rfl T.g_shows_within T.K_shows_within.kp T.B_shows_within .nil zal (zaa (pv 0) (zaa (pv 1) (zaa (pv 2) zac))), ⟨_, rfl, _, rfl, _, rfl, C0.tabs _ ts0, w1, w2, m1, t1, t2, tr, v, rfl, C0.one, W2', dt, gd, dp, fun H' s' => qf hr0 _ H' s'⟩⟩)
 have G := zej (P := P) (w := w) (base := base') T L (.all fun us hl => match us, hl with | [], _ => rfl) zfl (fun H h => h.2.1)
 have s15 := s14.trans s5
 refine ⟨_, G, rfl, ⟨AC.same s15, hp, hc⟩, fun H6 s6 => ?_⟩
 refine ⟨_, rfl, rfl, ?_⟩
 rw [decide_eq_true rfl]
 exact q _ (s15.trans s6)
end
section
variable {P : Program} {w : World} {K : PySem.W.Frag} {mg : Str → Option Value} {base : Heap} {a : Adr} {d : Fds}
theorem FnOk.ex {ι : Type} {k : Nat} {f : Addr} {fd : FuncData} {ps : List Str} {sp : ι → Sp} (F : ∀ i, FnOk P w K mg base CX0 k f fd ps (sp i)) : FnOk P w K mg base CX0 k f fd ps (fun vs H Q E => ∃ i, sp i vs H Q E) :=
 ⟨fun vs H Q E ⟨i, h⟩ => (F i).len vs H Q E h, fun A outer s H args us vs Q E hr e0 hb r ⟨i, h⟩ => (F i).run A outer s H args us vs Q E hr e0 hb r h⟩
theorem ztj (T : Txt K mg a d) (LBc : LamB mg base a.c_cases_of a.t_cases_of) (LBw : LamB mg base a.c_within a.t_within) (LBs : LamB mg base a.c_shows_within a.t_shows_within) (LB : LamB mg base a.c_law_refused a.t_law_refused) : FnOk P w K mg base CX0 27 a.f_law d.f_law ["_law_script"] (spT a.t_cases_of (spT a.t_within (spT a.t_shows_within (spT a.t_law_refused (zob K))))) := by
 have G_law_take := zdg (P := P) (w := w) (base := base) T
 have G_law_many := zmg (P := P) (w := w) (base := base) T
 have G_law_wood := zhq (P := P) (w := w) (base := base) T
 have G_law_near := zlz (P := P) (w := w) (base := base) T
 have G_within := zhd (P := P) (w := w) (base := base) T LBc LBw
 have G_law_refused := FnOk.ex fun r => zio (P := P) (w := w) (base := base) T LBc LBw LBs LB r
 refine T.K_law.ok sc_law (fun vs H Q E h => ?_) (fun cdv A outer s H vs Q E hr h => ?_)
 ·obtain ⟨_, _, _, _, p, ns, rfl, _⟩ := h
  rfl
 obtain ⟨ta, tb, tc, td, sp, ns, rfl, hS, hl, q⟩ := h
 refine ⟨_, (zae (za1 (i := 1) sc_law.nd rfl (Or.inl rfl) (zct (zaa (pv 0) (zaa zad zac))))
   (zae (za1 (i := 2) sc_law.nd rfl (Or.inl rfl) (zag G_law_many hr.lv rfl T.g_law_many T.K_law_many.kp T.B_law_many .nil zal (zaa (pv 1) zac)))
   (zae (za1 (i := 3) sc_law.nd rfl (Or.inl rfl) (zag G_law_wood hr.lv rfl T.g_law_wood T.K_law_wood.kp T.B_law_wood .nil zal (zaa (pv 1) (zaa (pv 2) (zaa zad zac)))))
   (zae (za1 (i := 4) sc_law.nd rfl (Or.inl rfl) (za2 zci zad (za2 zes (za2 zci (pv 2) (zag G_law_take hr.lv rfl T.g_law_take T.K_law_take.kp T.B_law_take .nil zal (zaa (pv 1) (zaa zad zac)))) zad)))
   (zae (za1 (i := 5) sc_law.nd rfl (Or.inl rfl) (zag G_law_wood hr.lv rfl T.g_law_wood T.K_law_wood.kp T.B_law_wood .nil zal (zaa (pv 1) (zaa (pv 4) (zaa zad zac)))))
   (zae (za1 (i := 6) sc_law.nd rfl (Or.inl rfl) (zag G_law_near hr.lv rfl T.g_law_near T.K_law_near.kp T.B_law_near .nil zal (zaa (pv 1) (zaa (pv 3) zac))))
   (zae (zg7 PassesOwn.never rfl (piL (K := K) (zct (zaa (zbb (zaa za0 zac)) (zaa (zap (ixT (K := K)) (zag G_within hr.lv rfl T.g_within T.K_within.kp T.B_within .nil zal (zaa (pv 3) (zaa (pv 3) zac))) zad (fun _ _ => rfl)) (zaa (zap (ixT (K := K)) (zag G_within hr.lv rfl T.g_within T.K_within.kp T.B_within .nil zal (zaa (pv 5) (zaa (pv 5) zac))) zad (fun _ _ => rfl)) zac))))) (za6 (i := 7) sc_law.nd rfl (Or.inl rfl)) (zai (za9 (PW.pt (zhp (zem (zb8 (zag G_law_refused hr.lv rfl T.g_law_refused T.K_law_refused.kp T.B_law_refused .nil zal (zaa (pv 3) (zaa (pv 5) (zaa (pv 7) (zaa za0 zac))))))) (zha (zem (zb8 (zag G_law_refused hr.lv rfl T.g_law_refused T.K_law_refused.kp T.B_law_refused .nil zal (zaa (pv 5) (zaa (pv 3) (zaa (pv 7) (zaa za0 zac)))))))))) (zai (zam zlc)) zau)))
   (zai (zam (zc7 (zag G_law_refused hr.lv rfl T.g_law_refused T.K_law_refused.kp T.B_law_refused .nil zal (zaa (pv 3) (zaa (pv 6) (zaa (zbb (zaa za0 zac)) (zaa za0 zac))))) (zcr (zag G_law_refused hr.lv rfl T.g_law_refused T.K_law_refused.kp T.B_law_refused .nil zal (zaa (pv 6) (zaa (pv 3) (zaa (zbb (zaa za0 (zaa zad zac))) (zaa za0 zac)))))))))))))))), ?_⟩
 refine ⟨_, rfl, small (by show 2 ≤ 1000; decide), fun pen hpen => ?_⟩
 have pn := zrz hS hl hpen
 have s1 := zak hpen (.lst [.ref sp, .int 0])
 have ta1 := s1.tab ta
 have tb1 := s1.tab tb
 have tc1 := s1.tab tc
 have td1 := s1.tab td
 generalize hH1 : L2.upd H pen (.lst [.ref sp, .int 0]) = H1 at pn s1 ta1 tb1 tc1 td1 ⊢
 refine ⟨_, rfl, pen, sp, ns, 0, rfl, pn, by decide, by decide, fun m k2 H2 x2 hp2 k20 k21 m1 m9 => ?_⟩
 refine ⟨_, rfl, _, rfl, pen, sp, ns, m, 4, k2, rfl, pn.to x2 hp2, by omega, by omega, m1, m9, by decide, by decide, fun w1 b1 c1 k3 H3 x3 hp3 k30 k31 W3 lc3 => ?_⟩
 refine ⟨_, rfl, _, rfl, pen, sp, ns, 8, k3, rfl, pn.to (x2.trans x3) hp3, by omega, by omega, by decide, fun c c0 c8 => ?_⟩
 have x4 := za3 (pen := pen) (H := H3) (.lst [.ref sp, .int (k3 + 1)])
 have hp4 : L2.upd H3 pen (.lst [.ref sp, .int (k3 + 1)]) pen = some (.lst [.ref sp, .int (k3 + 1)]) := zaf
 generalize L2.upd H3 pen (.lst [.ref sp, .int (k3 + 1)]) = H4 at x4 hp4 ⊢
 obtain ⟨n, en⟩ : ∃ n : Nat, 1 + ((m : Int) + c) % 9 = (n : Int) := ⟨(1 + ((m : Int) + c) % 9).toNat, by omega⟩
 have n1 : 1 ≤ n := by omega
 have n9 : n ≤ 9 := by omega
 have mn : m ≠ n := by omega
 refine ⟨_, _, rfl, rfl, _, _, rfl, rfl, (by show (0 : Int) < 9; decide), _, _, rfl, rfl, ?_⟩
 have x24 := (x2.trans x3).trans x4
 refine ⟨_, rfl, _, rfl, pen, sp, ns, n, 4, k3 + 1, by rw [← en]; rfl, pn.to x24 hp4, by omega, by omega, n1, n9, by decide, by decide, fun w2 b2 c2 k5 H5 x5 hp5 k50 k51 W5 lc5 => ?_⟩
 have x25 := x24.trans x5
 have W3a := W3.tupS (SameX.tup hp3 (x4.trans x5))
 refine ⟨_, rfl, _, rfl, pen, sp, ns, w1, m, b1, c1, k5, rfl, pn.to x25 hp5, by omega, by omega, W3a, by omega, fun w3 b3 c3 k6 H6 x6 hp6 k60 k61 W6 lc6 => ?_⟩
 have x26 := x25.trans x6
 have W1 := W3a.tupS (SameX.tup hp5 x6)
 have W2 := W5.tupS (SameX.tup hp5 x6)
 have ta6 := x26.tab pn.at_ ta1
 have tb6 := x26.tab pn.at_ tb1
 have tc6 := x26.tab pn.at_ tc1
 have td6 := x26.tab pn.at_ td1
 have tabs : ∀ H', Same H6 H' → ∀ P ∈ [a.t_cases_of, a.t_within, a.t_shows_within, a.t_law_refused], zdk H' P := fun H' s P hP => by
  simp only [List.mem_cons, List.not_mem_nil, or_false] at hP
  rcases hP with rfl | rfl | rfl | rfl
  ·exact s.tab ta6
  ·exact s.tab tb6
  ·exact s.tab tc6
  ·exact s.tab td6
 obtain ⟨t1, e1, ok1, tl1, WT1⟩ := W1.ties
 obtain ⟨t2, e2, ok2, tl2, WT2⟩ := W2.ties
 obtain ⟨t3, e3, ok3, tl3, WT3⟩ := W6.ties
 have A1 := WT1 H6 (fun _ _ h => h)
 have A2 := WT2 H6 (fun _ _ h => h)
 have A3 := WT3 H6 (fun _ _ h => h)
 clear WT1 WT2 WT3
 refine ⟨small (by show 1 ≤ 1000; decide), fun tk htk => ?_⟩
 have s7 := zak htk (.tup [.str ("kept" : Str)])
 refine ⟨_, rfl, _, rfl, s7.tab ta6, s7.tab tb6, w1, w1, m, t1, t1, rfl, A1.same s7, A1.same s7, m1, m9, fun v8 H8 s8 d8 => ?_⟩
 have s78 := s7.trans s8
 unfold zen at d8
 rw [zhk m t1] at d8
 obtain ⟨p8, xs8, rfl, hp8, x8, r8, rfl, hx8, y8, r8', rfl, hy8, _⟩ := zcu d8
 refine ⟨p8, _, _, _, rfl, rfl, sqT hp8, at1, ?_⟩
 refine ⟨_, rfl, _, rfl, s78.tab ta6, s78.tab tb6, w2, w2, n, t2, t2, rfl, A2.same s78, A2.same s78, n1, n9, fun v9 H9 s9 d9 => ?_⟩
 have s79 := s78.trans s9
 unfold zen at d9
 rw [zhk n t2] at d9
 obtain ⟨p9, xs9, rfl, hp9, x9, r9, rfl, hx9, y9, r9', rfl, hy9, _⟩ := zcu d9
 refine ⟨p9, _, _, _, rfl, rfl, sqT hp9, at1, ?_⟩
 refine ⟨small (by show 3 ≤ 1000; decide), fun ll hll => ?_⟩
 have sA := s79.trans (zak hll (.lst [.ref tk, y8, y9]))
 have hA : L2.upd H9 ll (.lst [.ref tk, y8, y9]) ll = some (.lst [.ref tk, y8, y9]) := zaf
 generalize L2.upd H9 ll (.lst [.ref tk, y8, y9]) = HA at sA hA ⊢
 refine ⟨ll, rfl, ⟨_, SqL.of hA⟩, ?_⟩
 refine zgs (K := K) (a := ll) (xs := [.ref tk, y8, y9]) (fun i σ HB => (∃ v4 v7 : Option V, σ = [some (.ref sp), some (.ref pen), some (.int (m : Int)), some (.ref w1), v4, some (.ref w2), some (.ref w3), v7]) ∧ Same HA HB) ⟨⟨_, _, rfl⟩, Same.refl _⟩ (fun i σ HB _ z => SqL.of (z.2 _ _ hA)) ?_ ?_
 ·rintro i x σ HB hx ⟨⟨v4, v7, rfl⟩, sB⟩
  have sAB := sA.trans sB
  refine ⟨_, rfl, _, rfl, _, rfl, true, w1, w2, m, n, t1, t2, x, rfl, ⟨tabs _ sAB, A1.same sAB, A2.same sAB, (fun z => nomatch z), fun _ => mn⟩, m1, m9, fun HC sC => ?_⟩
  refine ⟨_, rfl, ?_⟩
  refine zee ?_
  have sAC := sAB.trans sC
  refine ⟨_, rfl, _, rfl, _, rfl, true, w2, w1, n, m, t2, t1, x, rfl, ⟨tabs _ sAC, A2.same sAC, A1.same sAC, (fun z => nomatch z), fun _ => Ne.symm mn⟩, n1, n9, fun HD sD => ?_⟩
  refine ⟨_, rfl, ?_⟩
  refine zee ?_
  exact ⟨⟨_, _, rfl⟩, sB.trans (sC.trans sD)⟩
 ·rintro σ HB ⟨⟨v4, v7, rfl⟩, sB⟩
  have sAB := sA.trans sB
  refine ⟨_, rfl, _, rfl, small (by show 1 ≤ 1000; decide), fun tq htq => ?_⟩
  have sC := sAB.trans (zak htq (.tup [.str ("kept" : Str)]))
  have hq : L2.upd HB tq (.tup [.str ("kept" : Str)]) tq = some (.tup [.str ("kept" : Str)]) := zaf
  generalize L2.upd HB tq (.tup [.str ("kept" : Str)]) = HC at sC hq ⊢
  refine ⟨false, w1, w3, m, m, t1, t3, .ref tq, rfl, ⟨tabs _ sC, A1.same sC, A3.same sC, fun _ => ⟨rfl, .leaf ("kept" : Str), ⟨tq, _, rfl, hq, _, _, rfl, rfl, rfl⟩, ⟨by decide, by decide⟩, by decide⟩, (fun z => nomatch z)⟩, m1, m9, fun HD sD => ?_⟩
  refine ⟨_, rfl, ?_⟩
  refine zoo ?_
  have sCD := sC.trans sD
  refine ⟨_, rfl, _, rfl, small (by show 2 ≤ 1000; decide), fun tq2 htq2 => ?_⟩
  have sE := sCD.trans (zak htq2 (.tup [.str ("broken" : Str), .int 0]))
  have hq2 : L2.upd HD tq2 (.tup [.str ("broken" : Str), .int 0]) tq2 = some (.tup [.str ("broken" : Str), .int 0]) := zaf
  generalize L2.upd HD tq2 (.tup [.str ("broken" : Str), .int 0]) = HE at sE hq2 ⊢
  refine ⟨false, w3, w1, m, m, t3, t1, .ref tq2, rfl, ⟨tabs _ sE, A3.same sE, A1.same sE, fun _ => ⟨rfl, .broken 0, ⟨tq2, _, rfl, hq2, _, _, rfl, rfl, _, _, rfl, rfl, rfl⟩, trivial, by decide⟩, (fun z => nomatch z)⟩, m1, m9, fun HF sF => ?_⟩
  exact q _
end
@[elab_as_elim] theorem zov {α : Type} {R : List α → Prop} : ∀ us : List α, us.length = 1 → (∀ x0, R [x0]) → R us | [x0], _, h => h x0
@[elab_as_elim] theorem len2 {α : Type} {R : List α → Prop} : ∀ us : List α, us.length = 2 → (∀ x0 x1, R [x0, x1]) → R us | [x0, x1], _, h => h x0 x1
@[elab_as_elim] theorem len3 {α : Type} {R : List α → Prop} : ∀ us : List α, us.length = 3 → (∀ x0 x1 x2, R [x0, x1, x2]) → R us | [x0, x1, x2], _, h => h x0 x1 x2
@[elab_as_elim] theorem zqx {α : Type} {R : List α → Prop} : ∀ us : List α, us.length = 4 → (∀ x0 x1 x2 x3, R [x0, x1, x2, x3]) → R us | [x0, x1, x2, x3], _, h => h x0 x1 x2 x3
@[elab_as_elim] theorem ztu {α : Type} {R : List α → Prop} : ∀ us : List α, us.length = 5 → (∀ x0 x1 x2 x3 x4, R [x0, x1, x2, x3, x4]) → R us | [x0, x1, x2, x3, x4], _, h => h x0 x1 x2 x3 x4
theorem all_mk {l : PySem.W.OpenLaw} {w : World} {K : PySem.W.Frag} {h : Heap} {mg : Str → Option Value} {fa f1 f2 f3 f4 f5 f6 f7 f8 f9 f10 f11 f12 f13 f14 f15 f16 f17 f18 f19 f20 f21 f22 f23 f24 f25 f26 f27 f28 f29 f30 f31 f32 f33 f34 f35 f36 f37 f38 f39 f40 f41 f42 cc21 tt21 cc28 tt28 cc29 tt29 cc41 tt41 y_WoodError y_NoWood y_NoCount y_NoWares y_NoOffer y_Unlike y_NoText y_NoRow y_NoName : Addr} (X : K.In h) (G : h.Ns mainGlobals mg) (hfa : mg "law" = some (.ref fa))
  {od1 an1 od2 an2 od3 an3 od4 an4 od5 an5 od6 an6 od7 an7 od8 an8 od9 an9 od10 an10 od11 an11 od12 an12 od13 an13 od14 an14 od15 an15 od16 an16 od17 an17 od18 an18 od19 an19 od20 an20 od21 an21 od22 an22 od23 an23 od24 an24 od25 an25 od26 an26 od27 an27 od28 an28 od29 an29 od30 an30 od31 an31 od32 an32 od33 an33 od34 an34 od35 an35 od36 an36 od37 an37 od38 an38 od39 an39 od40 an40 od41 an41 od42 an42 : Option Addr} {sl1 sl2 sl3 sl4 sl5 sl6 sl7 sl8 sl9 sl10 sl11 sl12 sl13 sl14 sl15 sl16 sl17 sl18 sl19 sl20 sl21 sl22 sl23 sl24 sl25 sl26 sl27 sl28 sl29 sl30 sl31 sl32 sl33 sl34 sl35 sl36 sl37 sl38 sl39 sl40 sl41 sl42 : Array (Option Value)} {kV1 dc1 pm1 ct1 oc1 cd1 kV2 dc2 pm2 ct2 oc2 cd2 kV3 dc3 pm3 ct3 oc3 cd3 kV4 dc4 pm4 ct4 oc4 cd4 kV5 dc5 pm5 ct5 oc5 cd5 kV6 dc6 pm6 ct6 oc6 cd6 kV7 dc7 pm7 ct7 oc7 cd7 kV8 dc8 pm8 ct8 oc8 cd8 kV9 dc9 pm9 ct9 oc9 cd9 kV10 dc10 pm10 ct10 oc10 cd10 kV11 dc11 pm11 ct11 oc11 cd11 kV12 dc12 pm12 ct12 oc12 cd12 kV13 dc13 pm13 ct13 oc13 cd13 kV14 dc14 pm14 ct14 oc14 cd14 kV15 dc15 pm15 ct15 oc15 cd15 kV16 dc16 pm16 ct16 oc16 cd16 kV17 dc17 pm17 ct17 oc17 cd17 kV18 dc18 pm18 ct18 oc18 cd18 kV19 dc19 pm19 ct19 oc19 cd19 kV20 dc20 pm20 ct20 oc20 cd20 kV21 dc21 pm21 ct21 oc21 kV22 dc22 pm22 ct22 oc22 cd22 kV23 dc23 pm23 ct23 oc23 cd23 kV24 dc24 pm24 ct24 oc24 cd24 kV25 dc25 pm25 ct25 oc25 cd25 kV26 dc26 pm26 ct26 oc26 cd26 kV27 dc27 pm27 ct27 oc27 cd27 kV28 dc28 pm28 ct28 oc28 kV29 dc29 pm29 ct29 oc29 kV30 dc30 pm30 ct30 oc30 cd30 kV31 dc31 pm31 ct31 oc31 cd31 kV32 dc32 pm32 ct32 oc32 cd32 kV33 dc33 pm33 ct33 oc33 cd33 kV34 dc34 pm34 ct34 oc34 cd34 kV35 dc35 pm35 ct35 oc35 cd35 kV36 dc36 pm36 ct36 oc36 cd36 kV37 dc37 pm37 ct37 oc37 cd37 kV38 dc38 pm38 ct38 oc38 cd38 kV39 dc39 pm39 ct39 oc39 cd39 kV40 dc40 pm40 ct40 oc40 cd40 kV41 dc41 pm41 ct41 oc41 kV42 dc42 pm42 ct42 oc42 cd42 : Value}
  {coc21 : Value} {cod21 : Option Addr} {cvs21 : Array Value} {csl21 : Array (Option Value)}
  {coc28 : Value} {cod28 : Option Addr} {cvs28 : Array Value} {csl28 : Array (Option Value)}
  {coc29 : Value} {cod29 : Option Addr} {cvs29 : Array Value} {csl29 : Array (Option Value)}
  {coc41 : Value} {cod41 : Option Addr} {cvs41 : Array Value} {csl41 : Array (Option Value)}
  (a1 : PySem.W.nsIn K mainGlobals "has" = some (some (.ref f1))) (l1 : K.lookup f1 = some ⟨oc1, od1, .func (PySem.W.fnOf "has" "has" (zaj zgw) (zah zgw) (zab zgw) .none kV1 dc1 pm1 an1 cd1 ct1), sl1⟩) (c1 : PySem.W.codeIn K cd1 "has" = true) (k1 : PySem.W.keepIn K (.ref f1) = true)
  (a2 : PySem.W.nsIn K mainGlobals "with_option" = some (some (.ref f2))) (l2 : K.lookup f2 = some ⟨oc2, od2, .func (PySem.W.fnOf "with_option" "with_option" (zaj zbv) (zah zbv) (zab zbv) .none kV2 dc2 pm2 an2 cd2 ct2), sl2⟩) (c2 : PySem.W.codeIn K cd2 "with_option" = true) (k2 : PySem.W.keepIn K (.ref f2) = true)
  (a3 : PySem.W.nsIn K mainGlobals "open_options" = some (some (.ref f3))) (l3 : K.lookup f3 = some ⟨oc3, od3, .func (PySem.W.fnOf "open_options" "open_options" (zaj zbh) (zah zbh) (zab zbh) .none kV3 dc3 pm3 an3 cd3 ct3), sl3⟩) (c3 : PySem.W.codeIn K cd3 "open_options" = true) (k3 : PySem.W.keepIn K (.ref f3) = true)
  (a4 : PySem.W.nsIn K mainGlobals "many_ties" = some (some (.ref f4))) (l4 : K.lookup f4 = some ⟨oc4, od4, .func (PySem.W.fnOf "many_ties" "many_ties" (zaj zcb) (zah zcb) (zab zcb) .none kV4 dc4 pm4 an4 cd4 ct4), sl4⟩) (c4 : PySem.W.codeIn K cd4 "many_ties" = true) (k4 : PySem.W.keepIn K (.ref f4) = true)
  (a5 : PySem.W.nsIn K mainGlobals "tie_at" = some (some (.ref f5))) (l5 : K.lookup f5 = some ⟨oc5, od5, .func (PySem.W.fnOf "tie_at" "tie_at" (zaj zc5) (zah zc5) (zab zc5) .none kV5 dc5 pm5 an5 cd5 ct5), sl5⟩) (c5 : PySem.W.codeIn K cd5 "tie_at" = true) (k5 : PySem.W.keepIn K (.ref f5) = true)
  (a6 : PySem.W.nsIn K mainGlobals "keeps" = some (some (.ref f6))) (l6 : K.lookup f6 = some ⟨oc6, od6, .func (PySem.W.fnOf "keeps" "keeps" (zaj zc9) (zah zc9) (zab zc9) .none kV6 dc6 pm6 an6 cd6 ct6), sl6⟩) (c6 : PySem.W.codeIn K cd6 "keeps" = true) (k6 : PySem.W.keepIn K (.ref f6) = true)
  (a7 : PySem.W.nsIn K mainGlobals "keeps_bough" = some (some (.ref f7))) (l7 : K.lookup f7 = some ⟨oc7, od7, .func (PySem.W.fnOf "keeps_bough" "keeps_bough" (zaj zbw) (zah zbw) (zab zbw) .none kV7 dc7 pm7 an7 cd7 ct7), sl7⟩) (c7 : PySem.W.codeIn K cd7 "keeps_bough" = true) (k7 : PySem.W.keepIn K (.ref f7) = true)
  (a8 : PySem.W.nsIn K mainGlobals "count_in" = some (some (.ref f8))) (l8 : K.lookup f8 = some ⟨oc8, od8, .func (PySem.W.fnOf "count_in" "count_in" (zaj zch) (zah zch) (zab zch) .none kV8 dc8 pm8 an8 cd8 ct8), sl8⟩) (c8 : PySem.W.codeIn K cd8 "count_in" = true) (k8 : PySem.W.keepIn K (.ref f8) = true)
  (a9 : PySem.W.nsIn K mainGlobals "every_tie" = some (some (.ref f9))) (l9 : K.lookup f9 = some ⟨oc9, od9, .func (PySem.W.fnOf "every_tie" "every_tie" (zaj zce) (zah zce) (zab zce) .none kV9 dc9 pm9 an9 cd9 ct9), sl9⟩) (c9 : PySem.W.codeIn K cd9 "every_tie" = true) (k9 : PySem.W.keepIn K (.ref f9) = true)
  (a10 : PySem.W.nsIn K mainGlobals "first_broken" = some (some (.ref f10))) (l10 : K.lookup f10 = some ⟨oc10, od10, .func (PySem.W.fnOf "first_broken" "first_broken" (zaj zbo) (zah zbo) (zab zbo) .none kV10 dc10 pm10 an10 cd10 ct10), sl10⟩) (c10 : PySem.W.codeIn K cd10 "first_broken" = true) (k10 : PySem.W.keepIn K (.ref f10) = true)
  (a11 : PySem.W.nsIn K mainGlobals "is_ware" = some (some (.ref f11))) (l11 : K.lookup f11 = some ⟨oc11, od11, .func (PySem.W.fnOf "is_ware" "is_ware" (zaj zcx) (zah zcx) (zab zcx) .none kV11 dc11 pm11 an11 cd11 ct11), sl11⟩) (c11 : PySem.W.codeIn K cd11 "is_ware" = true) (k11 : PySem.W.keepIn K (.ref f11) = true)
  (a12 : PySem.W.nsIn K mainGlobals "sure_broken" = some (some (.ref f12))) (l12 : K.lookup f12 = some ⟨oc12, od12, .func (PySem.W.fnOf "sure_broken" "sure_broken" (zaj zbu) (zah zbu) (zab zbu) .none kV12 dc12 pm12 an12 cd12 ct12), sl12⟩) (c12 : PySem.W.codeIn K cd12 "sure_broken" = true) (k12 : PySem.W.keepIn K (.ref f12) = true)
  (a13 : PySem.W.nsIn K mainGlobals "sure_kept" = some (some (.ref f13))) (l13 : K.lookup f13 = some ⟨oc13, od13, .func (PySem.W.fnOf "sure_kept" "sure_kept" (zaj zcf) (zah zcf) (zab zcf) .none kV13 dc13 pm13 an13 cd13 ct13), sl13⟩) (c13 : PySem.W.codeIn K cd13 "sure_kept" = true) (k13 : PySem.W.keepIn K (.ref f13) = true)
  (a14 : PySem.W.nsIn K mainGlobals "least_sum" = some (some (.ref f14))) (l14 : K.lookup f14 = some ⟨oc14, od14, .func (PySem.W.fnOf "least_sum" "least_sum" (zaj zb3) (zah zb3) (zab zb3) .none kV14 dc14 pm14 an14 cd14 ct14), sl14⟩) (c14 : PySem.W.codeIn K cd14 "least_sum" = true) (k14 : PySem.W.keepIn K (.ref f14) = true)
  (a15 : PySem.W.nsIn K mainGlobals "greatest_sum" = some (some (.ref f15))) (l15 : K.lookup f15 = some ⟨oc15, od15, .func (PySem.W.fnOf "greatest_sum" "greatest_sum" (zaj zbj) (zah zbj) (zab zbj) .none kV15 dc15 pm15 an15 cd15 ct15), sl15⟩) (c15 : PySem.W.codeIn K cd15 "greatest_sum" = true) (k15 : PySem.W.keepIn K (.ref f15) = true)
  (a16 : PySem.W.nsIn K mainGlobals "sure_broken_bough" = some (some (.ref f16))) (l16 : K.lookup f16 = some ⟨oc16, od16, .func (PySem.W.fnOf "sure_broken_bough" "sure_broken_bough" (zaj zar) (zah zar) (zab zar) .none kV16 dc16 pm16 an16 cd16 ct16), sl16⟩) (c16 : PySem.W.codeIn K cd16 "sure_broken_bough" = true) (k16 : PySem.W.keepIn K (.ref f16) = true)
  (a17 : PySem.W.nsIn K mainGlobals "sure_kept_bough" = some (some (.ref f17))) (l17 : K.lookup f17 = some ⟨oc17, od17, .func (PySem.W.fnOf "sure_kept_bough" "sure_kept_bough" (zaj zaw) (zah zaw) (zab zaw) .none kV17 dc17 pm17 an17 cd17 ct17), sl17⟩) (c17 : PySem.W.codeIn K cd17 "sure_kept_bough" = true) (k17 : PySem.W.keepIn K (.ref f17) = true)
  (a18 : PySem.W.nsIn K mainGlobals "first_sure_broken" = some (some (.ref f18))) (l18 : K.lookup f18 = some ⟨oc18, od18, .func (PySem.W.fnOf "first_sure_broken" "first_sure_broken" (zaj za7) (zah za7) (zab za7) .none kV18 dc18 pm18 an18 cd18 ct18), sl18⟩) (c18 : PySem.W.codeIn K cd18 "first_sure_broken" = true) (k18 : PySem.W.keepIn K (.ref f18) = true)
  (a19 : PySem.W.nsIn K mainGlobals "all_sure_kept" = some (some (.ref f19))) (l19 : K.lookup f19 = some ⟨oc19, od19, .func (PySem.W.fnOf "all_sure_kept" "all_sure_kept" (zaj zbf) (zah zbf) (zab zbf) .none kV19 dc19 pm19 an19 cd19 ct19), sl19⟩) (c19 : PySem.W.codeIn K cd19 "all_sure_kept" = true) (k19 : PySem.W.keepIn K (.ref f19) = true)
  (a20 : PySem.W.nsIn K mainGlobals "cases" = some (some (.ref f20))) (l20 : K.lookup f20 = some ⟨oc20, od20, .func (PySem.W.fnOf "cases" "cases" (zaj zdn) (zah zdn) (zab zdn) .none kV20 dc20 pm20 an20 cd20 ct20), sl20⟩) (c20 : PySem.W.codeIn K cd20 "cases" = true) (k20 : PySem.W.keepIn K (.ref f20) = true)
  (a21 : PySem.W.nsIn K mainGlobals "cases_of" = some (some (.ref f21))) (l21 : K.lookup f21 = some ⟨oc21, od21, .func (PySem.W.fnOf "cases_of" "cases_of" (zaj zbn) (zah zbn) (zab zbn) .none kV21 dc21 pm21 an21 (.ref cc21) ct21), sl21⟩) (c21 : PySem.W.codeIn K (.ref cc21) "cases_of" = true) (k21 : PySem.W.keepIn K (.ref f21) = true)
  (m21 : K.lookup cc21 = some ⟨coc21, cod21, .fields cvs21, csl21⟩) (n21 : (cvs21[11]? : Option Value) = some (.ref tt21))
  (a22 : PySem.W.nsIn K mainGlobals "ware_leaf" = some (some (.ref f22))) (l22 : K.lookup f22 = some ⟨oc22, od22, .func (PySem.W.fnOf "ware_leaf" "ware_leaf" (zaj zcc) (zah zcc) (zab zcc) .none kV22 dc22 pm22 an22 cd22 ct22), sl22⟩) (c22 : PySem.W.codeIn K cd22 "ware_leaf" = true) (k22 : PySem.W.keepIn K (.ref f22) = true)
  (a23 : PySem.W.nsIn K mainGlobals "told_tree" = some (some (.ref f23))) (l23 : K.lookup f23 = some ⟨oc23, od23, .func (PySem.W.fnOf "told_tree" "told_tree" (zaj zbz) (zah zbz) (zab zbz) .none kV23 dc23 pm23 an23 cd23 ct23), sl23⟩) (c23 : PySem.W.codeIn K cd23 "told_tree" = true) (k23 : PySem.W.keepIn K (.ref f23) = true)
  (a24 : PySem.W.nsIn K mainGlobals "is_tree" = some (some (.ref f24))) (l24 : K.lookup f24 = some ⟨oc24, od24, .func (PySem.W.fnOf "is_tree" "is_tree" (zaj zcv) (zah zcv) (zab zcv) .none kV24 dc24 pm24 an24 cd24 ct24), sl24⟩) (c24 : PySem.W.codeIn K cd24 "is_tree" = true) (k24 : PySem.W.keepIn K (.ref f24) = true)
  (a25 : PySem.W.nsIn K mainGlobals "is_broken_leaf" = some (some (.ref f25))) (l25 : K.lookup f25 = some ⟨oc25, od25, .func (PySem.W.fnOf "is_broken_leaf" "is_broken_leaf" (zaj zbg) (zah zbg) (zab zbg) .none kV25 dc25 pm25 an25 cd25 ct25), sl25⟩) (c25 : PySem.W.codeIn K cd25 "is_broken_leaf" = true) (k25 : PySem.W.keepIn K (.ref f25) = true)
  (a26 : PySem.W.nsIn K mainGlobals "wares_in" = some (some (.ref f26))) (l26 : K.lookup f26 = some ⟨oc26, od26, .func (PySem.W.fnOf "wares_in" "wares_in" (zaj zcp) (zah zcp) (zab zcp) .none kV26 dc26 pm26 an26 cd26 ct26), sl26⟩) (c26 : PySem.W.codeIn K cd26 "wares_in" = true) (k26 : PySem.W.keepIn K (.ref f26) = true)
  (a27 : PySem.W.nsIn K mainGlobals "wares" = some (some (.ref f27))) (l27 : K.lookup f27 = some ⟨oc27, od27, .func (PySem.W.fnOf "wares" "wares" (zaj zdo) (zah zdo) (zab zdo) .none kV27 dc27 pm27 an27 cd27 ct27), sl27⟩) (c27 : PySem.W.codeIn K cd27 "wares" = true) (k27 : PySem.W.keepIn K (.ref f27) = true)
  (a28 : PySem.W.nsIn K mainGlobals "within" = some (some (.ref f28))) (l28 : K.lookup f28 = some ⟨oc28, od28, .func (PySem.W.fnOf "within" "within" (zaj zbr) (zah zbr) (zab zbr) .none kV28 dc28 pm28 an28 (.ref cc28) ct28), sl28⟩) (c28 : PySem.W.codeIn K (.ref cc28) "within" = true) (k28 : PySem.W.keepIn K (.ref f28) = true)
  (m28 : K.lookup cc28 = some ⟨coc28, cod28, .fields cvs28, csl28⟩) (n28 : (cvs28[11]? : Option Value) = some (.ref tt28))
  (a29 : PySem.W.nsIn K mainGlobals "shows_within" = some (some (.ref f29))) (l29 : K.lookup f29 = some ⟨oc29, od29, .func (PySem.W.fnOf "shows_within" "shows_within" (zaj zay) (zah zay) (zab zay) .none kV29 dc29 pm29 an29 (.ref cc29) ct29), sl29⟩) (c29 : PySem.W.codeIn K (.ref cc29) "shows_within" = true) (k29 : PySem.W.keepIn K (.ref f29) = true)
  (m29 : K.lookup cc29 = some ⟨coc29, cod29, .fields cvs29, csl29⟩) (n29 : (cvs29[11]? : Option Value) = some (.ref tt29))
  (a30 : PySem.W.nsIn K mainGlobals "compared" = some (some (.ref f30))) (l30 : K.lookup f30 = some ⟨oc30, od30, .func (PySem.W.fnOf "compared" "compared" (zaj zb7) (zah zb7) (zab zb7) .none kV30 dc30 pm30 an30 cd30 ct30), sl30⟩) (c30 : PySem.W.codeIn K cd30 "compared" = true) (k30 : PySem.W.keepIn K (.ref f30) = true)
  (a31 : PySem.W.nsIn K mainGlobals "check_alike" = some (some (.ref f31))) (l31 : K.lookup f31 = some ⟨oc31, od31, .func (PySem.W.fnOf "check_alike" "check_alike" (zaj zbx) (zah zbx) (zab zbx) .none kV31 dc31 pm31 an31 cd31 ct31), sl31⟩) (c31 : PySem.W.codeIn K cd31 "check_alike" = true) (k31 : PySem.W.keepIn K (.ref f31) = true)
  (a32 : PySem.W.nsIn K mainGlobals "kept_leaf" = some (some (.ref f32))) (l32 : K.lookup f32 = some ⟨oc32, od32, .func (PySem.W.fnOf "kept_leaf" "kept_leaf" (zaj zca) (zah zca) (zab zca) .none kV32 dc32 pm32 an32 cd32 ct32), sl32⟩) (c32 : PySem.W.codeIn K cd32 "kept_leaf" = true) (k32 : PySem.W.keepIn K (.ref f32) = true)
  (a33 : PySem.W.nsIn K mainGlobals "is_kept_leaf" = some (some (.ref f33))) (l33 : K.lookup f33 = some ⟨oc33, od33, .func (PySem.W.fnOf "is_kept_leaf" "is_kept_leaf" (zaj zbq) (zah zbq) (zab zbq) .none kV33 dc33 pm33 an33 cd33 ct33), sl33⟩) (c33 : PySem.W.codeIn K cd33 "is_kept_leaf" = true) (k33 : PySem.W.keepIn K (.ref f33) = true)
  (a34 : PySem.W.nsIn K mainGlobals "_law_take" = some (some (.ref f34))) (l34 : K.lookup f34 = some ⟨oc34, od34, .func (PySem.W.fnOf "_law_take" "_law_take" (zaj zb6) (zah zb6) (zab zb6) .none kV34 dc34 pm34 an34 cd34 ct34), sl34⟩) (c34 : PySem.W.codeIn K cd34 "_law_take" = true) (k34 : PySem.W.keepIn K (.ref f34) = true)
  (a35 : PySem.W.nsIn K mainGlobals "_law_boughs" = some (some (.ref f35))) (l35 : K.lookup f35 = some ⟨oc35, od35, .func (PySem.W.fnOf "_law_boughs" "_law_boughs" (zaj zbl) (zah zbl) (zab zbl) .none kV35 dc35 pm35 an35 cd35 ct35), sl35⟩) (c35 : PySem.W.codeIn K cd35 "_law_boughs" = true) (k35 : PySem.W.keepIn K (.ref f35) = true)
  (a36 : PySem.W.nsIn K mainGlobals "_law_cross" = some (some (.ref f36))) (l36 : K.lookup f36 = some ⟨oc36, od36, .func (PySem.W.fnOf "_law_cross" "_law_cross" (zaj zbe) (zah zbe) (zab zbe) .none kV36 dc36 pm36 an36 cd36 ct36), sl36⟩) (c36 : PySem.W.codeIn K cd36 "_law_cross" = true) (k36 : PySem.W.keepIn K (.ref f36) = true)
  (a37 : PySem.W.nsIn K mainGlobals "_law_many" = some (some (.ref f37))) (l37 : K.lookup f37 = some ⟨oc37, od37, .func (PySem.W.fnOf "_law_many" "_law_many" (zaj zcm) (zah zcm) (zab zcm) .none kV37 dc37 pm37 an37 cd37 ct37), sl37⟩) (c37 : PySem.W.codeIn K cd37 "_law_many" = true) (k37 : PySem.W.keepIn K (.ref f37) = true)
  (a38 : PySem.W.nsIn K mainGlobals "_law_wood" = some (some (.ref f38))) (l38 : K.lookup f38 = some ⟨oc38, od38, .func (PySem.W.fnOf "_law_wood" "_law_wood" (zaj zcn) (zah zcn) (zab zcn) .none kV38 dc38 pm38 an38 cd38 ct38), sl38⟩) (c38 : PySem.W.codeIn K cd38 "_law_wood" = true) (k38 : PySem.W.keepIn K (.ref f38) = true)
  (a39 : PySem.W.nsIn K mainGlobals "_law_near" = some (some (.ref f39))) (l39 : K.lookup f39 = some ⟨oc39, od39, .func (PySem.W.fnOf "_law_near" "_law_near" (zaj zb5) (zah zb5) (zab zb5) .none kV39 dc39 pm39 an39 cd39 ct39), sl39⟩) (c39 : PySem.W.codeIn K cd39 "_law_near" = true) (k39 : PySem.W.keepIn K (.ref f39) = true)
  (a40 : PySem.W.nsIn K mainGlobals "_law_heard" = some (some (.ref f40))) (l40 : K.lookup f40 = some ⟨oc40, od40, .func (PySem.W.fnOf "_law_heard" "_law_heard" (zaj zcd) (zah zcd) (zab zcd) .none kV40 dc40 pm40 an40 cd40 ct40), sl40⟩) (c40 : PySem.W.codeIn K cd40 "_law_heard" = true) (k40 : PySem.W.keepIn K (.ref f40) = true)
  (a41 : PySem.W.nsIn K mainGlobals "_law_refused" = some (some (.ref f41))) (l41 : K.lookup f41 = some ⟨oc41, od41, .func (PySem.W.fnOf "_law_refused" "_law_refused" (zaj zax) (zah zax) (zab zax) .none kV41 dc41 pm41 an41 (.ref cc41) ct41), sl41⟩) (c41 : PySem.W.codeIn K (.ref cc41) "_law_refused" = true) (k41 : PySem.W.keepIn K (.ref f41) = true)
  (m41 : K.lookup cc41 = some ⟨coc41, cod41, .fields cvs41, csl41⟩) (n41 : (cvs41[11]? : Option Value) = some (.ref tt41))
  (a42 : PySem.W.nsIn K mainGlobals "law" = some (some (.ref f42))) (l42 : K.lookup f42 = some ⟨oc42, od42, .func (PySem.W.fnOf "law" "law" (zaj zew) (zah zew) (zab zew) .none kV42 dc42 pm42 an42 cd42 ct42), sl42⟩) (c42 : PySem.W.codeIn K cd42 "law" = true) (k42 : PySem.W.keepIn K (.ref f42) = true)
  (z1 : PySem.W.nsIn K mainGlobals "ValueError" = some none)
  (z2 : PySem.W.nsIn K mainGlobals "range" = some none)
  (z3 : PySem.W.nsIn K mainGlobals "len" = some none)
  (z4 : PySem.W.nsIn K mainGlobals "isinstance" = some none)
  (z5 : PySem.W.nsIn K mainGlobals "max" = some none)
  (z6 : PySem.W.nsIn K mainGlobals "all" = some none)
  (z7 : PySem.W.nsIn K mainGlobals "int" = some none)
  (z8 : PySem.W.nsIn K mainGlobals "list" = some none)
  (z9 : PySem.W.nsIn K mainGlobals "tuple" = some none)
  (z10 : PySem.W.nsIn K mainGlobals "sorted" = some none)
  (z11 : PySem.W.nsIn K mainGlobals "sum" = some none)
  (g_WoodError : PySem.W.nsIn K mainGlobals "WoodError" = some (some (.ref y_WoodError)))
  (g_NoWood : PySem.W.nsIn K mainGlobals "NoWood" = some (some (.ref y_NoWood)))
  (g_NoCount : PySem.W.nsIn K mainGlobals "NoCount" = some (some (.ref y_NoCount)))
  (g_NoWares : PySem.W.nsIn K mainGlobals "NoWares" = some (some (.ref y_NoWares)))
  (g_NoOffer : PySem.W.nsIn K mainGlobals "NoOffer" = some (some (.ref y_NoOffer)))
  (g_Unlike : PySem.W.nsIn K mainGlobals "Unlike" = some (some (.ref y_Unlike)))
  (g_NoText : PySem.W.nsIn K mainGlobals "NoText" = some (some (.ref y_NoText)))
  (g_NoRow : PySem.W.nsIn K mainGlobals "NoRow" = some (some (.ref y_NoRow)))
  (g_NoName : PySem.W.nsIn K mainGlobals "NoName" = some (some (.ref y_NoName)))
  (xa_WoodError : PySem.W.excIn K y_WoodError zgb zfv = true) (xb_WoodError : PySem.W.findIn K (.ref y_WoodError) "__getattribute__" = some (some (.builtin "BaseException.__getattribute__"))) (xc_WoodError : PySem.W.findIn K (.ref y_WoodError) "__getattr__" = some none) (xd_WoodError : PySem.W.findIn K (.ref y_WoodError) "__class__" = some (some (.builtin "object.__class__")))
  (xa_NoWood : PySem.W.excIn K y_NoWood zgb zfv = true) (xb_NoWood : PySem.W.findIn K (.ref y_NoWood) "__getattribute__" = some (some (.builtin "BaseException.__getattribute__"))) (xc_NoWood : PySem.W.findIn K (.ref y_NoWood) "__getattr__" = some none) (xd_NoWood : PySem.W.findIn K (.ref y_NoWood) "__class__" = some (some (.builtin "object.__class__")))
  (xa_NoCount : PySem.W.excIn K y_NoCount zgb zfv = true) (xb_NoCount : PySem.W.findIn K (.ref y_NoCount) "__getattribute__" = some (some (.builtin "BaseException.__getattribute__"))) (xc_NoCount : PySem.W.findIn K (.ref y_NoCount) "__getattr__" = some none) (xd_NoCount : PySem.W.findIn K (.ref y_NoCount) "__class__" = some (some (.builtin "object.__class__")))
  (xa_NoWares : PySem.W.excIn K y_NoWares zgb zfv = true) (xb_NoWares : PySem.W.findIn K (.ref y_NoWares) "__getattribute__" = some (some (.builtin "BaseException.__getattribute__"))) (xc_NoWares : PySem.W.findIn K (.ref y_NoWares) "__getattr__" = some none) (xd_NoWares : PySem.W.findIn K (.ref y_NoWares) "__class__" = some (some (.builtin "object.__class__")))
  (xa_NoOffer : PySem.W.excIn K y_NoOffer zgb zfv = true) (xb_NoOffer : PySem.W.findIn K (.ref y_NoOffer) "__getattribute__" = some (some (.builtin "BaseException.__getattribute__"))) (xc_NoOffer : PySem.W.findIn K (.ref y_NoOffer) "__getattr__" = some none) (xd_NoOffer : PySem.W.findIn K (.ref y_NoOffer) "__class__" = some (some (.builtin "object.__class__")))
  (xa_Unlike : PySem.W.excIn K y_Unlike zgb zfv = true) (xb_Unlike : PySem.W.findIn K (.ref y_Unlike) "__getattribute__" = some (some (.builtin "BaseException.__getattribute__"))) (xc_Unlike : PySem.W.findIn K (.ref y_Unlike) "__getattr__" = some none) (xd_Unlike : PySem.W.findIn K (.ref y_Unlike) "__class__" = some (some (.builtin "object.__class__")))
  (xa_NoText : PySem.W.excIn K y_NoText zgb zfv = true) (xb_NoText : PySem.W.findIn K (.ref y_NoText) "__getattribute__" = some (some (.builtin "BaseException.__getattribute__"))) (xc_NoText : PySem.W.findIn K (.ref y_NoText) "__getattr__" = some none) (xd_NoText : PySem.W.findIn K (.ref y_NoText) "__class__" = some (some (.builtin "object.__class__")))
  (xa_NoRow : PySem.W.excIn K y_NoRow zgb zfv = true) (xb_NoRow : PySem.W.findIn K (.ref y_NoRow) "__getattribute__" = some (some (.builtin "BaseException.__getattribute__"))) (xc_NoRow : PySem.W.findIn K (.ref y_NoRow) "__getattr__" = some none) (xd_NoRow : PySem.W.findIn K (.ref y_NoRow) "__class__" = some (some (.builtin "object.__class__")))
  (xa_NoName : PySem.W.excIn K y_NoName zgb zfv = true) (xb_NoName : PySem.W.findIn K (.ref y_NoName) "__getattribute__" = some (some (.builtin "BaseException.__getattribute__"))) (xc_NoName : PySem.W.findIn K (.ref y_NoName) "__getattr__" = some none) (xd_NoName : PySem.W.findIn K (.ref y_NoName) "__class__" = some (some (.builtin "object.__class__")))
  (k_Unlike_WoodError : PySem.W.kitOne K (.ref y_Unlike) (.ref y_WoodError) = some true)
  (k_Unlike_NoWood : PySem.W.kitOne K (.ref y_Unlike) (.ref y_NoWood) = some false)
  (k_Unlike_NoCount : PySem.W.kitOne K (.ref y_Unlike) (.ref y_NoCount) = some false)
  (k_Unlike_NoWares : PySem.W.kitOne K (.ref y_Unlike) (.ref y_NoWares) = some false)
  (k_Unlike_NoOffer : PySem.W.kitOne K (.ref y_Unlike) (.ref y_NoOffer) = some false)
  (k_Unlike_Unlike : PySem.W.kitOne K (.ref y_Unlike) (.ref y_Unlike) = some true)
  (k_Unlike_NoText : PySem.W.kitOne K (.ref y_Unlike) (.ref y_NoText) = some false)
  (k_Unlike_NoRow : PySem.W.kitOne K (.ref y_Unlike) (.ref y_NoRow) = some false)
  (k_Unlike_NoName : PySem.W.kitOne K (.ref y_Unlike) (.ref y_NoName) = some false)
  (v_Unlike : PySem.W.kitOne K (.ref y_Unlike) (.type "ValueError") = some true)
  (s_Unlike_WoodError : zqs K y_Unlike y_WoodError = true)
  : (∃ fd : FuncData, (∀ (s : Shared) (v : Value), BindsTo s fd ⟨[v], []⟩ [("_law_script", v)]) ∧ ∀ base : Heap, K.In base → base.Ns mainGlobals mg → (∀ p ∈ ([(cc21, tt21), (cc28, tt28), (cc29, tt29), (cc41, tt41)] : List (Addr × Addr)), LamB mg base p.1 p.2) → FnOk l.prog w K mg base CX0 27 fa fd ["_law_script"] (spT tt21 (spT tt28 (spT tt29 (spT tt41 (zob K)))))) := by
 have e := hfa.symm.trans (PySem.W.mg_of X G a42)
 cases e
 have F1 := za5 (st := zgw) l1 c1 k1
 have F2 := za5 (st := zbv) l2 c2 k2
 have F3 := za5 (st := zbh) l3 c3 k3
 have F4 := za5 (st := zcb) l4 c4 k4
 have F5 := za5 (st := zc5) l5 c5 k5
 have F6 := za5 (st := zc9) l6 c6 k6
 have F7 := za5 (st := zbw) l7 c7 k7
 have F8 := za5 (st := zch) l8 c8 k8
 have F9 := za5 (st := zce) l9 c9 k9
 have F10 := za5 (st := zbo) l10 c10 k10
 have F11 := za5 (st := zcx) l11 c11 k11
 have F12 := za5 (st := zbu) l12 c12 k12
 have F13 := za5 (st := zcf) l13 c13 k13
 have F14 := za5 (st := zb3) l14 c14 k14
 have F15 := za5 (st := zbj) l15 c15 k15
 have F16 := za5 (st := zar) l16 c16 k16
 have F17 := za5 (st := zaw) l17 c17 k17
 have F18 := za5 (st := za7) l18 c18 k18
 have F19 := za5 (st := zbf) l19 c19 k19
 have F20 := za5 (st := zdn) l20 c20 k20
 have F21 := za5 (st := zbn) l21 c21 k21
 have F22 := za5 (st := zcc) l22 c22 k22
 have F23 := za5 (st := zbz) l23 c23 k23
 have F24 := za5 (st := zcv) l24 c24 k24
 have F25 := za5 (st := zbg) l25 c25 k25
 have F26 := za5 (st := zcp) l26 c26 k26
 have F27 := za5 (st := zdo) l27 c27 k27
 have F28 := za5 (st := zbr) l28 c28 k28
 have F29 := za5 (st := zay) l29 c29 k29
 have F30 := za5 (st := zb7) l30 c30 k30
 have F31 := za5 (st := zbx) l31 c31 k31
 have F32 := za5 (st := zca) l32 c32 k32
 have F33 := za5 (st := zbq) l33 c33 k33
 have F34 := za5 (st := zb6) l34 c34 k34
 have F35 := za5 (st := zbl) l35 c35 k35
 have F36 := za5 (st := zbe) l36 c36 k36
 have F37 := za5 (st := zcm) l37 c37 k37
 have F38 := za5 (st := zcn) l38 c38 k38
 have F39 := za5 (st := zb5) l39 c39 k39
 have F40 := za5 (st := zcd) l40 c40 k40
 have F41 := za5 (st := zax) l41 c41 k41
 have F42 := za5 (st := zew) l42 c42 k42
 have b1 := F1.binds (ps := ["some", "k"]) fun _ _ _ _ _ _ us hl => len2 us hl fun _ _ => rfl
 have b2 := F2.binds (ps := ["some", "k"]) fun _ _ _ _ _ _ us hl => len2 us hl fun _ _ => rfl
 have b3 := F3.binds (ps := ["many", "yes", "no"]) fun _ _ _ _ _ _ us hl => len3 us hl fun _ _ _ => rfl
 have b4 := F4.binds (ps := ["wood"]) fun _ _ _ _ _ _ us hl => zov us hl fun _ => rfl
 have b5 := F5.binds (ps := ["wood", "t"]) fun _ _ _ _ _ _ us hl => len2 us hl fun _ _ => rfl
 have b6 := F6.binds (ps := ["tie", "some"]) fun _ _ _ _ _ _ us hl => len2 us hl fun _ _ => rfl
 have b7 := F7.binds (ps := ["bough", "some"]) fun _ _ _ _ _ _ us hl => len2 us hl fun _ _ => rfl
 have b8 := F8.binds (ps := ["kids", "some"]) fun _ _ _ _ _ _ us hl => len2 us hl fun _ _ => rfl
 have b9 := F9.binds (ps := ["wood"]) fun _ _ _ _ _ _ us hl => zov us hl fun _ => rfl
 have b10 := F10.binds (ps := ["wood", "some"]) fun _ _ _ _ _ _ us hl => len2 us hl fun _ _ => rfl
 have b11 := F11.binds (ps := ["wood", "some"]) fun _ _ _ _ _ _ us hl => len2 us hl fun _ _ => rfl
 have b12 := F12.binds (ps := ["tie", "yes", "no"]) fun _ _ _ _ _ _ us hl => len3 us hl fun _ _ _ => rfl
 have b13 := F13.binds (ps := ["tie", "yes", "no"]) fun _ _ _ _ _ _ us hl => len3 us hl fun _ _ _ => rfl
 have b14 := F14.binds (ps := ["pairs", "yes", "no"]) fun _ _ _ _ _ _ us hl => len3 us hl fun _ _ _ => rfl
 have b15 := F15.binds (ps := ["pairs", "yes", "no"]) fun _ _ _ _ _ _ us hl => len3 us hl fun _ _ _ => rfl
 have b16 := F16.binds (ps := ["bough", "yes", "no"]) fun _ _ _ _ _ _ us hl => len3 us hl fun _ _ _ => rfl
 have b17 := F17.binds (ps := ["bough", "yes", "no"]) fun _ _ _ _ _ _ us hl => len3 us hl fun _ _ _ => rfl
 have b18 := F18.binds (ps := ["wood", "ties", "yes", "no"]) fun _ _ _ _ _ _ us hl => zqx us hl fun _ _ _ _ => rfl
 have b19 := F19.binds (ps := ["wood", "yes", "no"]) fun _ _ _ _ _ _ us hl => len3 us hl fun _ _ _ => rfl
 have b20 := F20.binds (ps := ["wood", "yes", "no"]) fun _ _ _ _ _ _ us hl => len3 us hl fun _ _ _ => rfl
 have b21 := F21.binds (ps := ["wood", "ties", "yes", "no"]) fun _ _ _ _ _ _ us hl => zqx us hl fun _ _ _ _ => rfl
 have b22 := F22.binds (ps := ["wood", "yes", "no"]) fun _ _ _ _ _ _ us hl => len3 us hl fun _ _ _ => rfl
 have b23 := F23.binds (ps := ["wood", "ties", "yes", "no", "leaf_at"]) fun _ _ _ _ _ _ us hl => ztu us hl fun _ _ _ _ _ => rfl
 have b24 := F24.binds (ps := ["wood", "yes", "no", "tree", "is_leaf"]) fun _ _ _ _ _ _ us hl => ztu us hl fun _ _ _ _ _ => rfl
 have b25 := F25.binds (ps := ["wood", "yes", "no", "t"]) fun _ _ _ _ _ _ us hl => zqx us hl fun _ _ _ _ => rfl
 have b26 := F26.binds (ps := ["yes", "tree"]) fun _ _ _ _ _ _ us hl => len2 us hl fun _ _ => rfl
 have b27 := F27.binds (ps := ["wood"]) fun _ _ _ _ _ _ us hl => zov us hl fun _ => rfl
 have b28 := F28.binds (ps := ["one", "other"]) fun _ _ _ _ _ _ us hl => len2 us hl fun _ _ => rfl
 have b29 := F29.binds (ps := ["one", "other", "tree"]) fun _ _ _ _ _ _ us hl => len3 us hl fun _ _ _ => rfl
 have b30 := F30.binds (ps := ["one", "other"]) fun _ _ _ _ _ _ us hl => len2 us hl fun _ _ => rfl
 have b31 := F31.binds (ps := ["one", "other"]) fun _ _ _ _ _ _ us hl => len2 us hl fun _ _ => rfl
 have b32 := F32.binds (ps := ["other", "yes", "no"]) fun _ _ _ _ _ _ us hl => len3 us hl fun _ _ _ => rfl
 have b33 := F33.binds (ps := ["other", "word", "yes", "no"]) fun _ _ _ _ _ _ us hl => zqx us hl fun _ _ _ _ => rfl
 have b34 := F34.binds (ps := ["_law_state", "_law_most"]) fun _ _ _ _ _ _ us hl => len2 us hl fun _ _ => rfl
 have b35 := F35.binds (ps := ["_law_state", "_law_many_here"]) fun _ _ _ _ _ _ us hl => len2 us hl fun _ _ => rfl
 have b36 := F36.binds (ps := ["_law_state", "_law_many_here", "_law_most"]) fun _ _ _ _ _ _ us hl => len3 us hl fun _ _ _ => rfl
 have b37 := F37.binds (ps := ["_law_state"]) fun _ _ _ _ _ _ us hl => zov us hl fun _ => rfl
 have b38 := F38.binds (ps := ["_law_state", "_law_many_here", "_law_most"]) fun _ _ _ _ _ _ us hl => len3 us hl fun _ _ _ => rfl
 have b39 := F39.binds (ps := ["_law_state", "_law_wood_here"]) fun _ _ _ _ _ _ us hl => len2 us hl fun _ _ => rfl
 have b40 := F40.binds (ps := ["_law_ask"]) fun _ _ _ _ _ _ us hl => zov us hl fun _ => rfl
 have b41 := F41.binds (ps := ["_law_one", "_law_other", "_law_tree", "_law_due"]) fun _ _ _ _ _ _ us hl => zqx us hl fun _ _ _ _ => rfl
 have b42 := F42.binds (ps := ["_law_script"]) fun _ _ _ _ _ _ us hl => zov us hl fun _ => rfl
 have T : Txt K mg ⟨f1, f2, f3, f4, f5, f6, f7, f8, f9, f10, f11, f12, f13, f14, f15, f16, f17, f18, f19, f20, f21, f22, f23, f24, f25, f26, f27, f28, f29, f30, f31, f32, f33, f34, f35, f36, f37, f38, f39, f40, f41, fa, cc21, tt21, cc28, tt28, cc29, tt29, cc41, tt41, y_WoodError, y_NoWood, y_NoCount, y_NoWares, y_NoOffer, y_Unlike, y_NoText, y_NoRow, y_NoName⟩ ⟨PySem.W.fnOf "has" "has" (zaj zgw) (zah zgw) (zab zgw) .none kV1 dc1 pm1 an1 cd1 ct1, PySem.W.fnOf "with_option" "with_option" (zaj zbv) (zah zbv) (zab zbv) .none kV2 dc2 pm2 an2 cd2 ct2, PySem.W.fnOf "open_options" "open_options" (zaj zbh) (zah zbh) (zab zbh) .none kV3 dc3 pm3 an3 cd3 ct3, PySem.W.fnOf "many_ties" "many_ties" (zaj zcb) (zah zcb) (zab zcb) .none kV4 dc4 pm4 an4 cd4 ct4, PySem.W.fnOf "tie_at" "tie_at" (zaj zc5) (zah zc5) (zab zc5) .none kV5 dc5 pm5 an5 cd5 ct5, PySem.W.fnOf "keeps" "keeps" (zaj zc9) (zah zc9) (zab zc9) .none kV6 dc6 pm6 an6 cd6 ct6, PySem.W.fnOf "keeps_bough" "keeps_bough" (zaj zbw) (zah zbw) (zab zbw) .none kV7 dc7 pm7 an7 cd7 ct7, PySem.W.fnOf "count_in" "count_in" (zaj zch) (zah zch) (zab zch) .none kV8 dc8 pm8 an8 cd8 ct8, PySem.W.fnOf "every_tie" "every_tie" (zaj zce) (zah zce) (zab zce) .none kV9 dc9 pm9 an9 cd9 ct9, PySem.W.fnOf "first_broken" "first_broken" (zaj zbo) (zah zbo) (zab zbo) .none kV10 dc10 pm10 an10 cd10 ct10, PySem.W.fnOf "is_ware" "is_ware" (zaj zcx) (zah zcx) (zab zcx) .none kV11 dc11 pm11 an11 cd11 ct11, PySem.W.fnOf "sure_broken" "sure_broken" (zaj zbu) (zah zbu) (zab zbu) .none kV12 dc12 pm12 an12 cd12 ct12, PySem.W.fnOf "sure_kept" "sure_kept" (zaj zcf) (zah zcf) (zab zcf) .none kV13 dc13 pm13 an13 cd13 ct13, PySem.W.fnOf "least_sum" "least_sum" (zaj zb3) (zah zb3) (zab zb3) .none kV14 dc14 pm14 an14 cd14 ct14, PySem.W.fnOf "greatest_sum" "greatest_sum" (zaj zbj) (zah zbj) (zab zbj) .none kV15 dc15 pm15 an15 cd15 ct15, PySem.W.fnOf "sure_broken_bough" "sure_broken_bough" (zaj zar) (zah zar) (zab zar) .none kV16 dc16 pm16 an16 cd16 ct16, PySem.W.fnOf "sure_kept_bough" "sure_kept_bough" (zaj zaw) (zah zaw) (zab zaw) .none kV17 dc17 pm17 an17 cd17 ct17, PySem.W.fnOf "first_sure_broken" "first_sure_broken" (zaj za7) (zah za7) (zab za7) .none kV18 dc18 pm18 an18 cd18 ct18, PySem.W.fnOf "all_sure_kept" "all_sure_kept" (zaj zbf) (zah zbf) (zab zbf) .none kV19 dc19 pm19 an19 cd19 ct19, PySem.W.fnOf "cases" "cases" (zaj zdn) (zah zdn) (zab zdn) .none kV20 dc20 pm20 an20 cd20 ct20, PySem.W.fnOf "cases_of" "cases_of" (zaj zbn) (zah zbn) (zab zbn) .none kV21 dc21 pm21 an21 (.ref cc21) ct21, PySem.W.fnOf "ware_leaf" "ware_leaf" (zaj zcc) (zah zcc) (zab zcc) .none kV22 dc22 pm22 an22 cd22 ct22, PySem.W.fnOf "told_tree" "told_tree" (zaj zbz) (zah zbz) (zab zbz) .none kV23 dc23 pm23 an23 cd23 ct23, PySem.W.fnOf "is_tree" "is_tree" (zaj zcv) (zah zcv) (zab zcv) .none kV24 dc24 pm24 an24 cd24 ct24, PySem.W.fnOf "is_broken_leaf" "is_broken_leaf" (zaj zbg) (zah zbg) (zab zbg) .none kV25 dc25 pm25 an25 cd25 ct25, PySem.W.fnOf "wares_in" "wares_in" (zaj zcp) (zah zcp) (zab zcp) .none kV26 dc26 pm26 an26 cd26 ct26, PySem.W.fnOf "wares" "wares" (zaj zdo) (zah zdo) (zab zdo) .none kV27 dc27 pm27 an27 cd27 ct27, PySem.W.fnOf "within" "within" (zaj zbr) (zah zbr) (zab zbr) .none kV28 dc28 pm28 an28 (.ref cc28) ct28, PySem.W.fnOf "shows_within" "shows_within" (zaj zay) (zah zay) (zab zay) .none kV29 dc29 pm29 an29 (.ref cc29) ct29, PySem.W.fnOf "compared" "compared" (zaj zb7) (zah zb7) (zab zb7) .none kV30 dc30 pm30 an30 cd30 ct30, PySem.W.fnOf "check_alike" "check_alike" (zaj zbx) (zah zbx) (zab zbx) .none kV31 dc31 pm31 an31 cd31 ct31, PySem.W.fnOf "kept_leaf" "kept_leaf" (zaj zca) (zah zca) (zab zca) .none kV32 dc32 pm32 an32 cd32 ct32, PySem.W.fnOf "is_kept_leaf" "is_kept_leaf" (zaj zbq) (zah zbq) (zab zbq) .none kV33 dc33 pm33 an33 cd33 ct33, PySem.W.fnOf "_law_take" "_law_take" (zaj zb6) (zah zb6) (zab zb6) .none kV34 dc34 pm34 an34 cd34 ct34, PySem.W.fnOf "_law_boughs" "_law_boughs" (zaj zbl) (zah zbl) (zab zbl) .none kV35 dc35 pm35 an35 cd35 ct35, PySem.W.fnOf "_law_cross" "_law_cross" (zaj zbe) (zah zbe) (zab zbe) .none kV36 dc36 pm36 an36 cd36 ct36, PySem.W.fnOf "_law_many" "_law_many" (zaj zcm) (zah zcm) (zab zcm) .none kV37 dc37 pm37 an37 cd37 ct37, PySem.W.fnOf "_law_wood" "_law_wood" (zaj zcn) (zah zcn) (zab zcn) .none kV38 dc38 pm38 an38 cd38 ct38, PySem.W.fnOf "_law_near" "_law_near" (zaj zb5) (zah zb5) (zab zb5) .none kV39 dc39 pm39 an39 cd39 ct39, PySem.W.fnOf "_law_heard" "_law_heard" (zaj zcd) (zah zcd) (zab zcd) .none kV40 dc40 pm40 an40 cd40 ct40, PySem.W.fnOf "_law_refused" "_law_refused" (zaj zax) (zah zax) (zab zax) .none kV41 dc41 pm41 an41 (.ref cc41) ct41, PySem.W.fnOf "law" "law" (zaj zew) (zah zew) (zab zew) .none kV42 dc42 pm42 an42 cd42 ct42⟩ := ⟨PySem.W.mg_none_of X G z1, PySem.W.mg_none_of X G z2, PySem.W.mg_none_of X G z3, PySem.W.mg_none_of X G z4, PySem.W.mg_none_of X G z5, PySem.W.mg_none_of X G z6, PySem.W.mg_none_of X G z7, PySem.W.mg_none_of X G z8, PySem.W.mg_none_of X G z9, PySem.W.mg_none_of X G z10, PySem.W.mg_none_of X G z11, PySem.W.mg_of X G a1, F1, b1, PySem.W.mg_of X G a2, F2, b2, PySem.W.mg_of X G a3, F3, b3, PySem.W.mg_of X G a4, F4, b4, PySem.W.mg_of X G a5, F5, b5, PySem.W.mg_of X G a6, F6, b6, PySem.W.mg_of X G a7, F7, b7, PySem.W.mg_of X G a8, F8, b8, PySem.W.mg_of X G a9, F9, b9, PySem.W.mg_of X G a10, F10, b10, PySem.W.mg_of X G a11, F11, b11, PySem.W.mg_of X G a12, F12, b12, PySem.W.mg_of X G a13, F13, b13, PySem.W.mg_of X G a14, F14, b14, PySem.W.mg_of X G a15, F15, b15, PySem.W.mg_of X G a16, F16, b16, PySem.W.mg_of X G a17, F17, b17, PySem.W.mg_of X G a18, F18, b18, PySem.W.mg_of X G a19, F19, b19, PySem.W.mg_of X G a20, F20, b20, PySem.W.mg_of X G a21, F21, b21, PySem.W.mg_of X G a22, F22, b22, PySem.W.mg_of X G a23, F23, b23, PySem.W.mg_of X G a24, F24, b24, PySem.W.mg_of X G a25, F25, b25, PySem.W.mg_of X G a26, F26, b26, PySem.W.mg_of X G a27, F27, b27, PySem.W.mg_of X G a28, F28, b28, PySem.W.mg_of X G a29, F29, b29, PySem.W.mg_of X G a30, F30, b30, PySem.W.mg_of X G a31, F31, b31, PySem.W.mg_of X G a32, F32, b32, PySem.W.mg_of X G a33, F33, b33, PySem.W.mg_of X G a34, F34, b34, PySem.W.mg_of X G a35, F35, b35, PySem.W.mg_of X G a36, F36, b36, PySem.W.mg_of X G a37, F37, b37, PySem.W.mg_of X G a38, F38, b38, PySem.W.mg_of X G a39, F39, b39, PySem.W.mg_of X G a40, F40, b40, PySem.W.mg_of X G a41, F41, b41, PySem.W.mg_of X G a42, F42, b42, rfl, rfl, rfl, rfl, PySem.W.mg_of X G g_WoodError, PySem.W.mg_of X G g_NoWood, PySem.W.mg_of X G g_NoCount, PySem.W.mg_of X G g_NoWares, PySem.W.mg_of X G g_NoOffer, PySem.W.mg_of X G g_Unlike, PySem.W.mg_of X G g_NoText, PySem.W.mg_of X G g_NoRow, PySem.W.mg_of X G g_NoName, ⟨xa_WoodError, xb_WoodError, xc_WoodError, xd_WoodError⟩, ⟨xa_NoWood, xb_NoWood, xc_NoWood, xd_NoWood⟩, ⟨xa_NoCount, xb_NoCount, xc_NoCount, xd_NoCount⟩, ⟨xa_NoWares, xb_NoWares, xc_NoWares, xd_NoWares⟩, ⟨xa_NoOffer, xb_NoOffer, xc_NoOffer, xd_NoOffer⟩, ⟨xa_Unlike, xb_Unlike, xc_Unlike, xd_Unlike⟩, ⟨xa_NoText, xb_NoText, xc_NoText, xd_NoText⟩, ⟨xa_NoRow, xb_NoRow, xc_NoRow, xd_NoRow⟩, ⟨xa_NoName, xb_NoName, xc_NoName, xd_NoName⟩, k_Unlike_WoodError, k_Unlike_NoWood, k_Unlike_NoCount, k_Unlike_NoWares, k_Unlike_NoOffer, k_Unlike_Unlike, k_Unlike_NoText, k_Unlike_NoRow, k_Unlike_NoName, v_Unlike, s_Unlike_WoodError⟩
 exact ⟨PySem.W.fnOf "law" "law" (zaj zew) (zah zew) (zab zew) .none kV42 dc42 pm42 an42 cd42 ct42, fun s v => .of_eq rfl, fun base _ _ LL => ztj T (LL _ List.mem_cons_self) (LL _ (List.mem_cons_of_mem _ List.mem_cons_self)) (LL _ (List.mem_cons_of_mem _ (List.mem_cons_of_mem _ List.mem_cons_self))) (LL _ (List.mem_cons_of_mem _ (List.mem_cons_of_mem _ (List.mem_cons_of_mem _ List.mem_cons_self))))⟩
theorem walk {l : PySem.W.OpenLaw} {q : Program} {loose : List Str} {XP : (Str → Option Value) → Heap → Prop} {YP : World → Heap → Prop} {d : DefRec} {K : Params → PySem.W.Frag} {c21 P21 c28 P28 c29 P29 c41 P41 : Addr} (hn : l.most = some 63) (hdf : d.params.defaults = [])
  (hY : ∀ (w : World) (h : Heap), YP w h → (K w.params).In h)
  (hK0 : ∀ w : World, PySem.W.noTabs (K w.params) = true) (hT : ∀ (w : World) (h : Heap), YP w h → PySem.W.TabsAt [(c21, P21), (c28, P28), (c29, P29), (c41, P41)] h)
(F : ∀ (w : World) (mg : Str → Option Value) (fa : Addr) (h : Heap), (K w.params).In h → h.Ns mainGlobals mg → mg d.name = some (.ref fa) →
   ∃ fd : FuncData, (∀ (s : Shared) (u : Value), BindsTo s fd ⟨[u], []⟩ [("_law_script", u)]) ∧ ∀ base : Heap, (K w.params).In base → base.Ns mainGlobals mg → (∀ p ∈ ([(c21, P21), (c28, P28), (c29, P29), (c41, P41)] : List (Addr × Addr)), LamB mg base p.1 p.2) → FnOk l.prog w (K w.params) mg base CX0 27 fa fd ["_law_script"] (spT P21 (spT P28 (spT P29 (spT P41 (zob (K w.params))))))) :
  PySem.W.WalkO q loose XP YP l.row.toRowW d [] (fun f vs => PySem.call f vs) :=
 L2.walk_ofT (n := 63) (k := 27) (x := "_law_script") (tabs := fun _ => [(c21, P21), (c28, P28), (c29, P29), (c41, P41)]) (sp := fun w => (spT P21 (spT P28 (spT P29 (spT P41 (zob (K w.params))))))) hn (by decide) hdf ⟨rfl, by decide, by decide⟩ hY hK0 hT F (fun _ _ a ns hl hT hS => ⟨hT _ List.mem_cons_self, hT _ (List.mem_cons_of_mem _ List.mem_cons_self), hT _ (List.mem_cons_of_mem _ (List.mem_cons_of_mem _ List.mem_cons_self)), hT _ (List.mem_cons_of_mem _ (List.mem_cons_of_mem _ (List.mem_cons_of_mem _ List.mem_cons_self))), a, ns, rfl, hS, hl, fun _ => rfl⟩)
end Ow
namespace PySem.W.Fast
def tw4108309390780231969 : Unit := ()
def tw6593415999037743900 : Unit := ()
def tw8618372416559875967 : Unit := ()
def tw11449095587635803992 : Unit := ()
def tw559911886833887049 : Unit := ()
def tw14922307938847475145 : Unit := ()
def tw5852806832045348901 : Unit := ()
def tw5213448916435850618 : Unit := ()
def tw5226078993905118059 : Unit := ()
def tw17226826126870683895 : Unit := ()
def tw17355613914755569429 : Unit := ()
def tw10430010525573009739 : Unit := ()
def tw12812042942793182737 : Unit := ()
def tw10432018897109735697 : Unit := ()
def tw1342590539848808083 : Unit := ()
def tw8616286115221999203 : Unit := ()
def tw11934685185005044433 : Unit := ()
def tw8539674533623777851 : Unit := ()
def tw16696095818027573578 : Unit := ()
def tw3018516131911816632 : Unit := ()
def tw1998715734686300126 : Unit := ()
def tw1130724659854816185 : Unit := ()
def tw16923422949175986467 : Unit := ()
def tw8175735626213229662 : Unit := ()
def tw15152003402078803739 : Unit := ()
def tw12114008066009959440 : Unit := ()
def tw13545847804347862347 : Unit := ()
def tw5127768051951831292 : Unit := ()
def tw18028704505975131044 : Unit := ()
def tw13603854821295877806 : Unit := ()
def tw15941764161222592182 : Unit := ()
def tw12440234730589233988 : Unit := ()
def tw7257956491145672529 : Unit := ()
def tw470900521099097173 : Unit := ()
def tw528873957526638289 : Unit := ()
def tw10032907979812341501 : Unit := ()
def tw8198456973955772579 : Unit := ()
def tw8971223699504983125 : Unit := ()
def tw3097235257215752688 : Unit := ()
def tw14978668511391988407 : Unit := ()
def tw5779137296448625802 : Unit := ()
def tw4686489993359792631 : Unit := ()
def tw10617849190407880571 : Unit := ()
def tw5149909094483900992 : Unit := ()
def tw4079801997169294664 : Unit := ()
def tw10172722201582493223 : Unit := ()
def tw17970713187481548431 : Unit := ()
def tw1184965870248509442 : Unit := ()
def tw15500176036739198681 : Unit := ()
def tw5608783066859428602 : Unit := ()
def tw4332448120258929494 : Unit := ()
def tw18414082072533204413 : Unit := ()
def tw3491831740530271401 : Unit := ()
def tw6419820241553894748 : Unit := ()
def tw15168408707997099874 : Unit := ()
def tw17591028681633040308 : Unit := ()
def tw2011092666085733039 : Unit := ()
def tw7157563450416670835 : Unit := ()
def tw17589440027088079235 : Unit := ()
def tw16399020380462948414 : Unit := ()
def tw14216128999990827715 : Unit := ()
def tw10233757301797222812 : Unit := ()
def tw12817615237906147438 : Unit := ()
def tw13261556235688399598 : Unit := ()
def tw5285500300982825409 : Unit := ()
def tw15432299855346906749 : Unit := ()
def tw13642949692468317002 : Unit := ()
def tw3716469499053736567 : Unit := ()
def tw6829067594968416178 : Unit := ()
def tw5728524249217515656 : Unit := ()
def tw7767622256080913257 : Unit := ()
def tw12623269537953811290 : Unit := ()
def tw4505785643733076625 : Unit := ()
def tw6331128552635089393 : Unit := ()
def tw15912228182774743753 : Unit := ()
def tw12519352317658403855 : Unit := ()
def tw16535115553854637873 : Unit := ()
def tw4507484316030376930 : Unit := ()
def tw16093003307510276793 : Unit := ()
def tw13695080184158675745 : Unit := ()
def tw7192138728140462776 : Unit := ()
def tw5875004255653791540 : Unit := ()
def tw1513199117425066000 : Unit := ()
def tw17575475790291250407 : Unit := ()
def tw3472671831860500993 : Unit := ()
def tw6295254160473981382 : Unit := ()
def tw4915579815277188208 : Unit := ()
def tw9447655384180592387 : Unit := ()
def tw12865318693191896020 : Unit := ()
def tw5237377030009968628 : Unit := ()
def tw15374758875790528745 : Unit := ()
def tw8097471097571460616 : Unit := ()
def tw9222085921058157873 : Unit := ()
def tw5247693795748089002 : Unit := ()
def tw297472485369760076 : Unit := ()
def tw11987142258615561444 : Unit := ()
def tw14216514022612431691 : Unit := ()
def tw5449389490273594823 : Unit := ()
def tw10432966735895008154 : Unit := ()
def tw10342056376893871496 : Unit := ()
def tw9377200846054692032 : Unit := ()
def tw15755246889503892980 : Unit := ()
def tw3514748443368889587 : Unit := ()
def tw16078931825632796005 : Unit := ()
def tw13624995489197262592 : Unit := ()
def tw12561414109397827580 : Unit := ()
def tw15600081841220435732 : Unit := ()
def tw6013524362969417229 : Unit := ()
def tw7525907106585176527 : Unit := ()
def tw9178564954642653362 : Unit := ()
def tw16128438864291116724 : Unit := ()
def tw4832335625938295037 : Unit := ()
def tw9873940849515296057 : Unit := ()
def tw9386205491530167438 : Unit := ()
def tw8954070377897422558 : Unit := ()
def tw16297619156367678376 : Unit := ()
def tw1420853478920443199 : Unit := ()
def tw14980247155555590420 : Unit := ()
def tw1686789553003294711 : Unit := ()
def tw11409271292152500399 : Unit := ()
def tw16822368450525243081 : Unit := ()
def tw9376311692319119570 : Unit := ()
def tw12373019060330381351 : Unit := ()
def tw12624823024773412830 : Unit := ()
def tw7048125858388187447 : Unit := ()
def tw17997808077141928295 : Unit := ()
def tw16251494229535696985 : Unit := ()
def tw6771122764666415801 : Unit := ()
def tw2493808648212625069 : Unit := ()
def tw3925541541144997009 : Unit := ()
def tw11825230738959917683 : Unit := ()
def tw13274380388119389558 : Unit := ()
def tw7272880543751722018 : Unit := ()
def tw9700041194282337607 : Unit := ()
def tw5226818978153328424 : Unit := ()
def tw3452635541882495396 : Unit := ()
def tw3212270700838687538 : Unit := ()
def tw3360696742617891857 : Unit := ()
def tw16239163358416834717 : Unit := ()
def tw3469421766208168100 : Unit := ()
def tw14099960930430857120 : Unit := ()
def tw10045296361594696370 : Unit := ()
def tw16998331760727124515 : Unit := ()
def tw16802476007131547640 : Unit := ()
def tw12966376208873963655 : Unit := ()
def tw6773303538700066666 : Unit := ()
def tw3085486165088747663 : Unit := ()
def tw6433444429875752934 : Unit := ()
def tw7163522270187504873 : Unit := ()
def tw12549145256124244278 : Unit := ()
def tw14186330498986634723 : Unit := ()
def tw10759027139431526543 : Unit := ()
def tw16944835481671410481 : Unit := ()
def tw3907894865317170995 : Unit := ()
def tw18190532318288991982 : Unit := ()
def tw2384581251553973025 : Unit := ()
def tw17066188291188566421 : Unit := ()
def tw978475947536268766 : Unit := ()
def tw8181069710665515072 : Unit := ()
def tw773828766536581930 : Unit := ()
def tw16673002938094945431 : Unit := ()
def tw2827665180914294768 : Unit := ()
def tw18212949000073238988 : Unit := ()
def tw3214693983396855729 : Unit := ()
def tw3413987335384267000 : Unit := ()
def tw4028406626527088555 : Unit := ()
def tw9099843550836671890 : Unit := ()
def tw2325620031897776451 : Unit := ()
def tw7066057468766758425 : Unit := ()
def tw14313941166582949664 : Unit := ()
def tw1387729283935975612 : Unit := ()
def tw2405907888891259930 : Unit := ()
def tw15000793092176015954 : Unit := ()
def tw11433811141687274523 : Unit := ()
def tw15952430784190274801 : Unit := ()
def tw9824490417403935214 : Unit := ()
def tw12058384935125197327 : Unit := ()
def tw7429113197238559515 : Unit := ()
def tw4811730963557974675 : Unit := ()
def tw131291504752948370 : Unit := ()
def tw11062581563234773166 : Unit := ()
def tw15671081687764929804 : Unit := ()
def tw5600802069820592794 : Unit := ()
def tw11728167994724010332 : Unit := ()
def tw7474254705543484934 : Unit := ()
def tw14184266417071249768 : Unit := ()
def tw13915628924522011872 : Unit := ()
def tw18442593043705107767 : Unit := ()
def tw16976997847963312649 : Unit := ()
def tw613237144660401255 : Unit := ()
def tw18368036412229286944 : Unit := ()
def tw12861967559654615122 : Unit := ()
def tw4963986238821000583 : Unit := ()
def tw7077143676543646002 : Unit := ()
def tw1359701948200372088 : Unit := ()
def tw7825718667698287033 : Unit := ()
def tw3663653582623204365 : Unit := ()
def tw16952685225526339531 : Unit := ()
def tw2137525669432431502 : Unit := ()
def tw14775381490631076546 : Unit := ()
def tw5675773997849509086 : Unit := ()
def tw13570091395720412425 : Unit := ()
def tw11548575514071229481 : Unit := ()
def tw9491591714667211143 : Unit := ()
def tw4971718697936850681 : Unit := ()
def tw5400379719071126614 : Unit := ()
def tw11870606935241497551 : Unit := ()
def tw4357469402537073142 : Unit := ()
def tw12656931305282661323 : Unit := ()
def tw18301942741274606694 : Unit := ()
def tw3871347908235002613 : Unit := ()
def tw16125394001597902967 : Unit := ()
def tw3562982924239815996 : Unit := ()
def tw199954126757332360 : Unit := ()
def tw18078951448095674722 : Unit := ()
def tw14595209240592743416 : Unit := ()
def tw15841510288468457394 : Unit := ()
def tw12836478916623533224 : Unit := ()
def tw18187357477716298769 : Unit := ()
def tw16858556596983352597 : Unit := ()
def tw6189872935112167697 : Unit := ()
def tw17145763462118192159 : Unit := ()
def tw11734018814412001015 : Unit := ()
def tw5149276518343056990 : Unit := ()
def tw10593786546957025143 : Unit := ()
def tw16814002778271842341 : Unit := ()
def tw3206984459209173896 : Unit := ()
def tw5014515803801801539 : Unit := ()
def tw17639598420786385555 : Unit := ()
def tw7474707401735191528 : Unit := ()
def tw18206365913870820385 : Unit := ()
def tw11314063107783258704 : Unit := ()
def tw17172833055482591604 : Unit := ()
def tw15251471860486050440 : Unit := ()
def tw3027114720136408063 : Unit := ()
def tw8208921090315865630 : Unit := ()
def tw3058403627622338771 : Unit := ()
def tw17433298370091206090 : Unit := ()
def tw12243688855803928123 : Unit := ()
def tw11946105235557683534 : Unit := ()
def tw17415088533639783002 : Unit := ()
def tw17619254834297321763 : Unit := ()
def tw854154714347907377 : Unit := ()
def tw17090369687089254700 : Unit := ()
def tw4584968600267255833 : Unit := ()
def tw15100795360532637437 : Unit := ()
def tw11439550695772995437 : Unit := ()
def tw7032955382752867773 : Unit := ()
def tw3184234705830832366 : Unit := ()
def tw17860131679386315066 : Unit := ()
def tw16684879107586260476 : Unit := ()
def tw11349702097698762640 : Unit := ()
def tw5663753957938813308 : Unit := ()
def tw5677680817089505042 : Unit := ()
def tw6993664530546628806 : Unit := ()
def tw3917626078434866289 : Unit := ()
def tw9343144188421952062 : Unit := ()
def tw10156688973453715016 : Unit := ()
def tw12709224598081831173 : Unit := ()
def tw1894961622184457235 : Unit := ()
def tw7107883867545019916 : Unit := ()
def tw5169195119738878371 : Unit := ()
def tw9923248946311669746 : Unit := ()
def tw17843232361188527776 : Unit := ()
def tw12722739928125429994 : Unit := ()
def tw11576152307464188380 : Unit := ()
def tw10869792134462944266 : Unit := ()
def tw6785898519683338117 : Unit := ()
def tw3331297404136580119 : Unit := ()
def tw9716837350634740468 : Unit := ()
def tw11936268657907949864 : Unit := ()
def tw14360494910733111102 : Unit := ()
def tw16724903362642681970 : Unit := ()
def tw14736744598291473469 : Unit := ()
def tw14140083096625944854 : Unit := ()
def tw12750440439675346834 : Unit := ()
def tw18015953673073702913 : Unit := ()
def tw10250848063493907608 : Unit := ()
def tw1095961707427444070 : Unit := ()
def tw13746792505830858637 : Unit := ()
def tw4482075235260722148 : Unit := ()
def tw3738899133133182980 : Unit := ()
def tw16572083853246885187 : Unit := ()
def tw3779837792519867855 : Unit := ()
def tw16407703807129639792 : Unit := ()
def tw8367091856149686923 : Unit := ()
def tw3340395801980361076 : Unit := ()
def tw17751729834436605163 : Unit := ()
def tw1780310103983774698 : Unit := ()
def tw4031486719354541601 : Unit := ()
def tw16205210712207549924 : Unit := ()
def tw15483825477841154730 : Unit := ()
def tw12995910443567817200 : Unit := ()
def tw14466989167144585680 : Unit := ()
def tw7274721095308667472 : Unit := ()
def tw11715871498779768375 : Unit := ()
def tw14709468431272552069 : Unit := ()
def tw11969265774231484629 : Unit := ()
def tw7705268115561992952 : Unit := ()
def tw11671045168966047520 : Unit := ()
def tw1730256983879313276 : Unit := ()
def tw8607741505954470724 : Unit := ()
def tw13047113382591996645 : Unit := ()
def tw14251213880082235959 : Unit := ()
def tw7210509840843454519 : Unit := ()
def tw2247095747187876187 : Unit := ()
def tw8070971956408848862 : Unit := ()
def tw347011579640056810 : Unit := ()
def tw2132587199954775967 : Unit := ()
def tw14445770713887654770 : Unit := ()
def tw10133922187943950937 : Unit := ()
def tw17363955070914006423 : Unit := ()
def tw4097873355948728439 : Unit := ()
def tw2140229035086883897 : Unit := ()
def tw3054264305517054942 : Unit := ()
def tw941404682687089928 : Unit := ()
def tw6224539266560025197 : Unit := ()
def tw15215752093814980248 : Unit := ()
def tw8284804907778077790 : Unit := ()
def tw11138938259042164080 : Unit := ()
def tw6133037270736663762 : Unit := ()
def tw965203088169221711 : Unit := ()
def tw6159909392447948864 : Unit := ()
def tw7521644073601112775 : Unit := ()
def tw18290842636851685543 : Unit := ()
def tw15332263356927157996 : Unit := ()
def tw9242309017718092292 : Unit := ()
def tw3584358804733974750 : Unit := ()
def tw798559343154523960 : Unit := ()
def tw738261538896289746 : Unit := ()
def tw9624465435629304560 : Unit := ()
def tw16820405546288406290 : Unit := ()
def tw10765795112441874580 : Unit := ()
def tw5889980182003463423 : Unit := ()
def tw7161614100859308275 : Unit := ()
def tw12624925850856149984 : Unit := ()
def tw13219794017740311376 : Unit := ()
def tw5039879671472370249 : Unit := ()
def tw2313577449396238060 : Unit := ()
def tw2554138670338918641 : Unit := ()
def tw5600479784949316191 : Unit := ()
def tw5504491744290721960 : Unit := ()
def tw11355384174418516061 : Unit := ()
def tw7364166115781655554 : Unit := ()
def tw13477098871556400413 : Unit := ()
def tw6154933966244339633 : Unit := ()
def tw17133794855540680450 : Unit := ()
def tw5370772602353031959 : Unit := ()
def tw16963271495796649500 : Unit := ()
def tw15445185108456846412 : Unit := ()
def tw11409248434674291277 : Unit := ()
def tw4811257414806540921 : Unit := ()
def tw10813571830193849391 : Unit := ()
def tw13064792272906344289 : Unit := ()
def tw8801390711748443610 : Unit := ()
def tw12882127340438308754 : Unit := ()
def tw3058256108792767417 : Unit := ()
def tw14080867978958533760 : Unit := ()
def tw11515893070374742084 : Unit := ()
def tw15675903361469653876 : Unit := ()
def tw8167809887354076799 : Unit := ()
def tw4574431666960260332 : Unit := ()
def tw18009657354427007808 : Unit := ()
def tw2453539596633344771 : Unit := ()
def tw7960796225486927264 : Unit := ()
def tw7990569272292888184 : Unit := ()
def tw10843916096678565438 : Unit := ()
def tw2425374671192892669 : Unit := ()
def tw9228950529861653547 : Unit := ()
def tw6740978788274546875 : Unit := ()
def tw2427300971989676034 : Unit := ()
def tw6300624205799816022 : Unit := ()
def tw8473907260791784566 : Unit := ()
def tw7559183259953950749 : Unit := ()
def tw10140314227771461901 : Unit := ()
def tw13920670140821309213 : Unit := ()
def tw12016405512227999141 : Unit := ()
def tw10824230173701481169 : Unit := ()
def tw12056141559475315441 : Unit := ()
def tw17327280330506631524 : Unit := ()
def tw5595088359501881949 : Unit := ()
def tw15066087923961479301 : Unit := ()
def tw3710295168587924942 : Unit := ()
def tw15511256025385958913 : Unit := ()
def tw12909049207012091517 : Unit := ()
def tw12028852809405463292 : Unit := ()
def tw5716975312147398237 : Unit := ()
def tw12980887156010406786 : Unit := ()
def tw563130554729439363 : Unit := ()
end PySem.W.Fast
namespace Ow
end Ow
open PySem PySem.W PyProof.Rows
set_option maxRecDepth 100000 in
set_option maxHeartbeats 0 in
theorem PySem.Challenge.cw_optionwood_k51_woods_unlike_holds : PySem.Challenge.rw_optionwood_k51_woods_unlike.Holds := by
 w_on; o_law; k_head; (case hw => w_witness2)
 k_fill
 refine' Ow.walk (l := PySem.Challenge.rw_optionwood_k51_woods_unlike) (c21 := _) (P21 := _) (c28 := _) (P28 := _) (c29 := _) (P29 := _) (c41 := _) (P41 := _) rfl rfl (fun w h Y => PySem.W.km_in_of Y) ?K0 ?hT ?F
 case F =>
  intro w mg fa h KX G hmg
  refine' Ow.all_mk KX G hmg ?a1 ?l1 ?c1 ?k1 ?a2 ?l2 ?c2 ?k2 ?a3 ?l3 ?c3 ?k3 ?a4 ?l4 ?c4 ?k4 ?a5 ?l5 ?c5 ?k5 ?a6 ?l6 ?c6 ?k6 ?a7 ?l7 ?c7 ?k7 ?a8 ?l8 ?c8 ?k8 ?a9 ?l9 ?c9 ?k9 ?a10 ?l10 ?c10 ?k10 ?a11 ?l11 ?c11 ?k11 ?a12 ?l12 ?c12 ?k12 ?a13 ?l13 ?c13 ?k13 ?a14 ?l14 ?c14 ?k14 ?a15 ?l15 ?c15 ?k15 ?a16 ?l16 ?c16 ?k16 ?a17 ?l17 ?c17 ?k17 ?a18 ?l18 ?c18 ?k18 ?a19 ?l19 ?c19 ?k19 ?a20 ?l20 ?c20 ?k20 ?a21 ?l21 ?c21 ?k21 ?m21 ?n21 ?a22 ?l22 ?c22 ?k22 ?a23 ?l23 ?c23 ?k23 ?a24 ?l24 ?c24 ?k24 ?a25 ?l25 ?c25 ?k25 ?a26 ?l26 ?c26 ?k26 ?a27 ?l27 ?c27 ?k27 ?a28 ?l28 ?c28 ?k28 ?m28 ?n28 ?a29 ?l29 ?c29 ?k29 ?m29 ?n29 ?a30 ?l30 ?c30 ?k30 ?a31 ?l31 ?c31 ?k31 ?a32 ?l32 ?c32 ?k32 ?a33 ?l33 ?c33 ?k33 ?a34 ?l34 ?c34 ?k34 ?a35 ?l35 ?c35 ?k35 ?a36 ?l36 ?c36 ?k36 ?a37 ?l37 ?c37 ?k37 ?a38 ?l38 ?c38 ?k38 ?a39 ?l39 ?c39 ?k39 ?a40 ?l40 ?c40 ?k40 ?a41 ?l41 ?c41 ?k41 ?m41 ?n41 ?a42 ?l42 ?c42 ?k42 ?z1 ?z2 ?z3 ?z4 ?z5 ?z6 ?z7 ?z8 ?z9 ?z10 ?z11 ?g_WoodError ?g_NoWood ?g_NoCount ?g_NoWares ?g_NoOffer ?g_Unlike ?g_NoText ?g_NoRow ?g_NoName ?xa_WoodError ?xb_WoodError ?xc_WoodError ?xd_WoodError ?xa_NoWood ?xb_NoWood ?xc_NoWood ?xd_NoWood ?xa_NoCount ?xb_NoCount ?xc_NoCount ?xd_NoCount ?xa_NoWares ?xb_NoWares ?xc_NoWares ?xd_NoWares ?xa_NoOffer ?xb_NoOffer ?xc_NoOffer ?xd_NoOffer ?xa_Unlike ?xb_Unlike ?xc_Unlike ?xd_Unlike ?xa_NoText ?xb_NoText ?xc_NoText ?xd_NoText ?xa_NoRow ?xb_NoRow ?xc_NoRow ?xd_NoRow ?xa_NoName ?xb_NoName ?xc_NoName ?xd_NoName ?k_Unlike_WoodError ?k_Unlike_NoWood ?k_Unlike_NoCount ?k_Unlike_NoWares ?k_Unlike_NoOffer ?k_Unlike_Unlike ?k_Unlike_NoText ?k_Unlike_NoRow ?k_Unlike_NoName ?v_Unlike ?s_Unlike_WoodError
  (case a1 => k_is)
  (case l1 => k_is)
  (case c1 => k_is)
  (case k1 => k_is)
  (case a2 => k_is)
  (case l2 => k_is)
  (case c2 => k_is)
  (case k2 => k_is)
  (case a3 => k_is)
  (case l3 => k_is)
  (case c3 => k_is)
  (case k3 => k_is)
  (case a4 => k_is)
  (case l4 => k_is)
  (case c4 => k_is)
  (case k4 => k_is)
  (case a5 => k_is)
  (case l5 => k_is)
  (case c5 => k_is)
  (case k5 => k_is)
  (case a6 => k_is)
  (case l6 => k_is)
  (case c6 => k_is)
  (case k6 => k_is)
  (case a7 => k_is)
  (case l7 => k_is)
  (case c7 => k_is)
  (case k7 => k_is)
  (case a8 => k_is)
  (case l8 => k_is)
  (case c8 => k_is)
  (case k8 => k_is)
  (case a9 => k_is)
  (case l9 => k_is)
  (case c9 => k_is)
  (case k9 => k_is)
  (case a10 => k_is)
  (case l10 => k_is)
  (case c10 => k_is)
  (case k10 => k_is)
  (case a11 => k_is)
  (case l11 => k_is)
  (case c11 => k_is)
  (case k11 => k_is)
  (case a12 => k_is)
  (case l12 => k_is)
  (case c12 => k_is)
  (case k12 => k_is)
  (case a13 => k_is)
  (case l13 => k_is)
  (case c13 => k_is)
  (case k13 => k_is)
  (case a14 => k_is)
  (case l14 => k_is)
  (case c14 => k_is)
  (case k14 => k_is)
  (case a15 => k_is)
  (case l15 => k_is)
  (case c15 => k_is)
  (case k15 => k_is)
  (case a16 => k_is)
  (case l16 => k_is)
  (case c16 => k_is)
  (case k16 => k_is)
  (case a17 => k_is)
  (case l17 => k_is)
  (case c17 => k_is)
  (case k17 => k_is)
  (case a18 => k_is)
  (case l18 => k_is)
  (case c18 => k_is)
  (case k18 => k_is)
  (case a19 => k_is)
  (case l19 => k_is)
  (case c19 => k_is)
  (case k19 => k_is)
  (case a20 => k_is)
  (case l20 => k_is)
  (case c20 => k_is)
  (case k20 => k_is)
  (case a21 => k_is)
  (case l21 => k_is)
  (case c21 => k_is)
  (case k21 => k_is)
  (case m21 => k_is)
  (case n21 => exact rfl)
  (case a22 => k_is)
  (case l22 => k_is)
  (case c22 => k_is)
  (case k22 => k_is)
  (case a23 => k_is)
  (case l23 => k_is)
  (case c23 => k_is)
  (case k23 => k_is)
  (case a24 => k_is)
  (case l24 => k_is)
  (case c24 => k_is)
  (case k24 => k_is)
  (case a25 => k_is)
  (case l25 => k_is)
  (case c25 => k_is)
  (case k25 => k_is)
  (case a26 => k_is)
  (case l26 => k_is)
  (case c26 => k_is)
  (case k26 => k_is)
  (case a27 => k_is)
  (case l27 => k_is)
  (case c27 => k_is)
  (case k27 => k_is)
  (case a28 => k_is)
  (case l28 => k_is)
  (case c28 => k_is)
  (case k28 => k_is)
  (case m28 => k_is)
  (case n28 => exact rfl)
  (case a29 => k_is)
  (case l29 => k_is)
  (case c29 => k_is)
  (case k29 => k_is)
  (case m29 => k_is)
  (case n29 => exact rfl)
  (case a30 => k_is)
  (case l30 => k_is)
  (case c30 => k_is)
  (case k30 => k_is)
  (case a31 => k_is)
  (case l31 => k_is)
  (case c31 => k_is)
  (case k31 => k_is)
  (case a32 => k_is)
  (case l32 => k_is)
  (case c32 => k_is)
  (case k32 => k_is)
  (case a33 => k_is)
  (case l33 => k_is)
  (case c33 => k_is)
  (case k33 => k_is)
  (case a34 => k_is)
  (case l34 => k_is)
  (case c34 => k_is)
  (case k34 => k_is)
  (case a35 => k_is)
  (case l35 => k_is)
  (case c35 => k_is)
  (case k35 => k_is)
  (case a36 => k_is)
  (case l36 => k_is)
  (case c36 => k_is)
  (case k36 => k_is)
  (case a37 => k_is)
  (case l37 => k_is)
  (case c37 => k_is)
  (case k37 => k_is)
  (case a38 => k_is)
  (case l38 => k_is)
  (case c38 => k_is)
  (case k38 => k_is)
  (case a39 => k_is)
  (case l39 => k_is)
  (case c39 => k_is)
  (case k39 => k_is)
  (case a40 => k_is)
  (case l40 => k_is)
  (case c40 => k_is)
  (case k40 => k_is)
  (case a41 => k_is)
  (case l41 => k_is)
  (case c41 => k_is)
  (case k41 => k_is)
  (case m41 => k_is)
  (case n41 => exact rfl)
  (case a42 => k_is)
  (case l42 => k_is)
  (case c42 => k_is)
  (case k42 => k_is)
  (case z1 => k_is)
  (case z2 => k_is)
  (case z3 => k_is)
  (case z4 => k_is)
  (case z5 => k_is)
  (case z6 => k_is)
  (case z7 => k_is)
  (case z8 => k_is)
  (case z9 => k_is)
  (case z10 => k_is)
  (case z11 => k_is)
  (case g_WoodError => k_is)
  (case g_NoWood => k_is)
  (case g_NoCount => k_is)
  (case g_NoWares => k_is)
  (case g_NoOffer => k_is)
  (case g_Unlike => k_is)
  (case g_NoText => k_is)
  (case g_NoRow => k_is)
  (case g_NoName => k_is)
  (case xa_WoodError => first | k_is | kernel_rfl)
  (case xb_WoodError => first | k_is | kernel_rfl)
  (case xc_WoodError => first | k_is | kernel_rfl)
  (case xd_WoodError => first | k_is | kernel_rfl)
  (case xa_NoWood => first | k_is | kernel_rfl)
  (case xb_NoWood => first | k_is | kernel_rfl)
  (case xc_NoWood => first | k_is | kernel_rfl)
  (case xd_NoWood => first | k_is | kernel_rfl)
  (case xa_NoCount => first | k_is | kernel_rfl)
  (case xb_NoCount => first | k_is | kernel_rfl)
  (case xc_NoCount => first | k_is | kernel_rfl)
  (case xd_NoCount => first | k_is | kernel_rfl)
  (case xa_NoWares => first | k_is | kernel_rfl)
  (case xb_NoWares => first | k_is | kernel_rfl)
  (case xc_NoWares => first | k_is | kernel_rfl)
  (case xd_NoWares => first | k_is | kernel_rfl)
  (case xa_NoOffer => first | k_is | kernel_rfl)
  (case xb_NoOffer => first | k_is | kernel_rfl)
  (case xc_NoOffer => first | k_is | kernel_rfl)
  (case xd_NoOffer => first | k_is | kernel_rfl)
  (case xa_Unlike => first | k_is | kernel_rfl)
  (case xb_Unlike => first | k_is | kernel_rfl)
  (case xc_Unlike => first | k_is | kernel_rfl)
  (case xd_Unlike => first | k_is | kernel_rfl)
  (case xa_NoText => first | k_is | kernel_rfl)
  (case xb_NoText => first | k_is | kernel_rfl)
  (case xc_NoText => first | k_is | kernel_rfl)
  (case xd_NoText => first | k_is | kernel_rfl)
  (case xa_NoRow => first | k_is | kernel_rfl)
  (case xb_NoRow => first | k_is | kernel_rfl)
  (case xc_NoRow => first | k_is | kernel_rfl)
  (case xd_NoRow => first | k_is | kernel_rfl)
  (case xa_NoName => first | k_is | kernel_rfl)
  (case xb_NoName => first | k_is | kernel_rfl)
  (case xc_NoName => first | k_is | kernel_rfl)
  (case xd_NoName => first | k_is | kernel_rfl)
  (case k_Unlike_WoodError => first | k_is | kernel_rfl)
  (case k_Unlike_NoWood => first | k_is | kernel_rfl)
  (case k_Unlike_NoCount => first | k_is | kernel_rfl)
  (case k_Unlike_NoWares => first | k_is | kernel_rfl)
  (case k_Unlike_NoOffer => first | k_is | kernel_rfl)
  (case k_Unlike_Unlike => first | k_is | kernel_rfl)
  (case k_Unlike_NoText => first | k_is | kernel_rfl)
  (case k_Unlike_NoRow => first | k_is | kernel_rfl)
  (case k_Unlike_NoName => first | k_is | kernel_rfl)
  (case v_Unlike => first | k_is | kernel_rfl)
  (case s_Unlike_WoodError => first | k_is | kernel_rfl)
 case K0 => intro w; kernel_rfl
 case hT =>
  intro w h Y q hq
  simp only [List.mem_cons, List.not_mem_nil, or_false] at hq
  rcases hq with rfl | rfl | rfl | rfl
  ·exact ⟨PySem.W.codeHd_of_K (PySem.W.km_in_of Y) (by kernel_rfl), PySem.W.km_tabs_of Y _ (by decide)⟩
  ·exact ⟨PySem.W.codeHd_of_K (PySem.W.km_in_of Y) (by kernel_rfl), PySem.W.km_tabs_of Y _ (by decide)⟩
  ·exact ⟨PySem.W.codeHd_of_K (PySem.W.km_in_of Y) (by kernel_rfl), PySem.W.km_tabs_of Y _ (by decide)⟩
  ·exact ⟨PySem.W.codeHd_of_K (PySem.W.km_in_of Y) (by kernel_rfl), PySem.W.km_tabs_of Y _ (by decide)⟩
#print axioms PySem.Challenge.cw_optionwood_k51_woods_unlike_holds
