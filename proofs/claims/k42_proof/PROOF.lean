import PyProof.Rows.All
import Wide.All
import OpenK.AllK
import Wide.FinOn
import Lean
import PyProof.EqAt
import PyProof.EqKinds
import PyProof.TupleCall
import PySem.Challenge.RW_optionwood_k42_why_told
set_option Elab.async false
set_option linter.all false
set_option maxRecDepth 100000
namespace L2
open PySem PySem.Spec PyProof.Rows
abbrev Key := Sum Int Str
def zv0 : Key → Value → Bool
 | .inl k, v => Value.isInt k v
 | .inr x, v => Value.isStrOf x v
def zy4 (w : World) : Key → Int
 | .inl k => hashInt k
 | .inr x => hashStr w x
theorem zbt : ∀ {k : Key} {v : Value}, zv0 k v = true → (∃ i t, k = Sum.inl i ∧ v = Value.int i t) ∨ (∃ x t, k = Sum.inr x ∧ v = Value.str x t)
 | .inl i, v, h => by
  obtain ⟨t, e⟩ := Value.isInt_shape (k := i) (v := v) h
  exact .inl ⟨i, t, rfl, e⟩
 | .inr x, v, h => by
  obtain ⟨t, e⟩ := Value.isStrOf_shape (x := x) (v := v) h
  exact .inr ⟨x, t, rfl, e⟩
theorem zxi (a b : Int) : decide ((Sum.inl a : Key) = Sum.inl b) = (a == b) := by
 by_cases e : a = b
 ·subst e; simp
 ·have h : ¬ (Sum.inl a : Key) = Sum.inl b := fun q => e (Sum.inl.inj q)
  rw [decide_eq_false h]
  exact (beq_eq_false_iff_ne.mpr e).symm
theorem zw3 (a b : Str) : decide ((Sum.inr a : Key) = Sum.inr b) = decide (a = b) := by
 by_cases e : a = b
 ·subst e; simp
 ·have h : ¬ (Sum.inr a : Key) = Sum.inr b := fun q => e (Sum.inr.inj q)
  rw [decide_eq_false h, decide_eq_false e]
theorem zw9 (a : Int) (b : Str) : decide ((Sum.inl a : Key) = Sum.inr b) = false := decide_eq_false (fun q => nomatch q)
theorem zwd (a : Str) (b : Int) : decide ((Sum.inr a : Key) = Sum.inl b) = false := decide_eq_false (fun q => nomatch q)
def zqh (prog : Program) (w : World) : PySem.KeyKind prog w Key where
 is := zv0
 hash := zy4 w
 inj := fun v a b ha hb => by
  rcases zbt ha with ⟨i, t, rfl, rfl⟩ | ⟨x, t, rfl, rfl⟩
  ·rcases zbt hb with ⟨j, u, rfl, e⟩ | ⟨y, u, rfl, e⟩
   ·injection e with e1 _; rw [e1]
   ·exact nomatch e
  ·rcases zbt hb with ⟨j, u, rfl, e⟩ | ⟨y, u, rfl, e⟩
   ·exact nomatch e
   ·injection e with e1 _; rw [e1]
 byValue := fun k v h => by
  rcases zbt h with ⟨i, t, rfl, rfl⟩ | ⟨x, t, rfl, rfl⟩ <;> rfl
 pyHash := fun hv h => by
  rcases zbt hv with ⟨i, t, rfl, rfl⟩ | ⟨x, t, rfl, rfl⟩
  ·exact wpAny_pyHash_int h
  ·exact wpAny_pyHash_str h
 eqBool := fun hu hv h => by
  rcases zbt hu with ⟨i, t, rfl, rfl⟩ | ⟨x, t, rfl, rfl⟩
  ·rcases zbt hv with ⟨j, u, rfl, rfl⟩ | ⟨y, u, rfl, rfl⟩
   ·rw [zxi] at h; exact wpAny_eqBool_int h
   ·rw [zw9] at h; exact SeqAt.EqAt.int_str i t y u _ _ _ _ h
  ·rcases zbt hv with ⟨j, u, rfl, rfl⟩ | ⟨y, u, rfl, rfl⟩
   ·rw [zwd] at h; exact SeqAt.EqAt.str_int x t j u _ _ _ _ h
   ·rw [zw3] at h; exact wpAny_eqBool_str h
 «strs» := fun k x t v h => by
  rcases zbt h with ⟨i, u, rfl, e⟩ | ⟨y, u, rfl, e⟩
  ·exact nomatch e
  ·injection e with e1 _
   subst e1
   cases v <;> rfl
end L2
namespace L2
open PySem PySem.Spec PyProof.Rows
inductive V where
 | non | bl (b : Bool) | int (i : Int) | str (x : Str) | byt (b : Array UInt8) | flt (b : UInt64) | ref (a : Addr) | ty (n : String)
 deriving DecidableEq
def RelV : V → Value → Prop
 | .non, u => u = Value.none
 | .bl b, u => u = Value.bool b
 | .int i, u => ∃ t, u = Value.int i t
 | .str x, u => ∃ t, u = Value.str x t
 | .byt b, u => ∃ t, u = Value.bytes b t
 | .flt b, u => ∃ t, u = Value.float b t
 | .ref a, u => u = Value.ref a
 | .ty n, u => u = Value.type n
abbrev Vals : List V → List Value → Prop := Paired RelV
theorem Vals.length {xs : List V} {us : List Value} (r : Vals xs us) : xs.length = us.length := Paired.length r
theorem Vals.get : ∀ {xs : List V} {us : List Value} {i : Nat} {x : V}, Vals xs us → xs[i]? = some x → ∃ u, us[i]? = some u ∧ RelV x u
 | _, _, _, _, .nil, e => by simp at e
 | _, _, 0, _, .cons r _, e => by simp at e; subst e; exact ⟨_, rfl, r⟩
 | _, _, i + 1, x, .cons _ t, e => by
  obtain ⟨u, h1, h2⟩ := Vals.get (i := i) (x := x) t (by simpa using e)
  exact ⟨u, by simpa using h1, h2⟩
theorem Vals.set {x : V} {u : Value} (r : RelV x u) : ∀ {xs : List V} {us : List Value} (i : Nat), Vals xs us → Vals (xs.set i x) (us.set i u)
 | _, _, _, .nil => .nil
 | _, _, 0, .cons _ t => .cons r t
 | _, _, i + 1, .cons q t => .cons q (Vals.set r i t)
theorem Vals.append : ∀ {xs ys : List V} {us ws : List Value}, Vals xs us → Vals ys ws → Vals (xs ++ ys) (us ++ ws)
 | _, _, _, _, .nil, s => s
 | _, _, _, _, .cons r t, s => .cons r (Vals.append t s)
theorem Vals.take : ∀ {xs : List V} {us : List Value} (n : Nat), Vals xs us → Vals (xs.take n) (us.take n)
 | _, _, 0, _ => .nil
 | _, _, _ + 1, .nil => .nil
 | _, _, n + 1, .cons r t => .cons r (Vals.take n t)
theorem Vals.drop : ∀ {xs : List V} {us : List Value} (n : Nat), Vals xs us → Vals (xs.drop n) (us.drop n)
 | _, _, 0, r => r
 | _, _, _ + 1, .nil => .nil
 | _, _, n + 1, .cons _ t => Vals.drop n t
def RelO : Option V → Option Value → Prop
 | some v, some u => RelV v u
 | none, none => True
 | _, _ => False
def KV {κ : Type} : List (κ × V) → List (κ × Value) → Prop := Paired fun (p : κ × V) (q : κ × Value) => p.1 = q.1 ∧ RelV p.2 q.2
def kV : Key → V
 | .inl i => .int i
 | .inr x => .str x
inductive HO where
 | lst (xs : List V)
 | tup (xs : List V)
 | dK (kvs : List (Key × V)) | dT (kvs : List (List Key × V))
 | set (S : Int → Bool) (n : Nat)
 | ins (C dx : Addr) (fs : List (Str × V))
 | own (x : Addr)
 | xd (fs : List (Str × V))
 | met (f x : Addr)
 | rng (lo hi : Int)
 | frz (o : Obj) (u : HO)
 | tbl (ps : Array Value)
 | ext (φ : Heap → Prop)
abbrev Hp := Addr → Option HO
def upd (H : Hp) (a : Addr) (o : HO) : Hp := fun b => if b = a then some o else H b
theorem zab {H : Hp} {a : Addr} {o : HO} : upd H a o a = some o := by unfold upd; rw [if_pos rfl]
theorem zak {H : Hp} {a b : Addr} {o : HO} (h : b ≠ a) : upd H a o b = H b := by unfold upd; rw [if_neg h]
theorem zof {H : Hp} {a b : Addr} {o u : HO} (h : H a = some o) (h' : H b = some u) (d : o ≠ u) : a ≠ b := by
 intro e; subst e; rw [h] at h'; exact d (Option.some.inj h')
theorem zas {H : Hp} {a b : Addr} {o : HO} (h : H a = some o) (h' : H b = none) : a ≠ b := by
 intro e; subst e; rw [h] at h'; cases h'
section
variable (P : Program) (w : World)
def ObjOk (H : Hp) (h : Heap) (a : Addr) : HO → Prop
 | .lst xs => xs.length ≤ sizeLine ∧ ∃ (its : List Value) (n : Nat), Vals xs its ∧ h.get? a = some { cls := .type "list", data := .seq its.toArray n }
 | .tup xs => xs.length ≤ sizeLine ∧ ∃ its : List Value, Vals xs its ∧ IsTup h a its.toArray
 | .dK kvs => kvs.length ≤ sizeLine ∧ (a == sysModules) = false ∧ ∃ vs, KV kvs vs ∧ h.DictOf (zqh P w) a vs
 | .dT kvs => kvs.length ≤ sizeLine ∧ (a == sysModules) = false ∧ ∃ xs : List (List Key × Addr × Value),
   Paired (fun (p : List Key × V) (q : List Key × Addr × Value) => p.1 = q.1 ∧ H q.2.1 = some (.tup (p.1.map kV)) ∧ RelV p.2 q.2.2) kvs xs ∧
   ∃ o es ep, h.get? a = some o ∧ o.ExactDict ∧ o.data = .dict es ep ∧ es.toList = xs.map (entryOfKey (tupleKind (zqh P w))) ∧ (xs.map (·.1)).Nodup
 | .set S n => h.SetOf (intKind P w) a S n
 | .ins C dx fs => H dx = some (.own a) ∧ fs.length ≤ 1000 ∧ dx ≠ a ∧ h.get? a = some (PySem.W.instObj C dx) ∧
   ∃ mA, h.Ns1 dx mA ∧ (∀ f, RelO (fs.lookup f) (mA f)) ∧ PySem.Within mA (fs.map (·.1))
 | .own _ => ∃ o, h.get? a = some o
 | .xd fs => ∃ mA, h.Ns1 a mA ∧ ∀ f, RelO (fs.lookup f) (mA f)
 | .rng lo hi => ∃ t u v, h.get? a = some { cls := .type "range", data := .fields #[.int lo t, .int hi u, .int 1 v] }
 | .frz o u => h.get? a = some o ∧ ObjOk H h a u
 | .tbl ps => h.get? a = some { cls := .none, data := .fields ps }
 | .met f x => h.get? a = some (PySem.W.methodObj (.ref f) (.ref x))
 | .ext φ => φ h ∧ (∃ o, h.get? a = some o) ∧ ∀ h1 h2 : Heap, φ h1 → (∀ o, h1.get? a = some o → h2.get? a = some o) → φ h2
def HOk (H : Hp) (h : Heap) : Prop := ∀ a o, H a = some o → ObjOk P w H h a o
end
section
variable {P : Program} {w : World} {H H' : Hp} {h h' : Heap} {a : Addr} {o : HO}
theorem ObjOk.lt (x : ObjOk P w H h a o) : a < h.objs.size := by
 cases o with
 | lst xs => obtain ⟨_, _, _, _, e⟩ := x; exact Heap.lt_size e
 | tup xs => obtain ⟨_, _, _, p⟩ := x; exact p.lt
 | dK kvs => obtain ⟨_, _, _, _, o, _, _, e, _⟩ := x; exact Heap.lt_size e
 | dT kvs => obtain ⟨_, _, _, _, o, _, _, e, _⟩ := x; exact Heap.lt_size e
 | set S n => obtain ⟨o, _, _, _, e, _⟩ := x; exact Heap.lt_size e
 | ins C dx fs => obtain ⟨_, _, _, e, _⟩ := x; exact Heap.lt_size e
 | own y => obtain ⟨_, e⟩ := x; exact Heap.lt_size e
 | xd fs => obtain ⟨_, ⟨_, _, _, e, _⟩, _⟩ := x; exact Heap.lt_size e
 | rng lo hi => obtain ⟨_, _, _, e⟩ := x; exact Heap.lt_size e
 | frz ob u => obtain ⟨e, _⟩ := x; exact Heap.lt_size e
 | tbl ps => exact Heap.lt_size (show h.get? a = some _ from x)
 | met f y => exact Heap.lt_size (show h.get? a = some _ from x)
 | ext φ => obtain ⟨_, ⟨_, e⟩, _⟩ := x; exact Heap.lt_size e
theorem Paired.mapP {α β : Type} {F G : α → β → Prop} : ∀ {l₁ : List α} {l₂ : List β}, Paired F l₁ l₂ → (∀ a b, F a b → G a b) → Paired G l₁ l₂
 | _, _, .nil, _ => .nil
 | _, _, .cons r t, f => .cons (f _ _ r) (Paired.mapP t f)
theorem ObjOk.stay (x : ObjOk P w H h a o) (k : ∀ b u, (b = a ∨ H b = some (.own a)) → h.get? b = some u → h'.get? b = some u)
  (ho : ∀ b, H b = some (.own a) → H' b = some (.own a)) (ht : ∀ b xs, H b = some (.tup xs) → H' b = some (.tup xs)) : ObjOk P w H' h' a o := by
 induction o with
 | lst xs => obtain ⟨z, its, n, r, e⟩ := x; exact ⟨z, its, n, r, k _ _ (.inl rfl) e⟩
 | tup xs => obtain ⟨z, its, r, ob, e, c⟩ := x; exact ⟨z, its, r, ob, k _ _ (.inl rfl) e, c⟩
 | dK kvs => obtain ⟨z, y, vs, r, ob, es, ep, e, c⟩ := x; exact ⟨z, y, vs, r, ob, es, ep, k _ _ (.inl rfl) e, c⟩
 | dT kvs =>
  obtain ⟨z, y, xs, r, ob, es, ep, e, c⟩ := x
  exact ⟨z, y, xs, Paired.mapP r fun p q z => ⟨z.1, ht _ _ z.2.1, z.2.2⟩, ob, es, ep, k _ _ (.inl rfl) e, c⟩
 | set S n => obtain ⟨ob, es, ep, t, e, c⟩ := x; exact ⟨ob, es, ep, t, k _ _ (.inl rfl) e, c⟩
 | ins C dx fs =>
  obtain ⟨d, z, ne, e, mA, ⟨od, es, ep, e2, c⟩, r⟩ := x
  exact ⟨ho _ d, z, ne, k _ _ (.inl rfl) e, mA, ⟨od, es, ep, k _ _ (.inr d) e2, c⟩, r⟩
 | own y => obtain ⟨ob, e⟩ := x; exact ⟨ob, k _ _ (.inl rfl) e⟩
 | xd fs => obtain ⟨mA, ⟨od, es, ep, e, c⟩, r⟩ := x; exact ⟨mA, ⟨od, es, ep, k _ _ (.inl rfl) e, c⟩, r⟩
 | rng lo hi => obtain ⟨t, u, v, e⟩ := x; exact ⟨t, u, v, k _ _ (.inl rfl) e⟩
 | frz ob u ih => obtain ⟨e, q⟩ := x; exact ⟨k _ _ (.inl rfl) e, ih q⟩
 | tbl ps =>
  have e : h.get? a = some { cls := .none, data := .fields ps } := x
  show h'.get? a = some { cls := .none, data := .fields ps }
  exact k a _ (.inl rfl) e
 | met f y =>
  have e : h.get? a = some (PySem.W.methodObj (.ref f) (.ref y)) := x
  show h'.get? a = some (PySem.W.methodObj (.ref f) (.ref y))
  exact k a _ (.inl rfl) e
 | ext φ => obtain ⟨p, ⟨o, e⟩, st⟩ := x; exact ⟨st _ _ p fun o q => k _ _ (.inl rfl) q, ⟨o, k _ _ (.inl rfl) e⟩, st⟩
theorem HOk.lt (x : HOk P w H h) (e : H a = some o) : a < h.objs.size := (x a o e).lt
theorem HOk.fresh (x : HOk P w H h) (e : h.objs.size ≤ a) : H a = none := by
 cases q : H a with
 | none => rfl
 | some u => exact absurd (Nat.lt_of_lt_of_le (x.lt q) e) (Nat.lt_irrefl _)
theorem HOk.kept (x : HOk P w H h) (k : ∀ b u, h.get? b = some u → h'.get? b = some u) : HOk P w H h' := fun a o e =>
 (x a o e).stay (fun b u _ q => k b u q) (fun _ q => q) fun _ _ q => q
theorem HOk.laid (x : HOk P w H h) (k : ∀ b u, h.get? b = some u → h'.get? b = some u) (hp : h.objs.size ≤ a) (new : ObjOk P w (upd H a o) h' a o) : HOk P w (upd H a o) h' := fun b u e => by
 have hn := x.fresh hp
 by_cases hb : b = a
 ·subst hb; rw [zab] at e; cases e; exact new
 ·rw [zak hb] at e
  exact (x b u e).stay (fun c v _ q => k c v q) (fun c q => by rw [zak (zas q hn)]; exact q) fun c xs q => by rw [zak (zas q hn)]; exact q
end
def Rd (H : Hp) (a : Addr) (u : HO) : Prop := H a = some u ∨ ∃ o, H a = some (.frz o u)
theorem Rd.ok {P : Program} {w : World} {H : Hp} {h : Heap} {a : Addr} {u : HO} (r : Rd H a u) (x : HOk P w H h) : ObjOk P w H h a u := by
 rcases r with r | ⟨o, r⟩
 ·exact x a u r
 ·obtain ⟨_, q⟩ := x a _ r
  exact q
def Mut : Option HO → Prop
 | some (.lst _) => True
 | some (.dK _) => True
 | some (.dT _) => True
 | some (.set _ _) => True
 | some (.ins _ _ _) => True
 | some (.ext _) => True
 | _ => False
section
variable {P : Program} {w : World} {H : Hp} {h h' : Heap} {x e : Addr} {o' : HO}
theorem HOk.write (ok : HOk P w H h) (mu : Mut (H x)) (he : e = x ∨ H e = some (.own x)) (k : ∀ b u, b ≠ e → h.get? b = some u → h'.get? b = some u) (heo : ∃ u, h'.get? e = some u)
  (new : ObjOk P w (upd H x o') h' x o') : HOk P w (upd H x o') h' := fun b u q => by
 have nown : ∀ c y, H c = some (.own y) → c ≠ x := fun c y r z => by subst z; rw [r] at mu; exact mu
 have ntup : ∀ c xs, H c = some (.tup xs) → c ≠ x := fun c xs r z => by subst z; rw [r] at mu; exact mu
 by_cases hb : b = x
 ·subst hb; rw [zab] at q; cases q; exact new
 ·rw [zak hb] at q
  by_cases hbe : b = e
  ·have q' : H b = some (.own x) := by
    rcases he with z | z
    ·exact absurd (hbe.trans z) hb
    ·rw [hbe]; exact z
   rw [q] at q'; cases q'
   obtain ⟨v, hv⟩ := heo
   exact ⟨v, by rw [hbe]; exact hv⟩
  ·refine (ok b u q).stay (fun c v hc r => k c v ?_ r) (fun c r => by rw [zak (nown c b r)]; exact r) fun c xs r => by rw [zak (ntup c xs r)]; exact r
   rcases hc with rfl | hc
   ·exact hbe
   ·rintro rfl
    rcases he with z | z
    ·exact nown c b hc z
    ·rw [hc] at z; cases z; exact hb rfl
end
structure Un (fs ex : List Addr) (H H' : Hp) (h h' : Heap) : Prop where
 keep : ∀ b o, h.get? b = some o → H b = none → b ∉ fs → b ∉ ex → h'.get? b = some o
 slot : ∀ b o, h.get? b = some o → H b = none → b ∈ fs → b ∉ ex → ∃ sl, h'.get? b = some { o with slots := sl }
 free : ∀ b o, h.get? b = some o → H b = none → b ∉ ex → H' b = none
 there : ∀ b o, h.get? b = some o → b ∉ ex → ∃ o', h'.get? b = some o'
 tups : ∀ b xs, H b = some (.tup xs) → H' b = some (.tup xs)
 frzs : ∀ b o u, H b = some (.frz o u) → H' b = some (.frz o u)
 tbls : ∀ b ps, H b = some (.tbl ps) → ∃ more, H' b = some (.tbl (ps ++ more))
section
variable {fs fs' ex ex' : List Addr} {H H1 H2 : Hp} {h h1 h2 h' : Heap} {a x e : Addr} {o : HO}
theorem Un.any (u : Un fs ex H H1 h h1) {b : Addr} {ob : Obj} (q : h.get? b = some ob) (n : H b = none) (hx : b ∉ ex) : ∃ sl, h1.get? b = some { ob with slots := sl } := by
 by_cases hb : b ∈ fs
 ·exact u.slot b ob q n hb hx
 ·exact ⟨ob.slots, u.keep b ob q n hb hx⟩
theorem Un.kept (k : ∀ b u, h.get? b = some u → h'.get? b = some u) : Un fs ex H H h h' :=
 ⟨fun b ob q _ _ _ => k b ob q, fun b ob q _ _ _ => ⟨ob.slots, k b ob q⟩, fun _ _ _ n _ => n, fun b ob q _ => ⟨ob, k b ob q⟩, fun _ _ q => q, fun _ _ _ q => q, fun _ ps q => ⟨#[], by rw [q]; simp⟩⟩
theorem Un.refl : Un fs ex H H h h := Un.kept fun _ _ q => q
theorem Un.laid (k : ∀ b u, h.get? b = some u → h'.get? b = some u) (hp : h.objs.size ≤ a) (hn : H a = none) : Un fs ex H (upd H a o) h h' where
 keep := fun b u q _ _ _ => k b u q
 slot := fun b u q _ _ _ => ⟨u.slots, k b u q⟩
 free := fun b u q n _ => by rw [zak (Nat.ne_of_lt (Nat.lt_of_lt_of_le (Heap.lt_size q) hp))]; exact n
 there := fun b u q _ => ⟨u, k b u q⟩
 tups := fun b xs q => by rw [zak (zas q hn)]; exact q
 frzs := fun b u xs q => by rw [zak (zas q hn)]; exact q
 tbls := fun b ps q => ⟨#[], by rw [zak (zas q hn), q]; simp⟩
theorem Un.write (mu : Mut (H x)) (he : e = x ∨ H e = some (.own x)) (k : ∀ b u, b ≠ e → h.get? b = some u → h'.get? b = some u) (heo : ∃ u, h'.get? e = some u) : Un fs ex H (upd H x o) h h' := by
 have hx : ∀ b, H b = none → b ≠ x := fun b n z => by subst z; rw [n] at mu; exact mu
 have hb : ∀ b, H b = none → b ≠ e := fun b n z => by
  subst z
  rcases he with r | r
  ·exact hx b n r
  ·rw [n] at r; cases r
 have hm : ∀ b u, H b = some u → ¬ Mut (some u) → b ≠ x := fun b u q nm z => by subst z; rw [q] at mu; exact nm mu
 refine ⟨fun b u q n _ _ => k b u (hb b n) q, fun b u q n _ _ => ⟨u.slots, k b u (hb b n) q⟩, fun b u q n _ => by rw [zak (hx b n)]; exact n, fun b u q _ => ?_,
  fun b xs q => by rw [zak (hm b _ q fun z => z)]; exact q, fun b u xs q => by rw [zak (hm b _ q fun z => z)]; exact q, fun b ps q => ⟨#[], by rw [zak (hm b _ q fun z => z), q]; simp⟩⟩
 by_cases hbe : b = e
 ·subst hbe; exact heo
 ·exact ⟨u, k b u hbe q⟩
end
def trk (h : Heap) (H : Hp) : List Addr := (List.range h.objs.size).filter fun a => (H a).isSome
def zk6 (h : Heap) (H : Hp) : Heap := PySem.W.hideAll h (trk h H)
theorem zr3 (h : Heap) (H : Hp) : (zk6 h H).objs.size = h.objs.size := PySem.W.hideAll_size _ _
theorem ztb {h : Heap} {H : Hp} {b : Addr} {o : Obj} (e : h.get? b = some o) (n : H b = none) : (zk6 h H).get? b = some o :=
 PySem.W.hideAll_get _ e fun hm => by
  have q : (H b).isSome = true := (List.mem_filter.mp hm).2
  rw [n] at q; simp at q
theorem zvb {h : Heap} {H : Hp} {b : Addr} {o : Obj} (e : (zk6 h H).get? b = some o) : h.get? b = some o ∧ H b = none := by
 have e' : h.get? b = some o := PySem.W.of_hideAll (trk h H) e
 refine ⟨e', ?_⟩
 cases q : H b with
 | none => rfl
 | some x =>
  have hm : b ∈ trk h H := List.mem_filter.mpr ⟨List.mem_range.mpr (Heap.lt_size e'), by simp [q]⟩
  have z : (zk6 h H).get? b = none := PySem.W.hideAll_none (trk h H) hm
  rw [z] at e; cases e
end L2
namespace L2
open PySem PySem.Spec PyProof.Rows
structure Mod (K : PySem.W.Frag) (mg : Str → Option Value) (base : Heap) : Prop where
 kin : K.In base
 glob : base.Ns mainGlobals mg
 blt : ∃ mb, base.Ns builtinsNs mb ∧ ∀ x : Str, x ≠ "__name__" → mb x = bootBuiltins x
 nolimit : base.NoLimit
structure Cx where
 prog : Program
 w : World
 K : PySem.W.Frag
 mg : Str → Option Value
 base : Heap
 A : Around
 N : List Str
 s₀ : Shared
 H₀ : Hp
 env : Env
 outer : List Env
 stack : List Env
 ex : List Addr
 fn : Str → Bool
 calm : Bool
 pn : List (Addr × Obj)
 xe : Value → Shared → Prop
def frs (l : List Env) : List Addr := l.filterMap (·.frame)
abbrev Cx.fs (X : Cx) : List Addr := frs X.outer
def Vis (sc : Scope) (x : Str) : Prop := sc.names.lookup x = some .local ∨ sc.names.lookup x = some .cell ∨ sc.names.lookup x = some .free
def Loc (sc : Scope) (x : Str) : Prop := sc.names.lookup x = some .local ∨ sc.names.lookup x = some .cell
def zyu (env : Env) (h : Heap) (m : Str → Option Value) (x : Str) (u : Value) : Prop :=
 (env.kindOf x = some .local ∧ m x = some u) ∨ ((env.kindOf x = some .cell ∨ env.kindOf x = some .free) ∧ ∃ c, env.cells.lookup x = some c ∧ h.IsCell c (some u))
structure Cx.Ok (X : Cx) : Prop where
 mod : Mod X.K X.mg X.base
 kind : X.env.scope.kind = .function
 glob : X.env.globals = mainGlobals
 blt : X.env.builtins = builtinsNs
 above : X.s₀.heap.objs.size ≤ X.env.locals
 inj : ∀ x y c, X.env.cells.lookup x = some c → X.env.cells.lookup y = some c → x = y
 has : ∀ x, (X.env.kindOf x = some .cell ∨ X.env.kindOf x = some .free) → ∃ c, X.env.cells.lookup x = some c
 cab : ∀ x c, X.fn x = true → X.env.cells.lookup x = some c → X.s₀.heap.objs.size ≤ c
 hd : X.calm = true → X.A.handled = none
 frames : X.A.frames = some X.stack
 stk : X.stack = X.outer ∨ (X.stack = X.env :: X.outer ∧ X.env.frame = some X.env.locals)
 exf : ∀ b ∈ X.ex, b ≠ X.env.locals ∧ ∀ x c, X.env.cells.lookup x = some c → c ≠ b
 bs : ∀ b o, X.base.get? b = some o → X.s₀.heap.get? b = some o ∧ X.H₀ b = none
 bsz : X.base.objs.size ≤ X.s₀.heap.objs.size
 noex : ∀ b o, X.base.get? b = some o → b ∉ X.ex
 exfs : ∀ b ∈ X.ex, b ∉ X.fs
 funs : X.s₀.heap.FunFrames X.base X.outer
 frf : ∀ b ∈ X.fs, X.H₀ b = none
structure Inv (X : Cx) (pins : List (Addr × Obj)) (σ : List (Option V)) (H : Hp) (s : Shared) : Prop where
 ok : X.Ok
 os : s.os = X.s₀.os
 bare : AllBare s.gens
 base : Un X.fs X.ex X.H₀ H X.s₀.heap s.heap
 loc : ∃ m, s.heap.Ns X.env.locals m ∧ ∀ (i : Nat) (x : Str) (v : V), X.N[i]? = some x → σ[i]? = some (some v) → Vis X.env.scope x → ∃ u, RelV v u ∧ zyu X.env s.heap m x u
 cell : ∀ x c, X.env.cells.lookup x = some c → ∃ v, s.heap.IsCell c v
 free : H X.env.locals = none
 freeC : ∀ x c, X.env.cells.lookup x = some c → H c = none
 pin : ∀ p ∈ X.pn ++ pins, s.heap.get? p.1 = some p.2 ∧ H p.1 = none ∧ p.1 ≠ X.env.locals ∧ p.1 ∉ X.fs ∧ ∀ v, p.2.data ≠ .cell v
 hok : HOk X.prog X.w H s.heap
 len : σ.length = X.N.length
section
variable {X : Cx} {pins : List (Addr × Obj)} {σ : List (Option V)} {H H' : Hp} {s : Shared} {h' : Heap}
theorem Cx.Ok.nofr (ok : X.Ok) {b : Addr} {o : Obj} (e : X.base.get? b = some o) : b ∉ X.fs := fun hb => by
 have := (ok.funs.mem hb).1
 rw [e] at this; cases this
theorem Inv.bs (I : Inv X pins σ H s) : ∀ b o, X.base.get? b = some o → s.heap.get? b = some o ∧ H b = none := fun b o e =>
 ⟨I.base.keep b o (I.ok.bs b o e).1 (I.ok.bs b o e).2 (I.ok.nofr e) (I.ok.noex b o e), I.base.free b o (I.ok.bs b o e).1 (I.ok.bs b o e).2 (I.ok.noex b o e)⟩
theorem Inv.bk (I : Inv X pins σ H s) : ∀ b o, X.base.get? b = some o → s.heap.get? b = some o := fun b o e => (I.bs b o e).1
theorem Inv.mod (I : Inv X pins σ H s) : Mod X.K X.mg X.base := I.ok.mod
theorem Inv.kIn (I : Inv X pins σ H s) : X.K.In s.heap := I.ok.mod.kin.keeps I.bk
theorem Inv.lt (I : Inv X pins σ H s) : X.env.locals < s.heap.objs.size := let ⟨_, hn, _⟩ := I.loc; hn.lt
theorem Inv.sz (I : Inv X pins σ H s) : X.s₀.heap.objs.size ≤ s.heap.objs.size := Nat.le_trans I.ok.above (Nat.le_of_lt I.lt)
theorem Inv.nofs (I : Inv X pins σ H s) {a : Addr} (h : s.heap.objs.size ≤ a) : a ∉ X.fs := fun hb => by
 obtain ⟨_, o, ho, _⟩ := I.ok.funs.mem hb
 exact absurd (Nat.lt_of_lt_of_le (Heap.lt_size ho) (Nat.le_trans I.sz h)) (Nat.lt_irrefl _)
theorem Inv.cne (I : Inv X pins σ H s) : ∀ x c, X.env.cells.lookup x = some c → c ≠ X.env.locals := fun x c e z => by
 obtain ⟨v, o, ho, hd⟩ := I.cell x c e
 obtain ⟨m, ⟨o', es, ep, ho', hd', _⟩, _⟩ := I.loc
 rw [z, ho'] at ho; cases ho; rw [hd'] at hd; cases hd
theorem Inv.funs (I : Inv X pins σ H s) : s.heap.FunFrames X.base X.outer := by
 have all : ∀ (l : List Env), (∀ b ∈ frs l, b ∈ X.fs) → X.s₀.heap.FunFrames X.base l → s.heap.FunFrames X.base l := by
  intro l
  induction l with
  | nil => intro _ _; trivial
  | cons env r ih =>
   intro hs hl
   obtain ⟨hk, ⟨L, o, hf, hn, ho, hd⟩, hr⟩ := hl
   have hL : L ∈ X.fs := hs L (by unfold frs; rw [List.filterMap_cons, hf]; exact List.mem_cons_self)
   obtain ⟨sl, e⟩ := I.base.slot L o ho (I.ok.frf L hL) hL fun z => I.ok.exfs L z hL
   exact ⟨hk, ⟨L, _, hf, hn, e, hd⟩, ih (fun b hb => hs b (by unfold frs; rw [List.filterMap_cons, hf]; exact List.mem_cons_of_mem _ hb)) hr⟩
 exact all X.outer (fun _ hb => hb) I.ok.funs
theorem Inv.stack (I : Inv X pins σ H s) : s.heap.FunFrames X.base X.stack := by
 rcases I.ok.stk with e | ⟨e, hf⟩
 ·rw [e]; exact I.funs
 ·rw [e]
  obtain ⟨m, hn, _⟩ := I.loc
  refine .cons (by rw [I.ok.kind]; decide) hf hn ?_ I.funs
  exact Heap.get?_none_of_le (Nat.le_trans I.ok.bsz I.ok.above)
theorem Inv.stkSub (I : Inv X pins σ H s) : ∀ b ∈ frs X.stack, b ∈ X.env.locals :: X.fs := fun b hb => by
 rcases I.ok.stk with e | ⟨e, hf⟩
 ·rw [e] at hb; exact List.mem_cons_of_mem _ hb
 ·rw [e] at hb
  unfold frs at hb
  rw [List.filterMap_cons, hf] at hb
  exact hb
theorem Inv.stkFree (I : Inv X pins σ H s) : ∀ b ∈ frs X.stack, H b = none := fun b hb => by
 rcases List.mem_cons.mp (I.stkSub b hb) with e | hb
 ·rw [e]; exact I.free
 ·obtain ⟨_, o, ho, _⟩ := I.ok.funs.mem hb
  exact I.base.free b o ho (I.ok.frf b hb) fun z => I.ok.exfs b z hb
theorem Inv.step {g' : Array GenState} {t' : Nat} {d' : Drawn} {ch : List Addr} (I : Inv X pins σ H s)
  (hch : ∀ b ∈ ch, (b ∈ X.ex ∨ X.s₀.heap.objs.size ≤ b) ∧ b ≠ X.env.locals ∧ (∀ x c, X.env.cells.lookup x = some c → c ≠ b) ∧ ∀ p ∈ X.pn ++ pins, p.1 ≠ b)
  (keep : ∀ b o, b ≠ X.env.locals → b ∉ X.fs → b ∉ ch → s.heap.get? b = some o → H b = none → h'.get? b = some o)
  (slot : ∀ b o, b ≠ X.env.locals → b ∈ X.fs → b ∉ ch → s.heap.get? b = some o → H b = none → ∃ sl, h'.get? b = some { o with slots := sl }) (free : ∀ b o, b ∉ ch → s.heap.get? b = some o → H b = none → H' b = none)
  (there : ∀ b o, b ∉ ch → s.heap.get? b = some o → ∃ o', h'.get? b = some o')
  (tups : ∀ b xs, H b = some (.tup xs) → H' b = some (.tup xs)) (frzs : ∀ b o u, H b = some (.frz o u) → H' b = some (.frz o u)) (tbls : ∀ b ps, H b = some (.tbl ps) → ∃ more, H' b = some (.tbl (ps ++ more)))
  (ns : ∀ m, s.heap.Ns X.env.locals m → h'.Ns X.env.locals m) (hok : HOk X.prog X.w H' h') (hg : AllBare g') :
  Inv X pins σ H' { s with heap := h', gens := g', drawn := d', toks := t' } := by
 have neL : ∀ b o, X.s₀.heap.get? b = some o → b ≠ X.env.locals := fun b o e => Nat.ne_of_lt (Nat.lt_of_lt_of_le (Heap.lt_size e) I.ok.above)
 have neC : ∀ b o, X.s₀.heap.get? b = some o → b ∉ X.ex → b ∉ ch := fun b o e hx hb => by
  rcases (hch b hb).1 with z | z
  ·exact hx z
  ·exact absurd (Nat.lt_of_lt_of_le (Heap.lt_size e) z) (Nat.lt_irrefl _)
 have cellK : ∀ x c, X.env.cells.lookup x = some c → ∀ v, s.heap.IsCell c v → h'.IsCell c v := fun x c e v ⟨o, ho, hd⟩ => by
  have nch : c ∉ ch := fun z => (hch c z).2.2.1 x c e rfl
  by_cases hc : c ∈ X.fs
  ·obtain ⟨sl, q⟩ := slot c o (I.cne x c e) hc nch ho (I.freeC x c e)
   exact ⟨_, q, hd⟩
  ·exact ⟨o, keep c o (I.cne x c e) hc nch ho (I.freeC x c e), hd⟩
 refine ⟨I.ok, I.os, hg, ⟨fun b o e n hb hx => ?_, fun b o e n hb hx => ?_, fun b o e n hx => ?_, fun b o e hx => ?_, fun b xs e => tups b xs (I.base.tups b xs e), fun b o xs e => frzs b o xs (I.base.frzs b o xs e), fun b ps e => ?_⟩, ?_, fun x c e => ?_, ?_, fun x c e => ?_, fun p hp => ?_, hok, I.len⟩
 ·exact keep b o (neL b o e) hb (neC b o e hx) (I.base.keep b o e n hb hx) (I.base.free b o e n hx)
 ·obtain ⟨sl, e1⟩ := I.base.slot b o e n hb hx
  obtain ⟨sl', e2⟩ := slot b _ (neL b o e) hb (neC b o e hx) e1 (I.base.free b o e n hx)
  exact ⟨sl', e2⟩
 ·obtain ⟨o', e1⟩ := I.base.there b o e hx
  exact free b o' (neC b o e hx) e1 (I.base.free b o e n hx)
 ·obtain ⟨o', e1⟩ := I.base.there b o e hx
  exact there b o' (neC b o e hx) e1
 ·obtain ⟨m1, e1⟩ := I.base.tbls b ps e
  obtain ⟨m2, e2⟩ := tbls b _ e1
  exact ⟨m1 ++ m2, by rw [e2, Array.append_assoc]⟩
 ·obtain ⟨m, hn, hl⟩ := I.loc
  refine ⟨m, ns m hn, fun i x v e1 e2 e3 => ?_⟩
  obtain ⟨u, r, l⟩ := hl i x v e1 e2 e3
  refine ⟨u, r, ?_⟩
  rcases l with l | ⟨k, c, e, z⟩
  ·exact .inl l
  ·exact .inr ⟨k, c, e, cellK x c e _ z⟩
 ·obtain ⟨v, z⟩ := I.cell x c e
  exact ⟨v, cellK x c e v z⟩
 ·obtain ⟨m, ⟨o, _, _, ho, _⟩, _⟩ := I.loc
  exact free _ o (fun z => (hch _ z).2.1 rfl) ho I.free
 ·obtain ⟨v, o, ho, hd⟩ := I.cell x c e
  exact free c o (fun z => (hch c z).2.2.1 x c e rfl) ho (I.freeC x c e)
 ·obtain ⟨e, n, ne, nf, d⟩ := I.pin p hp
  have nch : p.1 ∉ ch := fun z => (hch p.1 z).2.2.2 p hp rfl
  exact ⟨keep p.1 p.2 ne nf nch e n, free p.1 p.2 nch e n, ne, nf, d⟩
theorem Inv.un {t' : Nat} (I : Inv X pins σ H s) (u : Un X.fs [] H H' s.heap h') (hok : HOk X.prog X.w H' h') : Inv X pins σ H' { s with heap := h', toks := t' } := by
 obtain ⟨m, ⟨o, es, ep, ho, r⟩, _⟩ := id I.loc
 obtain ⟨sl, hL⟩ := u.any ho I.free (by simp)
 exact I.step (g' := s.gens) (d' := s.drawn) (ch := []) (fun _ z => nomatch z) (fun b o _ hb _ e n => u.keep b o e n hb (by simp)) (fun b o _ hb _ e n => u.slot b o e n hb (by simp)) (fun b o _ e n => u.free b o e n (by simp)) (fun b o _ e => u.there b o e (by simp)) u.tups u.frzs u.tbls (fun m' hm => by
  obtain ⟨o', es', ep', ho', r'⟩ := hm
  rw [ho] at ho'; cases ho'
  exact ⟨_, es', ep', hL, r'⟩) hok I.bare
theorem Inv.call {g' : Array GenState} {t' : Nat} {d' : Drawn} {ch : List Addr} (I : Inv X pins σ H s) (u : Un (frs X.stack) ch H H' s.heap h') (hok : HOk X.prog X.w H' h') (hg : AllBare g')
  (hch : ∀ b ∈ ch, (b ∈ X.ex ∨ X.s₀.heap.objs.size ≤ b) ∧ b ≠ X.env.locals ∧ (∀ x c, X.env.cells.lookup x = some c → c ≠ b) ∧ ∀ p ∈ X.pn ++ pins, p.1 ≠ b) :
  Inv X pins σ H' { s with heap := h', gens := g', drawn := d', toks := t' } := by
 obtain ⟨m, ⟨o, es, ep, ho, r⟩, _⟩ := id I.loc
 obtain ⟨sl, hL⟩ := u.any ho I.free fun z => (hch _ z).2.1 rfl
 exact I.step (ch := ch) hch (fun b o hL hb hc e n => u.keep b o e n (fun z => (List.mem_cons.mp (I.stkSub b z)).elim hL hb) hc) (fun b o _ _ hc e n => u.any e n hc) (fun b o hc e n => u.free b o e n hc) (fun b o hc e => u.there b o e hc) u.tups u.frzs u.tbls (fun m' hm => by
  obtain ⟨o', es', ep', ho', r'⟩ := hm
  rw [ho] at ho'; cases ho'
  exact ⟨_, es', ep', hL, r'⟩) hok hg
theorem Inv.turned {t' : Nat} {it : Addr} (I : Inv X pins σ H s) (k : ∀ b o, b ≠ it → s.heap.get? b = some o → h'.get? b = some o) (hn : H it = none) (hL : it ≠ X.env.locals)
  (h1 : it ∈ X.ex ∨ X.s₀.heap.objs.size ≤ it) (h2 : ∀ x c, X.env.cells.lookup x = some c → c ≠ it) (h3 : ∀ p ∈ X.pn ++ pins, p.1 ≠ it) : Inv X pins σ H { s with heap := h', toks := t' } := by
 have nit : ∀ b u, H b = some u → b ≠ it := fun b u e z => by rw [z, hn] at e; cases e
 refine I.step (g' := s.gens) (d' := s.drawn) (ch := [it]) (fun b hb => ?_) (fun b o _ _ hc e _ => k b o (fun z => hc (by simp [z])) e) (fun b o _ _ hc e _ => ⟨o.slots, k b o (fun z => hc (by simp [z])) e⟩) (fun _ _ _ _ n => n)
  (fun b o hc e => ⟨o, k b o (fun z => hc (by simp [z])) e⟩) (fun _ _ e => e) (fun _ _ _ e => e) (fun b ps e => ⟨#[], by rw [e]; simp⟩) (fun m hm => ?_) (fun b u e => ?_) I.bare
 ·have e : b = it := by simpa using hb
  subst e
  exact ⟨h1, hL, h2, h3⟩
 ·obtain ⟨o, es, ep, ho, r⟩ := hm
  exact ⟨o, es, ep, k _ o (Ne.symm hL) ho, r⟩
 ·refine (I.hok b u e).stay (fun c v hc q => k c v ?_ q) (fun _ q => q) fun _ _ q => q
  rcases hc with z | z
  ·rw [z]; exact nit b u e
  ·exact nit c _ z
theorem Inv.tok (I : Inv X pins σ H s) (t : Nat) : Inv X pins σ H { s with toks := t } := I.un (h' := s.heap) (t' := t) Un.refl I.hok
theorem Inv.kept {t' : Nat} (I : Inv X pins σ H s) (k : ∀ b u, s.heap.get? b = some u → h'.get? b = some u) : Inv X pins σ H { s with heap := h', toks := t' } := I.un (Un.kept k) (I.hok.kept k)
theorem Inv.laid {a : Addr} {o : HO} {t' : Nat} (I : Inv X pins σ H s) (k : ∀ b u, s.heap.get? b = some u → h'.get? b = some u) (hp : s.heap.objs.size ≤ a) (new : ObjOk X.prog X.w (upd H a o) h' a o) :
  Inv X pins σ (upd H a o) { s with heap := h', toks := t' } := I.un (Un.laid k hp (I.hok.fresh hp)) (I.hok.laid k hp new)
theorem Inv.write {x e : Addr} {o : HO} {t' : Nat} (I : Inv X pins σ H s) (mu : Mut (H x)) (he : e = x ∨ H e = some (.own x)) (k : ∀ b u, b ≠ e → s.heap.get? b = some u → h'.get? b = some u) (heo : ∃ u, h'.get? e = some u)
  (new : ObjOk X.prog X.w (upd H x o) h' x o) : Inv X pins σ (upd H x o) { s with heap := h', toks := t' } := I.un (Un.write mu he k heo) (I.hok.write mu he k heo new)
theorem Inv.pins_of {pins' : List (Addr × Obj)} (I : Inv X pins σ H s) (h : ∀ p ∈ pins', s.heap.get? p.1 = some p.2 ∧ H p.1 = none ∧ p.1 ≠ X.env.locals ∧ p.1 ∉ X.fs ∧ ∀ v, p.2.data ≠ .cell v) : Inv X pins' σ H s :=
 ⟨I.ok, I.os, I.bare, I.base, I.loc, I.cell, I.free, I.freeC, fun p hp => (List.mem_append.mp hp).elim (fun z => I.pin p (List.mem_append_left _ z)) (h p), I.hok, I.len⟩
theorem znu {N : List Str} (hN : N.Nodup) {i j : Nat} {x : Str} (a : N[i]? = some x) (b : N[j]? = some x) : i = j := by
 obtain ⟨h1, e1⟩ := List.getElem?_eq_some_iff.mp a
 obtain ⟨h2, e2⟩ := List.getElem?_eq_some_iff.mp b
 exact (List.getElem_inj hN).mp (e1.trans e2.symm)
theorem zrf {M : Model} {A : Around} {E : Value → Shared → Prop} {i : Nat} {x : Str} {v : V} {u : Value} {Q : Unit → Shared → Prop} (I : Inv X pins σ H s) (hN : X.N.Nodup) (hi : X.N[i]? = some x) (hx : Loc X.env.scope x) (r : RelV v u)
  (h : ∀ s', Inv X pins (σ.set i (some v)) H s' → (∃ a, Heap.SameBut a s.heap s'.heap ∧ (a = X.env.locals ∨ X.env.cells.lookup x = some a)) → Q () s') (hf : X.fn x = true ∨ X.env.scope.names.lookup x = some .local := by first | exact .inl rfl | exact .inr rfl | assumption) : wpAny M A (storeName X.env x u) Q E s := by
 obtain ⟨m, hn, hl⟩ := id I.loc
 have hcls : (X.env.scope.kind == .class || (X.env.scope.kind == .module && X.env.locals != X.env.globals)) = false := by rw [I.ok.kind]; rfl
 have hiσ : i < σ.length := by rw [I.len]; exact (List.getElem?_eq_some_iff.mp hi).1
 have cne := I.cne
 have tracked : ∀ {a : Addr} {h' : Heap}, (∃ o, s.heap.get? a = some o ∧ H a = none) → Heap.SameBut a s.heap h' → HOk X.prog X.w H h' := fun {a h'} ha hs b ob e => by
  obtain ⟨_, _, hfree⟩ := ha
  refine (I.hok b ob e).stay (fun c w' hc q => (hs.2 c ?_).trans q) (fun _ q => q) fun _ _ q => q
  rintro rfl
  rcases hc with rfl | hc
  ·rw [hfree] at e; cases e
  ·rw [hfree] at hc; cases hc
 rcases hx with hk | hk
 ·refine wpAny_storeName_local hk hn (fun h' hn' hs => ?_) hcls
  obtain ⟨oL, _, _, hoL, _⟩ := id hn
  refine h _ ⟨I.ok, I.os, I.bare, ⟨fun b o e n hb hx => ?_, fun b o e n hb hx => ?_, I.base.free, fun b o e hx => ?_, I.base.tups, I.base.frzs, I.base.tbls⟩, ⟨_, hn', fun j y v' e1 e2 e3 => ?_⟩, fun y c e => ?_, I.free, I.freeC, fun p hp => ?_, tracked ⟨oL, hoL, I.free⟩ hs, by simpa using I.len⟩ ⟨_, hs, .inl rfl⟩
  ·exact (hs.2 b (Nat.ne_of_lt (Nat.lt_of_lt_of_le (Heap.lt_size e) I.ok.above))).trans (I.base.keep b o e n hb hx)
  ·obtain ⟨sl, e1⟩ := I.base.slot b o e n hb hx
   exact ⟨sl, (hs.2 b (Nat.ne_of_lt (Nat.lt_of_lt_of_le (Heap.lt_size e) I.ok.above))).trans e1⟩
  ·obtain ⟨o', e1⟩ := I.base.there b o e hx
   exact ⟨o', (hs.2 b (Nat.ne_of_lt (Nat.lt_of_lt_of_le (Heap.lt_size e) I.ok.above))).trans e1⟩
  ·by_cases hj : j = i
   ·subst hj
    rw [hi] at e1; cases e1
    rw [List.getElem?_set_self hiσ] at e2
    cases e2
    exact ⟨u, r, .inl ⟨hk, by simp⟩⟩
   ·rw [List.getElem?_set_ne (Ne.symm hj)] at e2
    obtain ⟨u', r', q⟩ := hl j y v' e1 e2 e3
    refine ⟨u', r', ?_⟩
    rcases q with ⟨k, e⟩ | ⟨k, c, e, z⟩
    ·refine .inl ⟨k, ?_⟩
     have : y ≠ x := fun e => hj (znu hN e1 (e ▸ hi))
     simp [this, e]
    ·exact .inr ⟨k, c, e, z.sameBut hs (cne y c e)⟩
  ·obtain ⟨w', z⟩ := I.cell y c e
   exact ⟨w', z.sameBut hs (cne y c e)⟩
  ·obtain ⟨e, n, ne, nf, d⟩ := I.pin p hp
   exact ⟨(hs.2 p.1 ne).trans e, n, ne, nf, d⟩
 ·have hfn : X.fn x = true := by
   rcases hf with z | z
   ·exact z
   ·rw [z] at hk; cases hk
  obtain ⟨c, hc⟩ := I.ok.has x (.inl hk)
  obtain ⟨w', z⟩ := I.cell x c hc
  refine wpAny_storeName_cell I.ok.kind hk hc z (fun h' hc' hs => ?_)
  obtain ⟨oc, hoc, hocd⟩ := id z
  refine h { s with heap := h' } ⟨I.ok, I.os, I.bare, ⟨fun b o e n hb hx => ?_, fun b o e n hb hx => ?_, I.base.free, fun b o e hx => ?_, I.base.tups, I.base.frzs, I.base.tbls⟩, ⟨m, hn.sameBut hs (Ne.symm (cne x c hc)), fun j y v' e1 e2 e3 => ?_⟩, fun y c' e => ?_, I.free, I.freeC, fun p hp => ?_, tracked ⟨oc, hoc, I.freeC x c hc⟩ hs, by simpa using I.len⟩ ⟨c, hs, .inr hc⟩
  ·exact (hs.2 b (Nat.ne_of_lt (Nat.lt_of_lt_of_le (Heap.lt_size e) (I.ok.cab x c hfn hc)))).trans (I.base.keep b o e n hb hx)
  ·obtain ⟨sl, e1⟩ := I.base.slot b o e n hb hx
   exact ⟨sl, (hs.2 b (Nat.ne_of_lt (Nat.lt_of_lt_of_le (Heap.lt_size e) (I.ok.cab x c hfn hc)))).trans e1⟩
  ·obtain ⟨o', e1⟩ := I.base.there b o e hx
   exact ⟨o', (hs.2 b (Nat.ne_of_lt (Nat.lt_of_lt_of_le (Heap.lt_size e) (I.ok.cab x c hfn hc)))).trans e1⟩
  ·by_cases hj : j = i
   ·subst hj
    rw [hi] at e1; cases e1
    rw [List.getElem?_set_self hiσ] at e2
    cases e2
    exact ⟨u, r, .inr ⟨.inl hk, c, hc, hc'⟩⟩
   ·rw [List.getElem?_set_ne (Ne.symm hj)] at e2
    obtain ⟨u', r', q⟩ := hl j y v' e1 e2 e3
    refine ⟨u', r', ?_⟩
    rcases q with q | ⟨k, c', e, z'⟩
    ·exact .inl q
    ·refine .inr ⟨k, c', e, z'.sameBut hs ?_⟩
     rintro rfl
     exact hj (znu hN e1 (I.ok.inj _ _ _ e hc ▸ hi))
  ·by_cases hcc : c' = c
   ·subst hcc; exact ⟨_, hc'⟩
   ·obtain ⟨w2, z2⟩ := I.cell y c' e
    exact ⟨w2, z2.sameBut hs hcc⟩
  ·obtain ⟨e, n, ne, nf, d⟩ := I.pin p hp
   refine ⟨(hs.2 p.1 ?_).trans e, n, ne, nf, d⟩
   intro q
   rw [q, hoc] at e
   have q' : oc = p.2 := Option.some.inj e
   exact d w' (by rw [← q']; exact hocd)
theorem znv {M : Model} {A : Around} {E : Value → Shared → Prop} {i : Nat} {x : Str} {v : V} {u : Value} {Q : Unit → Shared → Prop} (I : Inv X pins σ H s) (hN : X.N.Nodup) (hi : X.N[i]? = some x) (hx : Loc X.env.scope x) (r : RelV v u)
  (h : ∀ s', Inv X pins (σ.set i (some v)) H s' → Q () s') (hf : X.fn x = true ∨ X.env.scope.names.lookup x = some .local := by first | exact .inl rfl | exact .inr rfl | assumption) : wpAny M A (storeName X.env x u) Q E s :=
 zrf I hN hi hx r (fun s' I' _ => h s' I') hf
theorem Inv.call' {s' : Shared} {ch : List Addr} (I : Inv X pins σ H s) (ho : s'.os = s.os) (u : Un (frs X.stack) ch H H' s.heap s'.heap) (hok : HOk X.prog X.w H' s'.heap) (hg : AllBare s'.gens)
  (hch : ∀ b ∈ ch, (b ∈ X.ex ∨ X.s₀.heap.objs.size ≤ b) ∧ b ≠ X.env.locals ∧ (∀ x c, X.env.cells.lookup x = some c → c ≠ b) ∧ ∀ p ∈ X.pn ++ pins, p.1 ≠ b) : Inv X pins σ H' s' := by
 obtain ⟨h', g', d', t', o'⟩ := s'
 have e : o' = s.os := ho
 subst e
 exact I.call (g' := g') (t' := t') (d' := d') u hok hg hch
end
abbrev XK := Value → Option Addr → Hp → Prop
abbrev St := List (Option V)
abbrev VK := V → Hp → Prop
abbrev TE := St → Hp → VK → Prop
abbrev TT := St → Hp → (Bool → Hp → Prop) → Prop
abbrev TA := St → Hp → (List V → Hp → Prop) → Prop
structure zh7 where
 nx : St → Hp → Prop
 rt : VK
 bk : St → Hp → Prop := fun _ _ => False
 ct : St → Hp → Prop := fun _ _ => False
abbrev TS := zh7 → St → Hp → Prop
def EP (X : Cx) (pins : List (Addr × Obj)) (σ : St) (Q : VK) (u : Value) (s' : Shared) : Prop := ∃ v H', Inv X pins σ H' s' ∧ RelV v u ∧ Q v H'
def TP (X : Cx) (pins : List (Addr × Obj)) (σ : St) (Q : Bool → Hp → Prop) (b : Bool) (s' : Shared) : Prop := ∃ H', Inv X pins σ H' s' ∧ Q b H'
def AP (X : Cx) (pins : List (Addr × Obj)) (σ : St) (Q : List V → Hp → Prop) (us : List Value) (s' : Shared) : Prop := ∃ vs H', Inv X pins σ H' s' ∧ Vals vs us ∧ Q vs H'
def SP (X : Cx) (pins : List (Addr × Obj)) (D : zh7) (f : Flow) (s' : Shared) : Prop :=
 match f with
 | .next => ∃ σ' H', Inv X pins σ' H' s' ∧ D.nx σ' H'
 | .brk => ∃ σ' H', Inv X pins σ' H' s' ∧ D.bk σ' H'
 | .cont => ∃ σ' H', Inv X pins σ' H' s' ∧ D.ct σ' H'
 | .ret u => ∃ v σ' H', Inv X pins σ' H' s' ∧ RelV v u ∧ D.rt v H'
def PE (X : Cx) (e : Expr) (t : TE) : Prop :=
 ∀ (pins : List (Addr × Obj)) (s : Shared) (σ : St) (H : Hp) (Q : VK), Inv X pins σ H s → t σ H Q → wpAny (model X.prog X.w) X.A (eval e X.env) (EP X pins σ Q) X.xe s
def PT (X : Cx) (e : Expr) (t : TT) : Prop :=
 ∀ (pins : List (Addr × Obj)) (s : Shared) (σ : St) (H : Hp) (Q : Bool → Hp → Prop), Inv X pins σ H s → t σ H Q → wpAny (model X.prog X.w) X.A (isTrue e X.env (eval e X.env)) (TP X pins σ Q) X.xe s
def PW (X : Cx) (e : Expr) (t : TT) : Prop :=
 ∀ (whole : Sem Value) (pins : List (Addr × Obj)) (s : Shared) (σ : St) (H : Hp) (Q : Bool → Hp → Prop), Inv X pins σ H s → t σ H Q → wpAny (model X.prog X.w) X.A (isTrue e X.env whole) (TP X pins σ Q) X.xe s
theorem PW.pt {X : Cx} {e : Expr} {t : TT} (h : PW X e t) : PT X e t := h _
def PA (X : Cx) (es : List Expr) (t : TA) : Prop :=
 ∀ (pos : Pos) (pins : List (Addr × Obj)) (s : Shared) (σ : St) (H : Hp) (Q : List V → Hp → Prop), Inv X pins σ H s → t σ H Q → wpAny (model X.prog X.w) X.A (spliced (backTo pos (starEach es X.env))) (AP X pins σ Q) X.xe s
def PS (X : Cx) (st : Stmt) (t : TS) : Prop :=
 ∀ (pins : List (Addr × Obj)) (s : Shared) (σ : St) (H : Hp) (D : zh7), Inv X pins σ H s → t D σ H → wpAny (model X.prog X.w) X.A (exec st X.env) (SP X pins D) X.xe s
def PSs (X : Cx) (st : List Stmt) (t : TS) : Prop :=
 ∀ (pins : List (Addr × Obj)) (s : Shared) (σ : St) (H : Hp) (D : zh7), Inv X pins σ H s → t D σ H → wpAny (model X.prog X.w) X.A (execs st X.env) (SP X pins D) X.xe s
theorem thn {α : Type} {t : Sem α} {Q Q' : α → Shared → Prop} {M : Model} {A : Around} {E : Value → Shared → Prop} {s : Shared} (h : wpAny M A t Q E s) (hQ : ∀ a s, Q a s → Q' a s) : wpAny M A t Q' E s := wpAny_mono h hQ fun _ _ x => x
end L2
namespace L2
open PySem PySem.Spec PyProof.Rows
section
variable {X : Cx}
def zuv (i : Nat) : TE := fun σ H Q => ∃ v, σ[i]? = some (some v) ∧ Q v H
def tC (v : V) : TE := fun _ H Q => Q v H
theorem zsl {i : Nat} {x : Str} {pos : Pos} (hN : X.N[i]? = some x) (hv : Vis X.env.scope x) (hd : (x == ("__debug__" : Str)) = false := by decide) (hcd : (x == ("__classdict__" : Str)) = false := by decide) : PE X (.Name x pos) (zuv i) := by
 intro pins s σ H Q I h
 obtain ⟨v, e, h⟩ := h
 obtain ⟨m, hn, hl⟩ := I.loc
 obtain ⟨u, r, l⟩ := hl i x v hN e hv
 have fin : EP X pins σ Q u s := ⟨v, H, I, r, h⟩
 rcases l with ⟨hk, hm⟩ | ⟨hk, c, hc, hcell⟩
 ·exact wpAny_Name (wpAny_loadName_local I.ok.kind hk hn hm fin) hd
 ·rcases hk with hk | hk
  ·exact wpAny_Name (wpAny_loadName_cell I.ok.kind hk hc hcell fin) hd
  ·exact wpAny_Name (wpAny_loadName_free I.ok.kind hk hc hcell fin hcd) hd
theorem zaf {i j pos} : PE X (.Constant (.int i) j pos) (tC (.int i)) := fun _ _ _ H _ I h => wpAny_Constant_int ⟨.int i, H, I.tok _, ⟨_, rfl⟩, h⟩
theorem zjt {b j pos} : PE X (.Constant (.bool b) j pos) (tC (.bl b)) := fun _ _ _ H _ I h => Constant_bool ⟨.bl b, H, I, rfl, h⟩
theorem zc1 {j pos} : PE X (.Constant .none j pos) (tC .non) := fun _ _ _ H _ I h => Constant_none ⟨.non, H, I, rfl, h⟩
theorem zc0 {x j pos} : PE X (.Constant (.str x) j pos) (tC (.str x)) := fun _ _ _ H _ I h => Calls.Constant_str ⟨.str x, H, I.tok _, ⟨_, rfl⟩, h⟩
def Gl (X : Cx) (x : Str) : Prop := X.env.kindOf x = some .globalImplicit
theorem zmr {E : Value → Shared → Prop} {pins : List (Addr × Obj)} {s : Shared} {σ : St} {H : Hp} {x : Str} {u : Value} {pos : Pos} {Q : Value → Shared → Prop} (I : Inv X pins σ H s) (hg : Gl X x) (hm : X.mg x = some u) (h : Q u s)
  (hd : (x == ("__debug__" : Str)) = false := by decide) : wpAny (model X.prog X.w) X.A (eval (.Name x pos) X.env) Q E s :=
 Calls.Name_function_global I.ok.kind hg (Calls.loadGlobal_global (by rw [I.ok.glob]; exact I.mod.glob.keeps I.bk) hm h) hd
theorem zii {E : Value → Shared → Prop} {pins : List (Addr × Obj)} {s : Shared} {σ : St} {H : Hp} {x : Str} {u : Value} {pos : Pos} {Q : Value → Shared → Prop} (I : Inv X pins σ H s) (hg : Gl X x) (hm : X.mg x = none) (hv : bootBuiltins x = some u) (h : Q u s)
  (hn : x ≠ "__name__" := by decide) (hd : (x == ("__debug__" : Str)) = false := by decide) : wpAny (model X.prog X.w) X.A (eval (.Name x pos) X.env) Q E s := by
 obtain ⟨mb, h1, h2⟩ := I.mod.blt
 exact Calls.Name_function_global I.ok.kind hg (Calls.loadGlobal_builtin (by rw [I.ok.glob]; exact I.mod.glob.keeps I.bk) hm (by rw [I.ok.blt]; exact h1.keeps I.bk) ((h2 x hn).trans hv) h) hd
theorem zqe {x : Str} {v : V} {u : Value} {pos : Pos} (hg : Gl X x) (hm : X.mg x = none) (hv : bootBuiltins x = some u) (r : RelV v u) (hn : x ≠ "__name__" := by decide) (hd : (x == ("__debug__" : Str)) = false := by decide) : PE X (.Name x pos) (tC v) :=
 fun _ _ _ H _ I h => zii I hg hm hv ⟨v, H, I, r, h⟩ hn hd
variable {a b : Expr} {ta tb : TE} {pos : Pos}
def tB (t : TE) : TT := fun σ H Q => t σ H fun x H1 => ∃ c, x = .bl c ∧ Q c H1
theorem zcf {e : Expr} {t : TE} (h : PE X e t) (he : ∀ whole, isTrue e X.env whole = (do let v ← whole; standAt e.pos; holding [v] (truthy v)) := by intro _; rfl) : PT X e (tB t) := by
 intro pins s σ H Q I hw
 refine isTrue_plain (thn (h pins s σ H _ I hw) fun v s1 ⟨x, H1, I1, r1, q1⟩ => ?_) (he _)
 obtain ⟨d, rfl, q⟩ := q1
 cases r1
 exact wpAny_truthy_bool ⟨H1, I1, q⟩
variable {tA tB' : TT} {rest : List Expr}
def zy5 (t u : TT) : TT := fun σ H Q => t σ H fun c H1 => if c = true then u σ H1 Q else Q false H1
def tOr (t u : TT) : TT := fun σ H Q => t σ H fun c H1 => if c = true then Q true H1 else u σ H1 Q
def zyx (t : TT) : TT := fun σ H Q => t σ H fun c H1 => Q (!c) H1
theorem zfc (ha : PT X a tA) : PW X (.BoolOp .And [a] pos) tA := by
 intro wh pins s σ H Q I h
 refine isTrue_and (thn (ha pins s σ H Q I h) fun c s1 e => ?_)
 cases c with
 | true => exact isTrue_and_nil e
 | false => exact e
theorem zo3 (ha : PT X a tA) : PW X (.BoolOp .Or [a] pos) tA := by
 intro wh pins s σ H Q I h
 refine isTrue_or (thn (ha pins s σ H Q I h) fun c s1 e => ?_)
 cases c with
 | false => exact isTrue_or_nil e
 | true => exact e
theorem zfu (ha : PT X a tA) (hb : PW X (.BoolOp .And (b :: rest) pos) tB') : PW X (.BoolOp .And (a :: b :: rest) pos) (zy5 tA tB') := by
 intro wh pins s σ H Q I h
 refine isTrue_and (thn (ha pins s σ H _ I h) fun c s1 ⟨H1, I1, q1⟩ => ?_)
 cases c with
 | true => exact hb wh pins s1 σ H1 Q I1 q1
 | false => exact ⟨H1, I1, q1⟩
theorem zsy (ha : PT X a tA) (hb : PW X (.BoolOp .Or (b :: rest) pos) tB') : PW X (.BoolOp .Or (a :: b :: rest) pos) (tOr tA tB') := by
 intro wh pins s σ H Q I h
 refine isTrue_or (thn (ha pins s σ H _ I h) fun c s1 ⟨H1, I1, q1⟩ => ?_)
 cases c with
 | true => exact ⟨H1, I1, q1⟩
 | false => exact hb wh pins s1 σ H1 Q I1 q1
theorem zf1 (ha : PT X a tA) : PT X (.UnaryOp .Not a pos) (zyx tA) := by
 intro pins s σ H Q I h
 exact isTrue_not (ha pins s σ H (fun c H1 => Q (!c) H1) I h)
def zxq (ta tb : TE) : TE := fun σ H Q => ta σ H fun x H1 => ∃ c, x = .bl c ∧ if c = true then tb σ H1 Q else Q (.bl false) H1
def zx3 (ta : TE) : TE := fun σ H Q => ta σ H fun x H1 => ∃ c, x = .bl c ∧ Q (.bl (!c)) H1
theorem zh9 {op} {t : TE} (h : PE X a t) : PE X (.BoolOp op [a] pos) t := fun pins s σ H Q I hw => BoolOp_one (h pins s σ H Q I hw)
theorem zg1 (ha : PE X a ta) (hb : PE X (.BoolOp .And (b :: rest) pos) tb) : PE X (.BoolOp .And (a :: b :: rest) pos) (zxq ta tb) := by
 intro pins s σ H Q I h
 refine BoolOp_and (thn (ha pins s σ H _ I h) fun v s1 ⟨x, H1, I1, r1, q1⟩ => ?_)
 obtain ⟨c, rfl, q1⟩ := q1
 cases r1
 refine wpAny_truthy_bool ?_
 cases c with
 | true => exact hb pins s1 σ H1 Q I1 q1
 | false => exact ⟨.bl false, H1, I1, rfl, q1⟩
theorem zhv (ha : PE X a ta) : PE X (.UnaryOp .Not a pos) (zx3 ta) := by
 intro pins s σ H Q I h
 refine UnaryOp_ (thn (ha pins s σ H _ I h) fun v s1 ⟨x, H1, I1, r1, q1⟩ => ?_)
 obtain ⟨c, rfl, q1⟩ := q1
 cases r1
 exact not_of (wpAny_truthy_bool ⟨.bl (!c), H1, I1, rfl, q1⟩)
end
end L2
namespace L2
open PySem PySem.Spec PyProof.Rows
def SqL (K : PySem.W.Frag) (H : Hp) (a : Addr) (xs : List V) : Prop :=
 Rd H a (.lst xs) ∨
  ∃ (o : Obj) (its : Array Value) (n : Nat), K.lookup a = some o ∧ o.cls = .type "list" ∧ o.dict = none ∧ o.data = .seq its n ∧ its.size ≤ sizeLine ∧ Vals xs its.toList
def SqT (K : PySem.W.Frag) (H : Hp) (a : Addr) (xs : List V) : Prop :=
 Rd H a (.tup xs) ∨
  ∃ (o : Obj) (its : Array Value) (n : Nat), K.lookup a = some o ∧ o.cls = .type "tuple" ∧ o.data = .seq its n ∧ its.size ≤ sizeLine ∧ Vals xs its.toList
def zyy : Value → Option V
 | .none => some .non
 | .bool b => some (.bl b)
 | .int i _ => some (.int i)
 | .str x _ => some (.str x)
 | .bytes b _ => some (.byt b)
 | .float b _ => some (.flt b)
 | .ref a => some (.ref a)
 | .type n => some (.ty n)
 | _ => none
theorem RelV.abs {x : V} {u : Value} (r : RelV x u) : zyy u = some x := by
 cases x with
 | non => cases r; rfl
 | bl _ => cases r; rfl
 | int _ => obtain ⟨t, rfl⟩ := r; rfl
 | str _ => obtain ⟨t, rfl⟩ := r; rfl
 | byt _ => obtain ⟨t, rfl⟩ := r; rfl
 | flt _ => obtain ⟨t, rfl⟩ := r; rfl
 | ref _ => cases r; rfl
 | ty _ => cases r; rfl
theorem RelV.inj {x y : V} {u : Value} (r : RelV x u) (q : RelV y u) : x = y := Option.some.inj (r.abs.symm.trans q.abs)
theorem Vals.inj : ∀ {xs ys : List V} {us : List Value}, Vals xs us → Vals ys us → xs = ys
 | _, _, _, .nil, .nil => rfl
 | _, _, _, .cons r t, .cons r' t' => by rw [r.inj r', Vals.inj t t']
section
variable {X : Cx} {pins : List (Addr × Obj)} {σ : St} {H : Hp} {s : Shared} {a : Addr} {xs ys : List V}
theorem SqL.of {K : PySem.W.Frag} (h : H a = some (.lst xs)) : SqL K H a xs := .inl (.inl h)
theorem Inv.list (I : Inv X pins σ H s) (h : SqL X.K H a xs) : ∃ its : List Value, Vals xs its ∧ PlainL s.heap a its.toArray ∧ xs.length ≤ sizeLine := by
 rcases h with h | ⟨o, its, n, hk, hc, hd, hs, hz, r⟩
 ·obtain ⟨z, its, n, r, e⟩ := h.ok I.hok
  exact ⟨its, r, ⟨_, n, e, rfl, rfl, rfl⟩, z⟩
 ·refine ⟨its.toList, r, ⟨o, n, I.kIn a o hk, hc, hd, by simpa using hs⟩, ?_⟩
  have e := r.length
  simp only [Array.length_toList] at e
  omega
theorem Inv.tuple (I : Inv X pins σ H s) (h : SqT X.K H a xs) : ∃ its : List Value, Vals xs its ∧ IsTup s.heap a its.toArray ∧ xs.length ≤ sizeLine := by
 rcases h with h | ⟨o, its, n, hk, hc, hs, hz, r⟩
 ·obtain ⟨z, its, r, p⟩ := h.ok I.hok
  exact ⟨its, r, p, z⟩
 ·refine ⟨its.toList, r, ⟨o, I.kIn a o hk, hc, n, by simpa using hs⟩, ?_⟩
  have e := r.length
  simp only [Array.length_toList] at e
  omega
theorem Inv.list_inj (I : Inv X pins σ H s) (h : SqL X.K H a xs) (h' : SqL X.K H a ys) : xs = ys := by
 obtain ⟨its, r, ⟨o, n, e, _, _, d⟩, _⟩ := I.list h
 obtain ⟨its', r', ⟨o', n', e', _, _, d'⟩, _⟩ := I.list h'
 rw [e] at e'; cases e'
 rw [d] at d'
 injection d' with d1 _
 have : its = its' := by simpa using congrArg Array.toList d1
 subst this
 exact r.inj r'
theorem Inv.tuple_inj (I : Inv X pins σ H s) (h : SqT X.K H a xs) (h' : SqT X.K H a ys) : xs = ys := by
 obtain ⟨its, r, ⟨o, e, _, n, d⟩, _⟩ := I.tuple h
 obtain ⟨its', r', ⟨o', e', _, n', d'⟩, _⟩ := I.tuple h'
 rw [e] at e'; cases e'
 rw [d] at d'
 injection d' with d1 _
 have : its = its' := by simpa using congrArg Array.toList d1
 subst this
 exact r.inj r'
end
abbrev Cx.wish (X : Cx) (E : Value → Shared → Prop) : Cx := { X with xe := E }
abbrev Cx.nox (X : Cx) : Cx := X.wish fun _ _ => False
theorem Cx.Ok.wish {X : Cx} (ok : X.Ok) (E : Value → Shared → Prop) : (X.wish E).Ok :=
 ⟨ok.mod, ok.kind, ok.glob, ok.blt, ok.above, ok.inj, ok.has, ok.cab, ok.hd, ok.frames, ok.stk, ok.exf, ok.bs, ok.bsz, ok.noex, ok.exfs, ok.funs, ok.frf⟩
theorem Cx.Ok.unwish {X : Cx} {E : Value → Shared → Prop} (ok : (X.wish E).Ok) : X.Ok :=
 ⟨ok.mod, ok.kind, ok.glob, ok.blt, ok.above, ok.inj, ok.has, ok.cab, ok.hd, ok.frames, ok.stk, ok.exf, ok.bs, ok.bsz, ok.noex, ok.exfs, ok.funs, ok.frf⟩
section
variable {X : Cx} {pins : List (Addr × Obj)} {σ : St} {H : Hp} {s : Shared} {E : Value → Shared → Prop}
theorem Inv.wish (I : Inv X pins σ H s) (E : Value → Shared → Prop) : Inv (X.wish E) pins σ H s := ⟨I.ok.wish E, I.os, I.bare, I.base, I.loc, I.cell, I.free, I.freeC, I.pin, I.hok, I.len⟩
theorem Inv.unwish (I : Inv (X.wish E) pins σ H s) : Inv X pins σ H s := ⟨I.ok.unwish, I.os, I.bare, I.base, I.loc, I.cell, I.free, I.freeC, I.pin, I.hok, I.len⟩
theorem SP.unwish {D : zh7} {f : Flow} {s' : Shared} (h : SP (X.wish E) pins D f s') : SP X pins D f s' := by
 cases f with
 | next => obtain ⟨σ', H', I, q⟩ := h; exact ⟨σ', H', I.unwish, q⟩
 | brk => obtain ⟨σ', H', I, q⟩ := h; exact ⟨σ', H', I.unwish, q⟩
 | cont => obtain ⟨σ', H', I, q⟩ := h; exact ⟨σ', H', I.unwish, q⟩
 | ret u => obtain ⟨v, σ', H', I, r, q⟩ := h; exact ⟨v, σ', H', I.unwish, r, q⟩
theorem PSs.nox {st : List Stmt} {t : TS} (h : PSs X.nox st t) : PSs X st t := fun pins s σ H D I hw =>
 wpAny_mono (h pins s σ H D (I.wish _) hw) (fun _ _ q => q.unwish) fun _ _ z => False.elim z
end
section
variable {X : Cx} {st : Stmt} {rest : List Stmt} {t u : TS} {e : Expr} {te : TE} {pos : Pos}
def zxo : TS := fun D σ H => D.nx σ H
def zyk (t u : TS) : TS := fun D σ H => t { D with nx := u D } σ H
theorem zaz : PSs X [] zxo := fun _ _ σ H _ I h => wpAny_execs_nil ⟨σ, H, I, h⟩
theorem zae (h1 : PS X st t) (h2 : PSs X rest u) : PSs X (st :: rest) (zyk t u) := by
 intro pins s σ H D I h
 refine wpAny_execs_cons (thn (h1 pins s σ H { D with nx := u D } I h) fun f s1 q => ?_)
 cases f with
 | next =>
  obtain ⟨σ', H', I', q⟩ := q
  exact h2 pins s1 σ' H' D I' q
 | ret v => exact q
 | brk => exact q
 | cont => exact q
theorem zah (h1 : PS X st t) : PSs X [st] t := by
 intro pins s σ H D I h
 refine wpAny_execs_cons (thn (h1 pins s σ H D I h) fun f s1 q => ?_)
 cases f with
 | next => exact wpAny_execs_nil q
 | ret v => exact q
 | brk => exact q
 | cont => exact q
theorem Inv.quiet {pins : List (Addr × Obj)} {σ : St} {H : Hp} {s : Shared} (I : Inv X pins σ H s) : interactive X.env = false := by simp [interactive, I.ok.kind]
def zxx (te : TE) : TS := fun D σ H => te σ H fun _ H1 => D.nx σ H1
theorem zcb (he : PE X e te) (hs : swapsWith e none pos.line X.env = pure false := by rfl) : PS X (.Expr e pos) (zxx te) := by
 intro pins s σ H D I h
 exact wpAny_Expr_any (thn (he pins s σ H _ I h) fun v s1 ⟨x, H1, I1, r1, q1⟩ => ⟨σ, H1, I1, q1⟩) I.quiet hs
def zy6 (te : TE) : TS := fun D σ H => te σ H D.rt
theorem zau (he : PE X e te) : PS X (.Return (some e) pos) (zy6 te) := by
 intro pins s σ H D I h
 exact wpAny_Return_some (thn (he pins s σ H _ I h) fun v s1 ⟨x, H1, I1, r1, q1⟩ => ⟨x, σ, H1, I1, r1, q1⟩)
def zys (c : TT) (t u : TS) : TS := fun D σ H => c σ H fun b H1 => if b = true then t D σ H1 else u D σ H1
theorem za8 {c : Expr} {a b : List Stmt} {tc : TT} (hc : PT X c tc) (ha : PSs X a t) (hb : PSs X b u) : PS X (.If c a b pos) (zys tc t u) := by
 intro pins s σ H D I h
 refine wpAny_If (thn (hc pins s σ H _ I h) fun d s1 ⟨H1, I1, q1⟩ => ?_)
 cases d with
 | true => exact ha pins s1 σ H1 D I1 q1
 | false => exact hb pins s1 σ H1 D I1 q1
def zmk : TS := fun _ _ _ => False
theorem zhq : PS X st zmk := fun _ _ _ _ _ _ h => h.elim
theorem zl3 {sts : List Stmt} : PSs X sts zmk := fun _ _ _ _ _ _ h => h.elim
end
abbrev TG := V → St → Hp → (St → Hp → Prop) → Prop
abbrev TGs := List V → St → Hp → (St → Hp → Prop) → Prop
def PG (X : Cx) (target : Expr) (t : TG) : Prop :=
 ∀ (pins : List (Addr × Obj)) (s : Shared) (σ : St) (H : Hp) (v : V) (u : Value) (Q : St → Hp → Prop), Inv X pins σ H s → RelV v u → t v σ H Q →
  wpAny (model X.prog X.w) X.A (assign target X.env u) (fun _ s' => ∃ σ' H', Inv X pins σ' H' s' ∧ Q σ' H') X.xe s
def PGs (X : Cx) (ts : List Expr) (t : TGs) : Prop :=
 ∀ (pins : List (Addr × Obj)) (s : Shared) (σ : St) (H : Hp) (vs : List V) (us : List Value) (Q : St → Hp → Prop), Inv X pins σ H s → Vals vs us → t vs σ H Q →
  wpAny (model X.prog X.w) X.A (assignInOrder ((assignEach ts X.env).map (·.2)) us) (fun _ s' => ∃ σ' H', Inv X pins σ' H' s' ∧ Q σ' H') X.xe s
abbrev zwk := V → V → V → Hp → (Hp → Prop) → Prop
def zyj (X : Cx) (t : zwk) : Prop :=
 ∀ (pins : List (Addr × Obj)) (s : Shared) (σ : St) (H : Hp) (o i v : V) (ov iv u : Value) (Q : Hp → Prop), Inv X pins σ H s → RelV o ov → RelV i iv → RelV v u → t o i v H Q →
  wpAny (model X.prog X.w) X.A (setItem ov iv u) (fun _ s' => ∃ H', Inv X pins σ H' s' ∧ Q H') X.xe s
section
variable {X : Cx} {pos : Pos}
def zlj (i : Nat) : TG := fun v σ H Q => Q (σ.set i (some v)) H
theorem zao {i : Nat} {x : Str} (hN : X.N.Nodup) (hi : X.N[i]? = some x) (hx : Loc X.env.scope x) (hf : X.fn x = true ∨ X.env.scope.names.lookup x = some .local := by first | exact .inl rfl | exact .inr rfl | assumption) : PG X (.Name x pos) (zlj i) := by
 intro pins s σ H v u Q I r h
 exact wpAny_assign_Name (znv I hN hi hx r (fun s' I' => ⟨_, H, I', h⟩) hf)
def zym : TGs := fun vs σ H Q => vs = [] ∧ Q σ H
def zyh (t : TG) (u : TGs) : TGs := fun vs σ H Q => ∃ v r, vs = v :: r ∧ t v σ H fun σ' H' => u r σ' H' Q
theorem zcy : PGs X [] zym := by
 intro pins s σ H vs us Q I r h
 obtain ⟨e, h⟩ := h
 subst e
 cases r
 exact assignInOrder_nil ⟨σ, H, I, h⟩
theorem za6 {e : Expr} {es : List Expr} {t : TG} {u : TGs} (h1 : PG X e t) (h2 : PGs X es u)
  (hs : (assignEach (e :: es) X.env).map (·.2) = assign e X.env :: (assignEach es X.env).map (·.2) := by rfl) : PGs X (e :: es) (zyh t u) := by
 intro pins s σ H vs us Q I r h
 obtain ⟨v, vr, e1, h⟩ := h
 subst e1
 cases r with
 | cons r rr =>
  rw [hs]
  refine assignInOrder_cons (thn (h1 pins s σ H _ _ _ I r h) fun _ s1 ⟨σ1, H1, I1, q1⟩ => ?_)
  exact h2 pins s1 σ1 H1 _ _ Q I1 rr q1
def zx2 (K : PySem.W.Frag) (n : Nat) (t : TGs) : TG := fun v σ H Q => ∃ a xs, v = .ref a ∧ SqT K H a xs ∧ xs.length = n ∧ t xs σ H Q
theorem zxf {es : List Expr} {k : Nat} {t : TGs} {n : Nat} (hc : X.calm = true) (h : PGs X es t)
  (hn : (assignEach es X.env).length = n := by rfl) (hst : (assignEach es X.env).findIdx? (·.1) = none := by rfl) : PG X (.Tuple es k pos) (zx2 X.K n t) := by
 intro pins s σ H v u Q I r hw
 obtain ⟨a, xs, e1, hq, hl, hw⟩ := hw
 subst e1
 cases r
 obtain ⟨its, rv, ht, hz⟩ := I.tuple hq
 refine assign_Tuple_tuple (I.ok.hd hc) ht (by simp [hn, ← hl, rv.length]) hst fun h' hx => ?_
 have I1 : Inv X pins σ H { s with heap := h' } := I.kept (t' := s.toks) fun b o e => hx b o (Nat.ne_of_lt (Heap.lt_size e)) e
 exact h pins _ σ H xs _ Q I1 (by simpa using rv) hw
def zyw (to ti : TE) (t : zwk) : TG := fun v σ H Q => to σ H fun o H1 => ti σ H1 fun i H2 => t o i v H2 fun H3 => Q σ H3
theorem ztw {o i : Expr} {to ti : TE} {t : zwk} (ho : PE X o to) (hi : PE X i ti) (hs : zyj X t)
  (ha : ∀ v, assign (.Subscript o i pos) X.env v = (do
   let ov ← holding [v] (eval o X.env)
   let iv ← holding [v, ov] (eval i X.env)
   standAt pos
   holding [v, ov, iv] (setItem ov iv v)
   release [v, ov, iv] []) := by intro _; rfl) : PG X (.Subscript o i pos) (zyw to ti t) := by
 intro pins s σ H v u Q I r h
 rw [ha]
 refine wpAny_bind (wpAny_holding (thn (ho pins s σ H _ I h) fun ov s1 ⟨x, H1, I1, r1, q1⟩ => ?_))
 refine wpAny_bind (wpAny_holding (thn (hi pins s1 σ H1 _ I1 q1) fun iv s2 ⟨y, H2, I2, r2, q2⟩ => ?_))
 refine wpAny_bind (wpAny_standAt (wpAny_bind (wpAny_holding (thn (hs pins s2 σ H2 x y v ov iv u _ I2 r1 r2 r q2) fun _ s3 ⟨H3, I3, q3⟩ => ?_))))
 exact wpAny_release ⟨σ, H3, I3, q3⟩
def zxh (te : TE) (g : TG) : TS := fun D σ H => te σ H fun x H1 => g x σ H1 D.nx
theorem zhy {tg e : Expr} {te : TE} {g : TG} (he : PE X e te) (hg : PG X tg g) (hs : swapsWithSole [tg] e pos.line X.env = pure false := by rfl) (hw : swappedStores [tg] e X.env = pure none := by rfl)
  (h1 : (assignEach [tg] X.env).map (·.2) = [assign tg X.env] := by rfl) : PS X (.Assign [tg] e pos) (zxh te g) := by
 intro pins s σ H D I h
 refine wpAny_Assign_stores (thn (he pins s σ H _ I h) fun v s1 ⟨x, H1, I1, r1, q1⟩ => ?_) hs hw
 rw [h1]
 exact thn (hg pins s1 σ H1 x v _ I1 r1 q1) fun _ s2 q => q
theorem zan {i : Nat} {x : Str} {e : Expr} {te : TE} {pos' : Pos} (hN : X.N.Nodup) (hi : X.N[i]? = some x) (hx : Loc X.env.scope x) (he : PE X e te) (hs : swapsWith e (some (.Name x pos')) pos.line X.env = pure false := by rfl) (hf : X.fn x = true ∨ X.env.scope.names.lookup x = some .local := by first | exact .inl rfl | exact .inr rfl | assumption) :
  PS X (.Assign [.Name x pos'] e pos) (zxh te (zlj i)) := by
 intro pins s σ H D I h
 refine wpAny_Assign_Name (thn (he pins s σ H _ I h) fun v s1 ⟨y, H1, I1, r1, q1⟩ => ?_) hs
 exact znv I1 hN hi hx r1 (fun s2 I2 => ⟨_, H1, I2, q1⟩) hf
end
section
variable {X : Cx} {pos : Pos}
end
structure It where
 go : Nat → Hp → Prop
 yld : Nat → Hp → V → Hp → Prop
 stop : Nat → Hp → Prop
def ziy (X : Cx) (pins : List (Addr × Obj)) (H : Hp) (b : Addr) : Prop :=
 H b = none ∧ b ≠ X.env.locals ∧ b ∉ X.fs ∧ (b ∈ X.ex ∨ X.s₀.heap.objs.size ≤ b) ∧ (∀ x c, X.env.cells.lookup x = some c → c ≠ b) ∧ ∀ p ∈ X.pn ++ pins, p.1 ≠ b
theorem Inv.fpOk {X : Cx} {pins : List (Addr × Obj)} {σ : St} {H H' : Hp} {s : Shared} {b : Addr} (I : Inv X pins σ H s) (hb : s.heap.objs.size ≤ b) (hn : H' b = none) : ziy X pins H' b := by
 refine ⟨hn, Nat.ne_of_gt (Nat.lt_of_lt_of_le I.lt hb), I.nofs hb, .inr (Nat.le_trans I.sz hb), fun x c e z => ?_, fun p hp z => ?_⟩
 ·obtain ⟨v, q⟩ := I.cell x c e
  exact absurd (Nat.lt_of_lt_of_le q.lt (by rw [z]; exact hb)) (Nat.lt_irrefl _)
 ·exact absurd (Nat.lt_of_lt_of_le (Heap.lt_size (I.pin p hp).1) (by rw [z]; exact hb)) (Nat.lt_irrefl _)
structure ztk (P : Program) (w : World) (K : PySem.W.Frag) (tg : Expr) (J : It) (fp : List Addr) (it : Addr) (tn : Nat → Heap → Prop) : Prop where
 mem : it ∈ fp
 obj : ∀ i h, tn i h → ∀ b ∈ fp, ∃ o, h.get? b = some o ∧ ∀ v, o.data ≠ .cell v
 keep : ∀ i h h', tn i h → (∀ b ∈ fp, ∀ o, h.get? b = some o → h'.get? b = some o) → tn i h'
 item : ∀ (X : Cx), X.prog = P → X.w = w → X.K = K → X.calm = true → ∀ (i : Nat) (pins : List (Addr × Obj)) (s : Shared) (σ : St) (H : Hp) (E : Value → Shared → Prop), Inv X pins σ H s → (∀ b ∈ fp, ziy X pins H b) → tn i s.heap → J.go i H →
  wpAny (model P w) X.A (pyNext (.ref it)) (fun r s1 => ∃ u, r = some u ∧
   wpAny (model P w) X.A (letOwnedTupleGo tg (.ref it) u) (fun _ s2 => ∃ x H', Inv X pins σ H' s2 ∧ RelV x u ∧ J.yld i H x H' ∧ tn (i + 1) s2.heap ∧ ∀ b ∈ fp, H' b = none) E s1) E s
 done : ∀ (X : Cx), X.prog = P → X.w = w → X.K = K → X.calm = true → ∀ (i : Nat) (pins : List (Addr × Obj)) (s : Shared) (σ : St) (H : Hp) (E : Value → Shared → Prop), Inv X pins σ H s → (∀ b ∈ fp, ziy X pins H b) → tn i s.heap → J.stop i H →
  wpAny (model P w) X.A (pyNext (.ref it)) (fun r s1 => r = none ∧ Inv X pins σ H s1) E s
 self : ∀ (A : Around) (i : Nat) (s : Shared) (Q : Value → Shared → Prop) (E : Value → Shared → Prop), tn i s.heap → Q (.ref it) s → wpAny (model P w) A (pyIter (.ref it)) Q E s
abbrev TI := St → Hp → (It → Hp → Prop) → Prop
def PIE (X : Cx) (pins : List (Addr × Obj)) (σ : St) (tg : Expr) (R : It → Hp → Prop) (itv : Value) (s2 : Shared) : Prop :=
 ∃ (it : Addr) (fp : List Addr) (tn : Nat → Heap → Prop) (J : It) (H' : Hp), itv = .ref it ∧ Inv X pins σ H' s2 ∧ ztk X.prog X.w X.K tg J fp it tn ∧ tn 0 s2.heap ∧ (∀ b ∈ fp, ziy X pins H' b) ∧ R J H'
def PI (X : Cx) (tg iter : Expr) (wi : TI) : Prop :=
 ∀ (pins : List (Addr × Obj)) (s : Shared) (σ : St) (H : Hp) (R : It → Hp → Prop), Inv X pins σ H s → wi σ H R →
  wpAny (model X.prog X.w) X.A (eval iter X.env) (fun v s1 => wpAny (model X.prog X.w) X.A (pyIter v) (PIE X pins σ tg R) X.xe s1) X.xe s
theorem zs5 {M : Model} {A : Around} {E : Value → Shared → Prop} {s : Shared} {tg : Expr} {it : Addr} {u : Value} {o : Obj} {n : String} {vs : Array Value} {Q : Unit → Shared → Prop} (ho : s.heap.get? it = some o) (hc : o.cls = .type n) (hd : o.data = .fields vs)
    (hn : ["enumerate", "zip", "dict_itemiterator", "dict_reverseitemiterator", "odict_iterator", "itertools.zip_longest", "itertools.pairwise"].contains n = false) (hQ : Q () s) : wpAny M A (letOwnedTupleGo tg (.ref it) u) Q E s := by
  unfold letOwnedTupleGo
  cases tg <;> first
    | exact wpAny_pure hQ
    | (cases u <;> first
        | exact wpAny_pure hQ
        | (refine wpAny_bind (wpAny_load ho ?_)
           rw [hc, hd]
           show wpAny M A (if (["enumerate", "zip", "dict_itemiterator", "dict_reverseitemiterator", "odict_iterator", "itertools.zip_longest", "itertools.pairwise"].contains n && vs[0]? == some (rawInt _)) = true then _ else _) Q E s
           rw [if_neg (by intro h; rw [hn, Bool.false_and] at h; cases h)]
           exact wpAny_pure hQ))
def Itl (K : PySem.W.Frag) (a : Addr) : It :=
 ⟨fun i H => ∃ xs x, SqL K H a xs ∧ xs[i]? = some x, fun i H x H' => H' = H ∧ ∀ xs, SqL K H a xs → xs[i]? = some x, fun i H => ∃ xs, SqL K H a xs ∧ xs.length ≤ i⟩
def Itt (K : PySem.W.Frag) (a : Addr) : It :=
 ⟨fun i H => ∃ xs x, SqT K H a xs ∧ xs[i]? = some x, fun i H x H' => H' = H ∧ ∀ xs, SqT K H a xs → xs[i]? = some x, fun i H => ∃ xs, SqT K H a xs ∧ xs.length ≤ i⟩
def Itr (lo : Int) (n : Nat) : It := ⟨fun i _ => i < n, fun i H x H' => H' = H ∧ x = .int (lo + i), fun i _ => n ≤ i⟩
theorem zlw {P : Program} {w : World} {K : PySem.W.Frag} {tg : Expr} (a it : Addr) : ztk P w K tg (Itl K a) [it] it (fun i h => h.IsListIter it a i) where
 mem := by simp
 obj := fun i h st b hb => by
  have e : b = it := by simpa using hb
  subst e
  obtain ⟨o, e, c, d⟩ := st
  exact ⟨o, e, fun v z => by rw [d] at z; cases z⟩
 keep := fun i h h' st k => st.at fun o e => k it (by simp) o e
 item := by
  intro X hP hw hK hc i pins s σ H E I hf st hg
  subst hP hw hK
  obtain ⟨xs, x, hq, hx⟩ := hg
  obtain ⟨its, rv, p, hz⟩ := I.list hq
  obtain ⟨u, hu, ru⟩ := rv.get hx
  obtain ⟨f0, f1, f2, f3, f4, f5⟩ := hf it (by simp)
  refine wpAny_pyNext_list_item st p.isList (x := u) (by simpa using hu) fun h' st' sb => ?_
  have I1 : Inv X pins σ H { s with heap := h' } := I.turned (t' := s.toks) (fun b o hb e => (sb.2 b hb).trans e) f0 f1 f3 f4 f5
  obtain ⟨o, e, c, d⟩ := id st'
  exact ⟨u, rfl, zs5 (s := { s with heap := h' }) e c d (by decide) ⟨x, H, I1, ru, ⟨rfl, fun ys hy => by rw [I.list_inj hy hq]; exact hx⟩, st', fun b hb => (hf b hb).1⟩⟩
 done := by
  intro X hP hw hK hc i pins s σ H E I hf st hg
  subst hP hw hK
  obtain ⟨xs, hq, hx⟩ := hg
  obtain ⟨its, rv, p, hz⟩ := I.list hq
  obtain ⟨f0, f1, f2, f3, f4, f5⟩ := hf it (by simp)
  have hl := rv.length
  exact wpAny_pyNext_list_end (I.ok.hd hc) st p.isList (by simp; omega) fun h' eb => ⟨rfl, I.turned (t' := s.toks) (fun b o hb e => eb b o hb e) f0 f1 f3 f4 f5⟩
 self := fun _ _ _ _ _ st h => wpAny_pyIter_listiter st h
theorem zkj {P : Program} {w : World} {K : PySem.W.Frag} {tg : Expr} (a it : Addr) : ztk P w K tg (Itt K a) [it] it (fun i h => h.IsTupleIter it a i) where
 mem := by simp
 obj := fun i h st b hb => by
  have e : b = it := by simpa using hb
  subst e
  obtain ⟨o, e, c, d⟩ := st
  exact ⟨o, e, fun v z => by rw [d] at z; cases z⟩
 keep := fun i h h' st k => st.at fun o e => k it (by simp) o e
 item := by
  intro X hP hw hK hc i pins s σ H E I hf st hg
  subst hP hw hK
  obtain ⟨xs, x, hq, hx⟩ := hg
  obtain ⟨its, rv, p, hz⟩ := I.tuple hq
  obtain ⟨u, hu, ru⟩ := rv.get hx
  obtain ⟨f0, f1, f2, f3, f4, f5⟩ := hf it (by simp)
  refine wpAny_pyNext_tuple_item st (show s.heap.IsTuple a its.toArray from p) (x := u) (by simpa using hu) fun h' st' sb => ?_
  have I1 : Inv X pins σ H { s with heap := h' } := I.turned (t' := s.toks) (fun b o hb e => (sb.2 b hb).trans e) f0 f1 f3 f4 f5
  obtain ⟨o, e, c, d⟩ := id st'
  exact ⟨u, rfl, zs5 (s := { s with heap := h' }) e c d (by decide) ⟨x, H, I1, ru, ⟨rfl, fun ys hy => by rw [I.tuple_inj hy hq]; exact hx⟩, st', fun b hb => (hf b hb).1⟩⟩
 done := by
  intro X hP hw hK hc i pins s σ H E I hf st hg
  subst hP hw hK
  obtain ⟨xs, hq, hx⟩ := hg
  obtain ⟨its, rv, p, hz⟩ := I.tuple hq
  obtain ⟨f0, f1, f2, f3, f4, f5⟩ := hf it (by simp)
  have hl := rv.length
  exact wpAny_pyNext_tuple_end (I.ok.hd hc) st (show s.heap.IsTuple a its.toArray from p) (by simp; omega) fun h' eb => ⟨rfl, I.turned (t' := s.toks) (fun b o hb e => eb b o hb e) f0 f1 f3 f4 f5⟩
 self := fun _ _ _ _ _ st h => wpAny_pyIter_tupleiter st h
theorem zpr {P : Program} {w : World} {K : PySem.W.Frag} {tg : Expr} (it : Addr) (lo : Int) (n : Nat) : ztk P w K tg (Itr lo n) [it] it (fun i h => IsRangeIter h it (lo + (i : Nat) * 1) ((n : Int) - (i : Nat)) 1) where
 mem := by simp
 obj := fun i h st b hb => by
  have e : b = it := by simpa using hb
  subst e
  exact ⟨_, st, fun v z => by
   have z' : Data.fields _ = Data.cell v := z
   cases z'⟩
 keep := fun i h h' st k => k it (by simp) _ st
 item := by
  intro X hP hw hK hc i pins s σ H E I hf st hg
  subst hP hw hK
  obtain ⟨f0, f1, f2, f3, f4, f5⟩ := hf it (by simp)
  have W := Walks.range (prog := X.prog) (w := X.w) (I.ok.hd hc) it lo 1 n
  refine W.item i s _ _ hg st fun v h' tk hv st' kk => ?_
  obtain ⟨t, rfl⟩ := hv
  have I1 : Inv X pins σ H { s with heap := h', toks := tk } := I.turned (fun b o hb e => kk b o (by simpa using hb) e) f0 f1 f3 f4 f5
  refine ⟨_, rfl, zs5 (s := { s with heap := h', toks := tk }) (n := "range_iterator") st' rfl rfl (by decide) ⟨.int (lo + i), H, I1, ⟨t, ?_⟩, ⟨rfl, rfl⟩, st', fun b hb => (hf b hb).1⟩⟩
  rw [Int.mul_one]
 done := by
  intro X hP hw hK hc i pins s σ H E I hf st hg
  subst hP hw hK
  obtain ⟨f0, f1, f2, f3, f4, f5⟩ := hf it (by simp)
  exact wpAny_pyNext_range_end (I.ok.hd hc) st (by have : n ≤ i := hg; omega) fun h' eb => ⟨rfl, I.turned (t' := s.toks) (fun b o hb e => eb b o hb e) f0 f1 f3 f4 f5⟩
 self := fun _ _ _ _ _ st h => wpAny_pyIter_rangeiter st h
end L2
namespace L2
open PySem PySem.Spec PyProof.Rows
section
variable {X : Cx} {tg : Expr}
def zwa (K : PySem.W.Frag) (tl : TE) : TI := fun σ H R => tl σ H fun x H1 => ∃ a, x = .ref a ∧ (∃ xs, SqL K H1 a xs) ∧ R (Itl K a) H1
def zxr (K : PySem.W.Frag) (tl : TE) : TI := fun σ H R => tl σ H fun x H1 => ∃ a, x = .ref a ∧ (∃ xs, SqT K H1 a xs) ∧ R (Itt K a) H1
theorem zuq {l : Expr} {tl : TE} (hl : PE X l tl) : PI X tg l (zwa X.K tl) := by
 intro pins s σ H R I h
 refine thn (hl pins s σ H _ I h) fun v s1 ⟨x, H1, I1, r1, q1⟩ => ?_
 obtain ⟨a, e, ⟨xs, hq⟩, q⟩ := q1
 subst e
 cases r1
 obtain ⟨its, rv, p, hz⟩ := I1.list hq
 refine wpAny_pyIter_list p.isList ?_
 refine ⟨s1.heap.objs.size, [s1.heap.objs.size], _, _, H1, rfl, I1.kept (t' := s1.toks) fun b o e => Heap.get?_push_of_some _ e, zlw a _, ⟨_, Heap.get?_push_size _ rfl, rfl, rfl⟩, fun b hb => ?_, q⟩
 have e : b = s1.heap.objs.size := by simpa using hb
 subst e
 exact I1.fpOk (Nat.le_refl _) (I1.hok.fresh (Nat.le_refl _))
theorem zxl {l : Expr} {tl : TE} (hl : PE X l tl) : PI X tg l (zxr X.K tl) := by
 intro pins s σ H R I h
 refine thn (hl pins s σ H _ I h) fun v s1 ⟨x, H1, I1, r1, q1⟩ => ?_
 obtain ⟨a, e, ⟨xs, hq⟩, q⟩ := q1
 subst e
 cases r1
 obtain ⟨its, rv, p, hz⟩ := I1.tuple hq
 refine wpAny_pyIter_tuple (show s1.heap.IsTuple a its.toArray from p) ?_
 refine ⟨s1.heap.objs.size, [s1.heap.objs.size], _, _, H1, rfl, I1.kept (t' := s1.toks) fun b o e => Heap.get?_push_of_some _ e, zkj a _, ⟨_, Heap.get?_push_size _ rfl, rfl, rfl⟩, fun b hb => ?_, q⟩
 have e : b = s1.heap.objs.size := by simpa using hb
 subst e
 exact I1.fpOk (Nat.le_refl _) (I1.hok.fresh (Nat.le_refl _))
theorem zoj {pins : List (Addr × Obj)} {σ : St} {H : Hp} {s : Shared} {R : It → Hp → Prop} {E : Value → Shared → Prop} {lo hi : Int} {t u v : Tok} {tk : Nat} (I : Inv X pins σ H s) (h1 : -(2 ^ 62) ≤ lo) (h2 : lo < 2 ^ 62) (h3 : -(2 ^ 62) ≤ hi) (h4 : hi < 2 ^ 62)
  (q : R (Itr lo (hi - lo).toNat) H) : wpAny (model X.prog X.w) X.A (pyIter (.ref s.heap.objs.size)) (PIE X pins σ tg R) E { s with heap := s.heap.push { cls := .type "range", data := .fields #[.int lo t, .int hi u, .int 1 v] }, toks := tk } := by
 refine wpAny_pyIter_range (IsRange.new ..) (small_one h1 h2 h3 h4) ?_
 have I1 : Inv X pins σ H { s with heap := s.heap.push { cls := .type "range", data := .fields #[.int lo t, .int hi u, .int 1 v] }, toks := tk } := I.kept fun b o e => Heap.get?_push_of_some _ e
 refine ⟨(s.heap.push { cls := .type "range", data := .fields #[.int lo t, .int hi u, .int 1 v] }).objs.size, [(s.heap.push { cls := .type "range", data := .fields #[.int lo t, .int hi u, .int 1 v] }).objs.size], _, _, H, rfl,
  I1.kept (t' := tk) fun b o e => Heap.get?_push_of_some _ e, zpr _ lo (hi - lo).toNat, ?_, fun b hb => ?_, q⟩
 ·have e1 : lo + ((0 : Nat) : Int) * 1 = lo := by simp
  have e2 : (((hi - lo).toNat : Nat) : Int) - ((0 : Nat) : Int) = Builtin.Range.rangeSize lo hi 1 := by rw [rangeSize_one]; split <;> omega
  show IsRangeIter _ _ (lo + ((0 : Nat) : Int) * 1) ((((hi - lo).toNat : Nat) : Int) - ((0 : Nat) : Int)) 1
  rw [e1, e2]
  exact Heap.get?_push_size _ rfl
 ·have e : b = (s.heap.push { cls := .type "range", data := .fields #[.int lo t, .int hi u, .int 1 v] }).objs.size := by simpa using hb
  subst e
  exact I1.fpOk (Nat.le_refl _) (I1.hok.fresh (Nat.le_refl _))
def zxv (ta : TA) : TI := fun σ H R => ta σ H fun vs H1 => ∃ j : Int, vs = [.int j] ∧ -(2 ^ 62) ≤ j ∧ j < 2 ^ 62 ∧ R (Itr 0 j.toNat) H1
def zxp (ta : TA) : TI := fun σ H R => ta σ H fun vs H1 => ∃ i j : Int, vs = [.int i, .int j] ∧ (-(2 ^ 62) ≤ i ∧ i < 2 ^ 62 ∧ -(2 ^ 62) ≤ j ∧ j < 2 ^ 62) ∧ R (Itr i (j - i).toNat) H1
theorem zbi {a : Expr} {ta : TA} {p pos : Pos} (hg : Gl X "range") (hm : X.mg "range" = none) (ha : PA X [a] ta) (hs : starEach [a] X.env = [(false, eval a X.env)] := by rfl) : PI X tg (.Call (.Name "range" p) [a] [] pos) (zxv ta) := by
 intro pins s σ H R I h
 refine Call_ (zii I hg hm boot_range (PyProof.Rows.callWith_type1 (thn (ha pos pins s σ H _ I h) fun us s1 ⟨vs, H1, I1, r1, q1⟩ => ?_) hs rfl))
 obtain ⟨j, e, q1, q2, q⟩ := q1
 subst e
 cases r1 with
 | cons r rr =>
  cases rr
  obtain ⟨t, rfl⟩ := r
  exact call_range_1 (zoj I1 (by omega) (by omega) q1 q2 (by simpa using q))
theorem zld {a b : Expr} {ta : TA} {p pos : Pos} (hg : Gl X "range") (hm : X.mg "range" = none) (ha : PA X [a, b] ta) (hs : starEach [a, b] X.env = [(false, eval a X.env), (false, eval b X.env)] := by rfl) (hs2 : starEach [b] X.env = [(false, eval b X.env)] := by rfl) :
  PI X tg (.Call (.Name "range" p) [a, b] [] pos) (zxp ta) := by
 intro pins s σ H R I h
 refine Call_ (zii I hg hm boot_range (PyProof.Rows.callWith_type1 (thn (ha pos pins s σ H _ I h) fun us s1 ⟨vs, H1, I1, r1, q1⟩ => ?_) (by rw [hs, hs2]) (by rw [hs2]; rfl)))
 obtain ⟨i, j, e, ⟨q1, q2, q3, q4⟩, q⟩ := q1
 subst e
 cases r1 with
 | cons r rr =>
  cases rr with
  | cons r' rr =>
   cases rr
   obtain ⟨t, rfl⟩ := r
   obtain ⟨t', rfl⟩ := r'
   exact call_range_2 (zoj I1 q1 q2 q3 q4 q)
def zyv (wi : TI) (g : TG) (tb : TS) : TS := fun D σ H => wi σ H fun J H1 => ∃ W : Nat → Nat → St → Hp → Prop, (∃ m, W 0 m σ H1) ∧ ∀ i m σ H, W i m σ H →
 (J.stop i H ∧ D.nx σ H) ∨ (J.go i H ∧ ∃ N : St → Hp → Prop, (∀ σ' H', N σ' H' → ∃ m', m' < m ∧ W (i + 1) m' σ' H') ∧ ∀ x H', J.yld i H x H' → g x σ H' fun σ2 H2 => tb { D with nx := N, ct := N, bk := D.nx } σ2 H2)
def zh5 (fp : List Addr) (h : Heap) : List (Addr × Obj) := fp.filterMap fun b => (h.get? b).map fun o => (b, o)
theorem zff {fp : List Addr} {h : Heap} {b : Addr} {o : Obj} (hb : b ∈ fp) (e : h.get? b = some o) : (b, o) ∈ zh5 fp h := List.mem_filterMap.mpr ⟨b, hb, by rw [e]; rfl⟩
theorem zri {fp : List Addr} {h : Heap} {p : Addr × Obj} (hp : p ∈ zh5 fp h) : p.1 ∈ fp ∧ h.get? p.1 = some p.2 := by
 obtain ⟨b, hb, e⟩ := List.mem_filterMap.mp hp
 cases q : h.get? b with
 | none => rw [q] at e; cases e
 | some o =>
  rw [q] at e
  have e' : (b, o) = p := Option.some.inj e
  subst e'
  exact ⟨hb, q⟩
theorem Inv.pinned {pins : List (Addr × Obj)} {σ : St} {H : Hp} {s : Shared} {fp : List Addr} (I : Inv X pins σ H s) (hf : ∀ b ∈ fp, ziy X pins H b) (ho : ∀ b ∈ fp, ∃ o, s.heap.get? b = some o ∧ ∀ v, o.data ≠ .cell v) : Inv X (pins ++ zh5 fp s.heap) σ H s :=
 I.pins_of fun p hp => (List.mem_append.mp hp).elim (fun z => I.pin p (List.mem_append_right _ z)) fun z => by
  obtain ⟨hb, e⟩ := zri z
  obtain ⟨f0, f1, f2, _⟩ := hf p.1 hb
  obtain ⟨o, e', d⟩ := ho p.1 hb
  rw [e] at e'; cases e'
  exact ⟨e, f0, f1, f2, d⟩
theorem Inv.unpinned {pins pl : List (Addr × Obj)} {σ : St} {H : Hp} {s : Shared} (I : Inv X (pins ++ pl) σ H s) : Inv X pins σ H s := I.pins_of fun p hp => I.pin p (List.mem_append_right _ (List.mem_append_left _ hp))
theorem zbo {iter : Expr} {body : List Stmt} {wi : TI} {g : TG} {tb : TS} {pos : Pos} (hp : PassesOwn (model X.prog X.w) X.A X.env X.xe) (hc : X.calm = true) (hi : PI X tg iter wi) (hg : PG X tg g) (hb : PSs X body tb)
  (hs : ∀ x, foldedSetIterable iter X.env x = pure x := by intro _; rfl) : PS X (.For tg iter body [] pos) (zyv wi g tb) := by
 intro pins s σ H D I h
 refine wpAny_For (thn (hi pins s σ H _ I h) fun v s1 h1 => thn h1 fun itv s2 h2 => ?_) hs
 obtain ⟨it, fp, tn, J, H2, e, I2, T, st2, f2, W, ⟨m0, w0⟩, turn⟩ := h2
 subst e
 have stat : ∀ {H' : Hp}, (∀ b ∈ fp, H' b = none) → ∀ b ∈ fp, ziy X pins H' b := fun hn b hb => ⟨hn b hb, (f2 b hb).2⟩
 refine codeAny_forLoop_any (fun n s' => ∃ i σ' H', Inv X pins σ' H' s' ∧ tn i s'.heap ∧ (∀ b ∈ fp, H' b = none) ∧ W i n σ' H') ?_ m0 ⟨0, σ, H2, I2, st2, fun b hb => (f2 b hb).1, w0⟩
 rintro n s3 ⟨i, σ3, H3, I3, st3, fr3, w3⟩
 rcases turn i n σ3 H3 w3 with ⟨stop, qn⟩ | ⟨go, N, hN, step⟩
 ·refine wpAny_passesOwn hp (thn (T.done X rfl rfl rfl hc i pins s3 σ3 H3 X.xe I3 (stat fr3) st3 stop) fun r s4 ⟨hr, I4⟩ => ?_)
  subst hr
  exact wpAny_execs_nil ⟨σ3, H3, I4, qn⟩
 ·refine wpAny_passesOwn hp (thn (T.item X rfl rfl rfl hc i pins s3 σ3 H3 X.xe I3 (stat fr3) st3 go) fun r s4 ⟨u, hr, h4⟩ => ?_)
  subst hr
  refine wpAny_passesOwn hp (thn h4 fun _ s5 ⟨x, H5, I5, r5, y5, st5, fr5⟩ => ?_)
  have I5' := I5.pinned (stat fr5) (T.obj _ _ st5)
  refine wpAny_passesOwn hp (thn (hg _ s5 σ3 H5 x u _ I5' r5 (step x H5 y5)) fun _ s6 ⟨σ6, H6, I6, q6⟩ => ?_)
  refine wpAny_passesOwn hp (thn (hb _ s6 σ6 H6 _ I6 q6) fun f s7 q7 => ?_)
  have again : ∀ {σ7 : St} {H7 : Hp}, Inv X (pins ++ zh5 fp s5.heap) σ7 H7 s7 → N σ7 H7 → ∃ m, m < n ∧ ∃ i σ' H', Inv X pins σ' H' s7 ∧ tn i s7.heap ∧ (∀ b ∈ fp, H' b = none) ∧ W i m σ' H' := fun {σ7 H7} I7 n7 => by
   obtain ⟨m', hm, w7⟩ := hN σ7 H7 n7
   refine ⟨m', hm, i + 1, σ7, H7, I7.unpinned, T.keep _ _ _ st5 fun b hb o e => (I7.pin (b, o) (List.mem_append_right _ (List.mem_append_right _ (zff hb e)))).1, fun b hb => ?_, w7⟩
   obtain ⟨o, e, d⟩ := T.obj _ _ st5 b hb
   exact (I7.pin (b, o) (List.mem_append_right _ (List.mem_append_right _ (zff hb e)))).2.1
  cases f with
  | next => obtain ⟨σ7, H7, I7, n7⟩ := q7; exact again I7 n7
  | cont => obtain ⟨σ7, H7, I7, n7⟩ := q7; exact again I7 n7
  | brk => obtain ⟨σ7, H7, I7, q7⟩ := q7; exact ⟨σ7, H7, I7.unpinned, q7⟩
  | ret v => obtain ⟨x7, σ7, H7, I7, r7, q7⟩ := q7; exact ⟨x7, σ7, H7, I7.unpinned, r7, q7⟩
end
theorem zbz {K : PySem.W.Frag} {a : Addr} {xs : List V} {g : TG} {tb : TS} {D : zh7} {σ : St} {H : Hp} (Pv : Nat → St → Hp → Prop) (h0 : Pv 0 σ H) (hl : ∀ i σ H, i ≤ xs.length → Pv i σ H → SqL K H a xs)
  (hs : ∀ i x σ H, xs[i]? = some x → Pv i σ H → g x σ H fun σ2 H2 => tb { D with nx := Pv (i + 1), ct := Pv (i + 1), bk := D.nx } σ2 H2) (hd : ∀ σ H, Pv xs.length σ H → D.nx σ H) :
  ∃ W : Nat → Nat → St → Hp → Prop, (∃ m, W 0 m σ H) ∧ ∀ i m σ H, W i m σ H →
   ((Itl K a).stop i H ∧ D.nx σ H) ∨ ((Itl K a).go i H ∧ ∃ N : St → Hp → Prop, (∀ σ' H', N σ' H' → ∃ m', m' < m ∧ W (i + 1) m' σ' H') ∧ ∀ x H', (Itl K a).yld i H x H' → g x σ H' fun σ2 H2 => tb { D with nx := N, ct := N, bk := D.nx } σ2 H2) := by
 refine ⟨fun i m σ H => m = xs.length - i ∧ i ≤ xs.length ∧ Pv i σ H, ⟨xs.length, by simp, Nat.zero_le _, h0⟩, ?_⟩
 rintro i m σ H ⟨rfl, hi, p⟩
 have q := hl i σ H hi p
 by_cases hlt : i < xs.length
 ·refine .inr ⟨⟨xs, xs[i], q, by simp [hlt]⟩, Pv (i + 1), fun σ' H' p' => ⟨xs.length - (i + 1), by omega, rfl, hlt, p'⟩, fun x H' y => ?_⟩
  obtain ⟨e, y⟩ := y
  subst e
  exact hs i x σ _ (y xs q) p
 ·have e : i = xs.length := by omega
  subst e
  exact .inl ⟨⟨xs, q, Nat.le_refl _⟩, hd σ H p⟩
theorem zhz {lo : Int} {n : Nat} {g : TG} {tb : TS} {D : zh7} {σ : St} {H : Hp} (Pv : Nat → St → Hp → Prop) (h0 : Pv 0 σ H)
  (hs : ∀ i σ H, i < n → Pv i σ H → g (.int (lo + i)) σ H fun σ2 H2 => tb { D with nx := Pv (i + 1), ct := Pv (i + 1), bk := D.nx } σ2 H2) (hd : ∀ σ H, Pv n σ H → D.nx σ H) :
  ∃ W : Nat → Nat → St → Hp → Prop, (∃ m, W 0 m σ H) ∧ ∀ i m σ H, W i m σ H →
   ((Itr lo n).stop i H ∧ D.nx σ H) ∨ ((Itr lo n).go i H ∧ ∃ N : St → Hp → Prop, (∀ σ' H', N σ' H' → ∃ m', m' < m ∧ W (i + 1) m' σ' H') ∧ ∀ x H', (Itr lo n).yld i H x H' → g x σ H' fun σ2 H2 => tb { D with nx := N, ct := N, bk := D.nx } σ2 H2) := by
 refine ⟨fun i m σ H => m = n - i ∧ i ≤ n ∧ Pv i σ H, ⟨n, by simp, Nat.zero_le _, h0⟩, ?_⟩
 rintro i m σ H ⟨rfl, hi, p⟩
 by_cases hlt : i < n
 ·refine .inr ⟨hlt, Pv (i + 1), fun σ' H' p' => ⟨n - (i + 1), by omega, rfl, hlt, p'⟩, fun x H' y => ?_⟩
  obtain ⟨e, y⟩ := y
  subst e y
  exact hs i σ _ hlt p
 ·have e : i = n := by omega
  subst e
  exact .inl ⟨Nat.le_refl _, hd σ H p⟩
end L2
namespace L2
open PySem PySem.Spec PyProof.Rows
abbrev R2 := V → V → Hp → VK → Prop
def OpR (X : Cx) (f : Value → Value → Sem Value) (r : R2) : Prop :=
 ∀ (pins : List (Addr × Obj)) (s : Shared) (σ : St) (H : Hp) (x y : V) (v u : Value) (Q : VK), Inv X pins σ H s → RelV x v → RelV y u → r x y H Q →
  wpAny (model X.prog X.w) X.A (f v u) (EP X pins σ Q) X.xe s
def UnR (X : Cx) (f : Value → Sem Value) (r : V → Hp → VK → Prop) : Prop :=
 ∀ (pins : List (Addr × Obj)) (s : Shared) (σ : St) (H : Hp) (x : V) (v : Value) (Q : VK), Inv X pins σ H s → RelV x v → r x H Q →
  wpAny (model X.prog X.w) X.A (f v) (EP X pins σ Q) X.xe s
def zes (X : Cx) (f : Value) (r : List V → Hp → VK → Prop) : Prop :=
 ∀ (pins : List (Addr × Obj)) (s : Shared) (σ : St) (H : Hp) (xs : List V) (us : List Value) (Q : VK), Inv X pins σ H s → Vals xs us → r xs H Q →
  wpAny (model X.prog X.w) X.A (call f us) (EP X pins σ Q) X.xe s
def tOp (r : R2) (ta tb : TE) : TE := fun σ H Q => ta σ H fun x H1 => tb σ H1 fun y H2 => r x y H2 Q
def tUn (r : V → Hp → VK → Prop) (ta : TE) : TE := fun σ H Q => ta σ H fun x H1 => r x H1 Q
def rI (C : Int → Int → Prop) (g : Int → Int → V) : R2 := fun x y H Q => ∃ i j, x = .int i ∧ y = .int j ∧ C i j ∧ Q (g i j) H
def rI0 (g : Int → Int → V) : R2 := fun x y H Q => ∃ i j, x = .int i ∧ y = .int j ∧ Q (g i j) H
def rU (g : Int → V) : V → Hp → VK → Prop := fun x H Q => ∃ i, x = .int i ∧ Q (g i) H
section
variable {X : Cx} {a b c : Expr} {ta tb tc : TE} {pos : Pos}
theorem zwx (ha : PE X a ta) (hb : PE X b tb) {pins : List (Addr × Obj)} {s : Shared} {σ : St} {H : Hp} {R : V → V → Hp → Prop} (I : Inv X pins σ H s)
  (h : ta σ H fun x H1 => tb σ H1 fun y H2 => R x y H2) {Q : Value → Shared → Prop} {f : Value → Value → Sem Value}
  (hf : ∀ v u s2 x y H2, Inv X pins σ H2 s2 → RelV x v → RelV y u → R x y H2 → wpAny (model X.prog X.w) X.A (f v u) Q X.xe s2) :
  wpAny (model X.prog X.w) X.A (eval a X.env) (fun v s₁ => wpAny (model X.prog X.w) X.A (eval b X.env) (fun u s₂ => wpAny (model X.prog X.w) X.A (f v u) Q X.xe s₂) X.xe s₁) X.xe s := by
 refine thn (ha pins s σ H _ I h) fun v s1 ⟨x, H1, I1, r1, q1⟩ => ?_
 refine thn (hb pins s1 σ H1 _ I1 q1) fun u s2 ⟨y, H2, I2, r2, q2⟩ => ?_
 exact hf v u s2 x y H2 I2 r1 r2 q2
theorem zap {op : Operator} {r : R2} (ho : OpR X (binaryOp op) r) (ha : PE X a ta) (hb : PE X b tb) : PE X (.BinOp a op b pos) (tOp r ta tb) := by
 intro pins s σ H Q I h
 exact wpAny_BinOp (zwx ha hb I h fun v u s2 x y H2 I2 rx ry q => ho pins s2 σ H2 x y v u Q I2 rx ry q)
theorem zlv {op : UnaryOp} {r : V → Hp → VK → Prop} (ho : UnR X (unaryOp op) r) (ha : PE X a ta) : PE X (.UnaryOp op a pos) (tUn r ta) := by
 intro pins s σ H Q I h
 exact UnaryOp_ (thn (ha pins s σ H _ I h) fun v s1 ⟨x, H1, I1, r1, q1⟩ => ho pins s1 σ H1 x v Q I1 r1 q1)
theorem opI {f : Value → Value → Sem Value} {C : Int → Int → Prop} {g : Int → Int → Int}
  (rule : ∀ (i j : Int) (t u : Tok) (s : Shared) (Q : Value → Shared → Prop) (E : Value → Shared → Prop), C i j → Q (.int (g i j) s.toks) { s with toks := s.toks + 1 } → wpAny (model X.prog X.w) X.A (f (.int i t) (.int j u)) Q E s) :
  OpR X f (rI C fun i j => .int (g i j)) := by
 intro pins s σ H x y v u Q I rx ry h
 obtain ⟨i, j, rfl, rfl, hc, q⟩ := h
 obtain ⟨t, rfl⟩ := rx
 obtain ⟨t', rfl⟩ := ry
 exact rule i j t t' s _ _ hc ⟨.int (g i j), H, I.tok _, ⟨_, rfl⟩, q⟩
theorem zur {f : Value → Value → Sem Value} {g : Int → Int → Int}
  (rule : ∀ (i j : Int) (t u : Tok) (s : Shared) (Q : Value → Shared → Prop) (E : Value → Shared → Prop), Q (.int (g i j) s.toks) { s with toks := s.toks + 1 } → wpAny (model X.prog X.w) X.A (f (.int i t) (.int j u)) Q E s) :
  OpR X f (rI0 fun i j => .int (g i j)) := by
 intro pins s σ H x y v u Q I rx ry h
 obtain ⟨i, j, rfl, rfl, q⟩ := h
 obtain ⟨t, rfl⟩ := rx
 obtain ⟨t', rfl⟩ := ry
 exact rule i j t t' s _ _ ⟨.int (g i j), H, I.tok _, ⟨_, rfl⟩, q⟩
theorem zvv {f : Value → Value → Sem Value} {g : Int → Int → Bool}
  (rule : ∀ (i j : Int) (t u : Tok) (s : Shared) (Q : Value → Shared → Prop) (E : Value → Shared → Prop), Q (.bool (g i j)) s → wpAny (model X.prog X.w) X.A (f (.int i t) (.int j u)) Q E s) :
  OpR X f (rI0 fun i j => .bl (g i j)) := by
 intro pins s σ H x y v u Q I rx ry h
 obtain ⟨i, j, rfl, rfl, q⟩ := h
 obtain ⟨t, rfl⟩ := rx
 obtain ⟨t', rfl⟩ := ry
 exact rule i j t t' s _ _ ⟨.bl (g i j), H, I, rfl, q⟩
def zyn (i j : Int) : Prop := 0 < j ∧ j < 1073741824
def zx6 (i j : Int) : Prop := 0 ≤ j ∧ j ≤ 1000000 ∧ i.natAbs < 2 ^ 64
def CMul (i j : Int) : Prop := (-(2 ^ 64) < i ∧ i < 2 ^ 64) ∨ (-(2 ^ 64) < j ∧ j < 2 ^ 64)
theorem CMul.ok {i j : Int} (h : CMul i j) : IntMulOk i j := by
 rcases h with ⟨h1, h2⟩ | ⟨h1, h2⟩
 ·exact .of_left (intBits_le_64 h1 h2)
 ·exact .of_right (intBits_le_64 h1 h2)
theorem two_pow_nn (k : Nat) : (0 : Int) ≤ 2 ^ k := by
 rw [two_pow_cast]
 exact Int.natCast_nonneg _
theorem zb6 : OpR X (binaryOp .Add) (rI0 fun i j => .int (i + j)) := zur fun _ _ _ _ _ _ _ q => add_int q
theorem zeo : OpR X (binaryOp .Sub) (rI0 fun i j => .int (i - j)) := zur fun _ _ _ _ _ _ _ q => sub_int q
theorem zez : OpR X (binaryOp .Mult) (rI CMul fun i j => .int (i * j)) := opI fun _ _ _ _ _ _ _ hc q => mul_int q hc.ok
theorem zqb : OpR X (binaryOp .FloorDiv) (rI zyn fun i j => .int (i / j)) := opI fun i j _ _ _ _ _ hc q => by
 have h1 : (0 : Int) < j := hc.1
 have h2 : j < 1073741824 := hc.2
 exact floordiv_int (by omega) (by rw [Int.fdiv_eq_ediv_of_nonneg i (by omega)]; exact q) (.inl (PyProof.noPylong_small (by omega)))
theorem zf9 : OpR X (binaryOp .Mod) (rI (fun _ j => 0 < j) fun i j => .int (i % j)) := opI fun i j _ _ _ _ _ hc q => by
 have h1 : (0 : Int) < j := hc
 exact mod_int' (by omega) (by rw [Int.fmod_eq_emod_of_nonneg i (by omega)]; exact q)
theorem zwr : OpR X (binaryOp .Pow) (rI zx6 fun i j => .int (i ^ j.toNat)) := opI fun _ _ _ _ _ _ _ hc q => pow_int_small hc.1 hc.2.1 hc.2.2 q
theorem ze4 : OpR X (binaryOp .LShift) (rI zx6 fun i j => .int (i * 2 ^ j.toNat)) := opI fun _ _ _ _ _ _ _ hc q => lshift_int_small hc.1 hc.2.1 hc.2.2 q
theorem zdw : OpR X (binaryOp .RShift) (rI (fun _ j => 0 ≤ j) fun i j => .int (i / 2 ^ j.toNat)) := opI fun i j _ _ _ _ _ hc q =>
 rshift_int hc (by rw [Int.fdiv_eq_ediv_of_nonneg i (two_pow_nn _)]; exact q)
theorem zcu : OpR X (binaryOp .BitAnd) (rI0 fun i j => .int (Builtin.bitAnd i j)) := zur fun _ _ _ _ _ _ _ q => and_int q
theorem zoe : OpR X (binaryOp .BitOr) (rI0 fun i j => .int (Builtin.bitOr i j)) := zur fun _ _ _ _ _ _ _ q => or_int q
theorem unI {f : Value → Sem Value} {g : Int → Int}
  (rule : ∀ (i : Int) (t : Tok) (s : Shared) (Q : Value → Shared → Prop) (E : Value → Shared → Prop), Q (.int (g i) s.toks) { s with toks := s.toks + 1 } → wpAny (model X.prog X.w) X.A (f (.int i t)) Q E s) :
  UnR X f (rU fun i => .int (g i)) := by
 intro pins s σ H x v Q I rx h
 obtain ⟨i, rfl, q⟩ := h
 obtain ⟨t, rfl⟩ := rx
 exact rule i t s _ _ ⟨.int (g i), H, I.tok _, ⟨_, rfl⟩, q⟩
theorem zh8 : UnR X (unaryOp .USub) (rU fun i => .int (-i)) := unI fun _ _ _ _ _ q => neg_int q
end
def zyf : V → V → Bool
 | .non, .non => true | .non, .int _ => true | .int _, .non => true | .non, .bl _ => true | .bl _, .non => true | .non, .str _ => true | .str _, .non => true
 | .int _, .int _ => true | .bl _, .bl _ => true | .str _, .str _ => true | .byt _, .byt _ => true
 | .int _, .str _ => true | .str _, .int _ => true | .bl _, .str _ => true | .str _, .bl _ => true
 | _, _ => false
def rEq : R2 := fun x y H Q => zyf x y = true ∧ Q (.bl (decide (x = y))) H
def rNe : R2 := fun x y H Q => zyf x y = true ∧ Q (.bl (!decide (x = y))) H
theorem zi8 {i j : Int} : decide (V.int i = V.int j) = (i == j) := by
 rw [Bool.eq_iff_iff]
 simp
theorem zsk {i j : Bool} : decide (V.bl i = V.bl j) = (i == j) := by
 rw [Bool.eq_iff_iff]
 simp
theorem zqj {i j : Str} : decide (V.str i = V.str j) = (i == j) := by
 rw [Bool.eq_iff_iff]
 simp
theorem zq4 {i j : Array UInt8} : decide (V.byt i = V.byt j) = (i.toList == j.toList) := by
 rw [Bool.eq_iff_iff]
 cases i
 cases j
 simp
section
variable {X : Cx} {a b c : Expr} {ta tb tc : TE} {pos : Pos}
theorem zbe {pins : List (Addr × Obj)} {σ : St} {H : Hp} {s : Shared} {Q : VK} {k k' : Bool} (I : Inv X pins σ H s) (q : Q (.bl k) H) (e : k = k') : EP X pins σ Q (.bool k') s := by
 subst e
 exact ⟨.bl k, H, I, rfl, q⟩
theorem zbx : OpR X (compareOp .Eq) rEq := by
 intro pins s σ H x y v u Q I rx ry h
 obtain ⟨hs, q⟩ := h
 cases x with
 | non =>
  cases rx
  cases y with
  | non => cases ry; exact PySem.EqNone.eq_none_none (zbe I q (by simp))
  | bl j => cases ry; exact PySem.EqNone.eq_none_bool (zbe I q (by simp))
  | int j => obtain ⟨t', rfl⟩ := ry; exact PySem.EqNone.eq_none_int (zbe I q (by simp))
  | str j => obtain ⟨t', rfl⟩ := ry; exact PySem.EqNone.eq_none_str (zbe I q (by simp))
  | _ => exact absurd (show false = true from hs) Bool.false_ne_true
 | bl i =>
  cases rx
  cases y with
  | non => cases ry; exact PySem.EqNone.eq_bool_none (zbe I q (by simp))
  | bl j => cases ry; exact eq_bool (zbe I q zsk)
  | str j => obtain ⟨t', rfl⟩ := ry; exact PySem.EqMixed.eq_bool_str (zbe I q (by simp))
  | _ => exact absurd (show false = true from hs) Bool.false_ne_true
 | int i =>
  obtain ⟨t, rfl⟩ := rx
  cases y with
  | non => cases ry; exact PySem.EqNone.eq_int_none (zbe I q (by simp))
  | int j => obtain ⟨t', rfl⟩ := ry; exact eq_int (zbe I q zi8)
  | str j => obtain ⟨t', rfl⟩ := ry; exact PySem.EqMixed.eq_int_str (zbe I q (by simp))
  | _ => exact absurd (show false = true from hs) Bool.false_ne_true
 | str i =>
  obtain ⟨t, rfl⟩ := rx
  cases y with
  | non => cases ry; exact PySem.EqNone.eq_str_none (zbe I q (by simp))
  | bl j => cases ry; exact PySem.EqMixed.eq_str_bool (zbe I q (by simp))
  | int j => obtain ⟨t', rfl⟩ := ry; exact PySem.EqMixed.eq_str_int (zbe I q (by simp))
  | str j => obtain ⟨t', rfl⟩ := ry; exact eq_str (zbe I q zqj)
  | _ => exact absurd (show false = true from hs) Bool.false_ne_true
 | byt i =>
  obtain ⟨t, rfl⟩ := rx
  cases y with
  | byt j => obtain ⟨t', rfl⟩ := ry; exact PySem.W.eq_bytes (zbe I q zq4)
  | _ => exact absurd (show false = true from hs) Bool.false_ne_true
 | _ => cases y <;> exact absurd (show false = true from hs) Bool.false_ne_true
theorem zqz : OpR X (compareOp .NotEq) rNe := by
 intro pins s σ H x y v u Q I rx ry h
 obtain ⟨hs, q⟩ := h
 cases x with
 | non =>
  cases rx
  cases y with
  | non => cases ry; exact PySem.EqNone.ne_none_none (zbe I q (by simp))
  | bl j => cases ry; exact PySem.EqNone.ne_none_bool (zbe I q (by simp))
  | int j => obtain ⟨t', rfl⟩ := ry; exact PySem.EqNone.ne_none_int (zbe I q (by simp))
  | str j => obtain ⟨t', rfl⟩ := ry; exact PySem.EqNone.ne_none_str (zbe I q (by simp))
  | _ => exact absurd (show false = true from hs) Bool.false_ne_true
 | bl i =>
  cases rx
  cases y with
  | non => cases ry; exact PySem.EqNone.ne_bool_none (zbe I q (by simp))
  | bl j => cases ry; exact ne_bool (zbe I q (congrArg not zsk))
  | str j => obtain ⟨t', rfl⟩ := ry; exact PySem.EqMixed.ne_bool_str (zbe I q (by simp))
  | _ => exact absurd (show false = true from hs) Bool.false_ne_true
 | int i =>
  obtain ⟨t, rfl⟩ := rx
  cases y with
  | non => cases ry; exact PySem.EqNone.ne_int_none (zbe I q (by simp))
  | int j => obtain ⟨t', rfl⟩ := ry; exact ne_int (zbe I q (congrArg not zi8))
  | str j => obtain ⟨t', rfl⟩ := ry; exact PySem.EqMixed.ne_int_str (zbe I q (by simp))
  | _ => exact absurd (show false = true from hs) Bool.false_ne_true
 | str i =>
  obtain ⟨t, rfl⟩ := rx
  cases y with
  | non => cases ry; exact PySem.EqNone.ne_str_none (zbe I q (by simp))
  | bl j => cases ry; exact PySem.EqMixed.ne_str_bool (zbe I q (by simp))
  | int j => obtain ⟨t', rfl⟩ := ry; exact PySem.EqMixed.ne_str_int (zbe I q (by simp))
  | str j => obtain ⟨t', rfl⟩ := ry; exact ne_str (zbe I q (congrArg not zqj))
  | _ => exact absurd (show false = true from hs) Bool.false_ne_true
 | byt i =>
  obtain ⟨t, rfl⟩ := rx
  cases y with
  | byt j => obtain ⟨t', rfl⟩ := ry; exact PySem.W.ne_bytes (zbe I q (congrArg not zq4))
  | _ => exact absurd (show false = true from hs) Bool.false_ne_true
 | _ => cases y <;> exact absurd (show false = true from hs) Bool.false_ne_true
theorem zjv : OpR X (compareOp .Lt) (rI0 fun i j => .bl (decide (i < j))) := zvv fun _ _ _ _ _ _ _ q => lt_int q
theorem zlh : OpR X (compareOp .LtE) (rI0 fun i j => .bl (decide (i ≤ j))) := zvv fun _ _ _ _ _ _ _ q => le_int q
theorem zhc : OpR X (compareOp .Gt) (rI0 fun i j => .bl (decide (j < i))) := zvv fun _ _ _ _ _ _ _ q => gt_int q
theorem zxn : OpR X (compareOp .GtE) (rI0 fun i j => .bl (decide (j ≤ i))) := zvv fun _ _ _ _ _ _ _ q => ge_int q
theorem zt0 : OpR X (compareOp .Is) (fun x y H Q => y = .non ∧ Q (.bl (decide (x = .non))) H) := by
 intro pins s σ H x y v u Q I rx ry h
 obtain ⟨rfl, q⟩ := h
 cases ry
 refine is_none_gen (zbe I q ?_)
 cases x <;> first
  | (cases rx; rfl)
  | (obtain ⟨t, rfl⟩ := rx; rfl)
theorem zfk : OpR X (compareOp .IsNot) (fun x y H Q => y = .non ∧ Q (.bl (!decide (x = .non))) H) := by
 intro pins s σ H x y v u Q I rx ry h
 obtain ⟨rfl, q⟩ := h
 cases ry
 refine isnot_none_gen (zbe I q ?_)
 cases x <;> first
  | (cases rx; rfl)
  | (obtain ⟨t, rfl⟩ := rx; rfl)
theorem zat (b : Expr) {op : CmpOp} (h : op ≠ .In := by decide) (h2 : op ≠ .NotIn := by decide) : behindInMarks op b = false := by
 have e1 : (op == CmpOp.In) = false := by cases op <;> first | rfl | exact absurd rfl h
 have e2 : (op == CmpOp.NotIn) = false := by cases op <;> first | rfl | exact absurd rfl h2
 cases b <;> simp [behindInMarks, e1, e2]
theorem zbw {op : CmpOp} {r : R2} (ho : OpR X (compareOp op) r) (ha : PE X a ta) (hb : PE X b tb) (hm : behindInMarks op b = false) : PE X (.Compare a [op] [b] pos) (tOp r ta tb) := by
 intro pins s σ H Q I h
 exact wpAny_Compare1 (zwx ha hb I h fun v u s2 x y H2 I2 rx ry q => ho pins s2 σ H2 x y v u Q I2 rx ry q) hm
def zv8 (t : TE) : TT := fun σ H Q => t σ H fun x H' => ∃ k, x = .bl k ∧ Q k H'
theorem zar {op : CmpOp} {r : R2} (ho : OpR X (compareOp op) r) (ha : PE X a ta) (hb : PE X b tb) (hm : behindInMarks op b = false) : PT X (.Compare a [op] [b] pos) (zv8 (tOp r ta tb)) := by
 intro pins s σ H Q I h
 refine wpAny_isTrue_Compare1 (thn (ha pins s σ H _ I h) fun v s1 ⟨x, H1, I1, r1, q1⟩ => thn (hb pins s1 σ H1 _ I1 q1) fun u s2 ⟨y, H2, I2, r2, q2⟩ =>
  thn (ho pins s2 σ H2 x y v u _ I2 r1 r2 q2) fun c s3 ⟨z, H3, I3, r3, k, e, q3⟩ => ?_) hm
 subst e
 cases r3
 exact wpAny_truthy_bool ⟨H3, I3, q3⟩
def zs9 (r r' : R2) (ta tb tc : TE) : TE := fun σ H Q => ta σ H fun x H1 => tb σ H1 fun y H2 => r x y H2 fun z H3 => ∃ k, z = .bl k ∧
 (if k = true then tc σ H3 fun w' H4 => r' y w' H4 Q else Q (.bl false) H3)
theorem ztp {op op' : CmpOp} {r r' : R2} (ho : OpR X (compareOp op) r) (ho' : OpR X (compareOp op') r') (ha : PE X a ta) (hb : PE X b tb) (hc : PE X c tc)
  (hm : lastMarks [op, op'] [b, c] = false := by with_unfolding_all rfl) : PE X (.Compare a [op, op'] [b, c] pos) (zs9 r r' ta tb tc) := by
 intro pins s σ H Q I h
 refine Compare_chain (thn (ha pins s σ H _ I h) fun v s1 ⟨x, H1, I1, r1, q1⟩ => chain_link (thn (hb pins s1 σ H1 _ I1 q1) fun u s2 ⟨y, H2, I2, r2, q2⟩ =>
  thn (ho pins s2 σ H2 x y v u _ I2 r1 r2 q2) fun d s3 ⟨z, H3, I3, r3, k, e, q3⟩ => ?_)) hm
 subst e
 cases r3
 refine wpAny_truthy_bool ?_
 cases k with
 | false => exact ite_ff ⟨.bl false, H3, I3, rfl, q3⟩
 | true => exact ite_tt (chain_last (thn (hc pins s3 σ H3 _ I3 q3) fun w' s4 ⟨z', H4, I4, r4, q4⟩ => ho' pins s4 σ H4 y z' u w' Q I4 r2 r4 q4))
theorem zul {op op' : CmpOp} {r r' : R2} (ho : OpR X (compareOp op) r) (ho' : OpR X (compareOp op') r') (ha : PE X a ta) (hb : PE X b tb) (hc : PE X c tc)
  (hm : lastMarks [op, op'] [b, c] = false := by with_unfolding_all rfl) : PT X (.Compare a [op, op'] [b, c] pos) (zv8 (zs9 r r' ta tb tc)) := by
 intro pins s σ H Q I h
 refine isTrue_chain (thn (ha pins s σ H _ I h) fun v s1 ⟨x, H1, I1, r1, q1⟩ => test_link (thn (hb pins s1 σ H1 _ I1 q1) fun u s2 ⟨y, H2, I2, r2, q2⟩ =>
  thn (ho pins s2 σ H2 x y v u _ I2 r1 r2 q2) fun d s3 ⟨z, H3, I3, r3, k, e, q3⟩ => ?_)) hm
 subst e
 cases r3
 refine wpAny_truthy_bool ?_
 cases k with
 | false =>
  obtain ⟨k', e', q'⟩ := q3
  cases e'
  exact ite_ff ⟨H3, I3, q'⟩
 | true =>
  refine ite_tt (test_last (thn (hc pins s3 σ H3 _ I3 q3) fun w' s4 ⟨z', H4, I4, r4, q4⟩ => thn (ho' pins s4 σ H4 y z' u w' _ I4 r2 r4 q4) fun d' s5 ⟨z2, H5, I5, r5, k2, e2, q5⟩ => ?_))
  subst e2
  cases r5
  exact wpAny_truthy_bool ⟨H5, I5, q5⟩
theorem zkm : (sizeLine : Nat) < 2 ^ 63 := by rw [sizeLine_eq]; decide
theorem zgr {x : V} {us : List Value} (r : Vals [x] us) : ∃ u, us = [u] ∧ RelV x u := by
 cases r with
 | cons r1 r2 => cases r2; exact ⟨_, rfl, r1⟩
theorem zv4 {x y : V} {us : List Value} (r : Vals [x, y] us) : ∃ u w', us = [u, w'] ∧ RelV x u ∧ RelV y w' := by
 cases r with
 | cons r1 r2 =>
  cases r2 with
  | cons r3 r4 => cases r4; exact ⟨_, _, rfl, r1, r3⟩
theorem zhw (hc : X.calm = true) : zes X (.builtin "max") (fun xs H Q => ∃ i j, xs = [.int i, .int j] ∧ Q (.int (if j > i then j else i)) H) := by
 intro pins s σ H xs us Q I r h
 obtain ⟨i, j, rfl, q⟩ := h
 obtain ⟨u, w', rfl, ⟨t, rfl⟩, ⟨t', rfl⟩⟩ := zv4 r
 refine max_two_ints (I.ok.hd hc) fun h' tk k => ⟨_, H, I.kept k, ?_, q⟩
 by_cases hj : j > i
 ·rw [if_pos hj, if_pos hj]; exact ⟨_, rfl⟩
 ·rw [if_neg hj, if_neg hj]; exact ⟨_, rfl⟩
theorem zsd : zes X (.type "int") (fun xs H Q => (∃ i, xs = [.int i] ∧ Q (.int i) H) ∨ ∃ k, xs = [.bl k] ∧ Q (.int (if k then 1 else 0)) H) := by
 intro pins s σ H xs us Q I r h
 rcases h with ⟨i, rfl, q⟩ | ⟨k, rfl, q⟩
 ·obtain ⟨u, rfl, t, rfl⟩ := zgr r
  exact call_int_int ⟨.int i, H, I, ⟨_, rfl⟩, q⟩
 ·obtain ⟨u, rfl, r1⟩ := zgr r
  cases r1
  exact call_int_bool ⟨.int (if k then 1 else 0), H, I.tok _, ⟨_, rfl⟩, q⟩
end
end L2
namespace L2
open PySem PySem.Spec PyProof.Rows
structure ObjM (h : Heap) (x dx C : Addr) (mA : Str → Option Value) : Prop where
 obj : h.get? x = some (PySem.W.instObj C dx)
 ns : h.Ns1 dx mA
 ne : dx ≠ x
theorem zrx {h : Heap} {dx : Addr} {mA : Str → Option Value} (n : h.Ns1 dx mA) : ∃ od, h.get? dx = some od ∧ ∀ name, PySem.W.lookIn name od = some (mA name) := by
 obtain ⟨o, es, ep, ho, hd, hk, _, hm⟩ := n
 refine ⟨o, ho, fun name => ?_⟩
 have e := hm name
 unfold nsFind findBy at e
 rw [← Array.find?_toList] at e
 unfold PySem.W.lookIn
 rw [hd]
 dsimp only
 split
 ·rename_i y q
  rw [q] at e
  exact congrArg some e
 ·rename_i q
  rw [q] at e
  have a : es.toList.any (·.refKey) = false := by
   rw [List.any_eq_false]
   intro y hy
   obtain ⟨z, t, hkey⟩ := hk y (Array.mem_toList_iff.mp hy)
   simp [DictEntry.refKey, hkey]
  have a' : ¬ es.toList.any (·.refKey) = true := by rw [a]; exact Bool.false_ne_true
  rw [if_neg a']
  exact congrArg some e
theorem ObjM.look {h : Heap} {x dx C : Addr} {mA : Str → Option Value} (I : ObjM h x dx C mA) : ∃ od, PySem.W.InstAt h x (PySem.W.instObj C dx) C (some od) ∧ ∀ name, PySem.W.lookIn name od = some (mA name) :=
 let ⟨od, ho, hl⟩ := zrx I.ns
 ⟨od, ⟨I.obj, rfl, rfl, ho⟩, hl⟩
section
variable {prog : Program} {w : World} {A : Around} {E : Value → Shared → Prop} {s : Shared} {K : PySem.W.Frag} {x dx C f : Addr} {mA : Str → Option Value} {name : Str} {v : Value}
theorem zvg {expr : Bool} {Q : Value → Shared → Prop} (X : K.In s.heap) (I : ObjM s.heap x dx C mA) (hg : PySem.W.plainGet K C name = true) (hh : PySem.W.hasDictIn K C = true)
  (ha : PySem.W.findIn K (.ref C) name = some none) (hv : mA name = some v) (hv' : PySem.W.handedIn v = true) (h : Q v { s with toks := s.toks + 1 }) :
  wpAny (model prog w) A (getAttr (.ref x) name expr) Q E s := by
 obtain ⟨od, J, hl⟩ := I.look
 exact PySem.W.get_value X J (PySem.W.plainGet_of hg).1 (PySem.W.findObj_own hh ha rfl (by rw [hl, hv])) hv' h
theorem ztl {pl : Sem Bool} {Q : Value × List Value → Shared → Prop} (X : K.In s.heap) (I : ObjM s.heap x dx C mA) (hg : PySem.W.plainGet K C name = true)
  (hf : PySem.W.findIn K (.ref C) name = some (some (.ref f))) (ht : PySem.W.isFn K (.ref f) = true) (hv : mA name = none) (h : Q (.ref f, [.ref x]) s) :
  wpAny (model prog w) A (getMethod (.ref x) name pl) Q E s := by
 obtain ⟨od, J, hl⟩ := I.look
 exact PySem.W.method_fn X J (PySem.W.plainGet_of hg).1 (PySem.W.plainGet_of hg).2 hf (beq_iff_eq.mp ht) (by show (PySem.W.lookIn name od).map (·.isSome) = some false; rw [hl, hv]; rfl) h
theorem zuu {ns : List Str} {Q : Unit → Shared → Prop} (X : K.In s.heap) (I : ObjM s.heap x dx C mA)
  (hs : PySem.W.findIn K (.ref C) "__setattr__" = some (some (.builtin "object.__setattr__"))) (hp : PySem.W.plainOver K C = true) (ht : PySem.W.takerIn K C name = some none) (hh : PySem.W.hasDictIn K C = true)
  (hw : PySem.Within mA ns) (hsz : ns.length ≤ sizeLine)
  (h : ∀ h', ObjM h' x dx C (fun y => if y = name then some v else mA y) → Heap.SameBut dx s.heap h' → Q () { s with heap := h', toks := s.toks + 2 }) :
  wpAny (model prog w) A (setAttr (.ref x) name v) Q E s := by
 obtain ⟨od, J, hl⟩ := I.look
 refine PySem.W.set_plain X J hs (PySem.W.osa_open (s := { s with toks := s.toks + 1 }) (r := none) X J hp ht fun b => ?_)
 obtain ⟨cd, hc, hd'⟩ := PySem.W.any_some hh
 have hx : s.heap.get? x = some ⟨.ref C, some dx, .plain, #[]⟩ := I.obj
 refine wpAny_bind (wpAny_pure (wpAny_bind (wpAny_bind (wpAny_loadPart hx (wpAny_bind (PySem.W.Looks.here (s := { s with toks := s.toks + 1 }) (PySem.W.looks_clsIn X hc) ?_))))))
 rw [hd']
 refine wpAny_pure (a := some dx) (wpAny_bind (wpAny_pure (wpAny_bind ?_)))
 refine wpAny_nsSet1 (s := { s with toks := s.toks + 1 }) I.ns fun h' hn2 hs2 => ?_
 obtain ⟨oD, esD, epD, hoD, hdD, hcD⟩ := hn2.count (PySem.Within.cons name v hw)
 refine wpAny_bind (wpAny_lookBehind hoD (by rw [hdD]; exact pastItsLine_dict (Nat.le_trans hcD (by rw [List.length_cons]; omega))) ?_)
 exact wpAny_pure (h _ ⟨(hs2.2 _ (Ne.symm I.ne)).trans I.obj, hn2, I.ne⟩ hs2)
theorem zt2 {R : Result → Shared → Prop} {vs : List Value} {kw : List (Str × Value)} (X : K.In s.heap) (hm : PySem.W.makesIn K C = true)
  (hi : PySem.W.findIn K (.ref C) "__init__" = some (some (.ref f))) (hf : PySem.W.typeIn K (.ref f) = some (.type "function"))
  (h : codeAny (model prog w) (A.under (.builtin "type.__call__" ⟨.ref C :: vs, kw⟩)) (.call (.ref f) ⟨.ref (s.heap.objs.size + 1) :: vs, kw⟩) (PySem.W.InitBack (s.heap.objs.size + 1) R)
   { s with heap := (s.heap.push PySem.W.emptyDict).push (PySem.W.instObj C s.heap.objs.size) }) :
  codeAny (model prog w) A (.call (.ref C) ⟨vs, kw⟩) R s := by
 obtain ⟨hh, g, d, t, os⟩ := s
 exact PySem.W.make_core (PySem.W.makes_of X hm) (PySem.W.looks_findIn X hi) (fun self => PySem.W.bind_fn X self hf) (.inl rfl) h
end
def zgk (f : Str) (v : V) : List (Str × V) → List (Str × V)
 | [] => [(f, v)]
 | (g, x) :: r => if g = f then (g, v) :: r else (g, x) :: zgk f v r
theorem zis (f g : Str) (v : V) : ∀ fs : List (Str × V), (zgk f v fs).lookup g = if g = f then some v else fs.lookup g
 | [] => by
  show List.lookup g [(f, v)] = _
  by_cases h : g = f
  ·have hb : (g == f) = true := beq_iff_eq.mpr h
   simp only [List.lookup, hb, if_pos h]
  ·have hb : (g == f) = false := beq_eq_false_iff_ne.mpr h
   simp only [List.lookup, hb, if_neg h]
 | (k, x) :: r => by
  have ih := zis f g v r
  rw [show zgk f v ((k, x) :: r) = (if k = f then (k, v) :: r else (k, x) :: zgk f v r) from rfl]
  by_cases hk : k = f
  ·rw [if_pos hk]
   by_cases h : g = k
   ·have hb : (g == k) = true := beq_iff_eq.mpr h
    simp only [List.lookup, hb, if_pos (h.trans hk)]
   ·have hb : (g == k) = false := beq_eq_false_iff_ne.mpr h
    simp only [List.lookup, hb, if_neg (fun e : g = f => h (e.trans hk.symm))]
  ·rw [if_neg hk]
   by_cases h : g = k
   ·have hb : (g == k) = true := beq_iff_eq.mpr h
    simp only [List.lookup, hb, if_neg (fun e : g = f => hk (h.symm.trans e))]
   ·have hb : (g == k) = false := beq_eq_false_iff_ne.mpr h
    simp only [List.lookup, hb]
    exact ih
theorem zib (f : Str) (v : V) : ∀ fs : List (Str × V), f ∈ (zgk f v fs).map (·.1) ∧ ∀ g, g ∈ fs.map (·.1) → g ∈ (zgk f v fs).map (·.1)
 | [] => ⟨by simp [zgk], fun g h => by simp at h⟩
 | (k, x) :: r => by
  obtain ⟨i1, i2⟩ := zib f v r
  rw [show zgk f v ((k, x) :: r) = (if k = f then (k, v) :: r else (k, x) :: zgk f v r) from rfl]
  by_cases hk : k = f
  ·rw [if_pos hk]
   subst hk
   exact ⟨by simp, fun g h => by simpa using h⟩
  ·rw [if_neg hk]
   refine ⟨?_, fun g h => ?_⟩
   ·rw [List.map_cons]
    exact List.mem_cons_of_mem _ i1
   ·rw [List.map_cons] at h ⊢
    rcases List.mem_cons.mp h with e | e
    ·exact List.mem_cons.mpr (.inl e)
    ·exact List.mem_cons_of_mem _ (i2 g e)
theorem ziv (f : Str) (v : V) : ∀ fs : List (Str × V), (zgk f v fs).length ≤ fs.length + 1
 | [] => by simp [zgk]
 | (k, x) :: r => by
  have ih := ziv f v r
  rw [show zgk f v ((k, x) :: r) = (if k = f then (k, v) :: r else (k, x) :: zgk f v r) from rfl]
  by_cases hk : k = f
  ·rw [if_pos hk, List.length_cons, List.length_cons]; omega
  ·rw [if_neg hk, List.length_cons, List.length_cons]; omega
theorem RelO.some_of {v : V} {o : Option Value} (r : RelO (some v) o) : ∃ u, o = some u ∧ RelV v u := by
 cases o with
 | none => exact (show False from r).elim
 | some u => exact ⟨u, rfl, r⟩
theorem RelO.none_of {o : Option Value} (r : RelO none o) : o = none := by
 cases o with
 | none => rfl
 | some u => exact (show False from r).elim
theorem zr1 {v : V} {u : Value} (r : RelV v u) : PySem.W.handedIn u = true := by
 cases v with
 | non => cases (show u = Value.none from r); rfl
 | bl b => cases (show u = Value.bool b from r); rfl
 | int i => obtain ⟨t, e⟩ := (show ∃ t, u = Value.int i t from r); cases e; rfl
 | str x => obtain ⟨t, e⟩ := (show ∃ t, u = Value.str x t from r); cases e; rfl
 | byt b => obtain ⟨t, e⟩ := (show ∃ t, u = Value.bytes b t from r); cases e; rfl
 | flt b => obtain ⟨t, e⟩ := (show ∃ t, u = Value.float b t from r); cases e; rfl
 | ref a => cases (show u = Value.ref a from r); rfl
 | ty n => cases (show u = Value.type n from r); rfl
section
variable {P : Program} {w : World} {H H' : Hp} {h h' : Heap} {a C dx : Addr} {fs fs' : List (Str × V)}
theorem zi7 (hok : HOk P w H h) (e : H a = some (.ins C dx fs)) : ∃ mA, ObjM h a dx C mA ∧ (∀ f, RelO (fs.lookup f) (mA f)) ∧ PySem.Within mA (fs.map (·.1)) ∧ fs.length ≤ 1000 ∧ H dx = some (.own a) := by
 obtain ⟨d, z, ne, ob, mA, n, r, q⟩ := (show ObjOk P w H h a (.ins C dx fs) from hok a _ e)
 exact ⟨mA, ⟨ob, n, ne⟩, r, q, z, d⟩
end
structure Cls (K : PySem.W.Frag) (C : Addr) : Prop where
 pg : PySem.W.plainGet K C Str.empty = true
 hd : PySem.W.hasDictIn K C = true
 po : PySem.W.plainOver K C = true
 sa : PySem.W.findIn K (.ref C) "__setattr__" = some (some (.builtin "object.__setattr__"))
theorem Cls.get {K : PySem.W.Frag} {C : Addr} (c : Cls K C) (f : Str) : PySem.W.plainGet K C f = true := c.pg
def NoAttr (K : PySem.W.Frag) (C : Addr) (f : Str) : Prop := PySem.W.findIn K (.ref C) f = some none
theorem NoAttr.taker {K : PySem.W.Frag} {C : Addr} {f : Str} (n : NoAttr K C f) : PySem.W.takerIn K C f = some none := by
 unfold PySem.W.takerIn
 rw [show PySem.W.findIn K (.ref C) f = some none from n]
 rfl
structure znp (K : PySem.W.Frag) (C : Addr) (m : Str) (f : Addr) : Prop where
 at_ : PySem.W.findIn K (.ref C) m = some (some (.ref f))
 fn : PySem.W.isFn K (.ref f) = true
 kp : PySem.W.keepIn K (.ref f) = true
section
variable {X : Cx} {pins : List (Addr × Obj)} {σ : St} {H : Hp} {s : Shared} {a C dx : Addr} {fs : List (Str × V)} {f : Str} {v : V} {A : Around} {E : Value → Shared → Prop}
theorem zpl {b : Bool} {Q : Value → Shared → Prop} (I : Inv X pins σ H s) (e : H a = some (.ins C dx fs)) (c : Cls X.K C) (n : NoAttr X.K C f) (l : fs.lookup f = some v)
  (h : ∀ u s', Inv X pins σ H s' → RelV v u → Q u s') : wpAny (model X.prog X.w) A (getAttr (.ref a) f b) Q E s := by
 obtain ⟨mA, O, r, _, _, _⟩ := zi7 I.hok e
 obtain ⟨u, hu, ru⟩ := RelO.some_of (v := v) (o := mA f) (by rw [← l]; exact r f)
 exact zvg I.kIn O (c.get f) c.hd n hu (zr1 ru) (h u _ (I.tok _) ru)
theorem zj6 {m : Str} {g : Addr} {pl : Sem Bool} {Q : Value × List Value → Shared → Prop} (I : Inv X pins σ H s) (e : H a = some (.ins C dx fs)) (c : Cls X.K C) (k : znp X.K C m g) (l : fs.lookup m = none)
  (h : Q (.ref g, [.ref a]) s) : wpAny (model X.prog X.w) A (getMethod (.ref a) m pl) Q E s := by
 obtain ⟨mA, O, r, _, _, _⟩ := zi7 I.hok e
 have hn : mA m = none := RelO.none_of (by rw [← l]; exact r m)
 exact ztl I.kIn O (c.get m) k.at_ k.fn hn h
theorem zpg {y : V} {u : Value} {Q : Unit → Shared → Prop} (I : Inv X pins σ H s) (e : H a = some (.ins C dx fs)) (c : Cls X.K C) (n : NoAttr X.K C f) (hl : fs.length < 1000) (ry : RelV y u)
  (h : ∀ s', Inv X pins σ (upd H a (.ins C dx (zgk f y fs))) s' → Q () s') : wpAny (model X.prog X.w) A (setAttr (.ref a) f u) Q E s := by
 obtain ⟨mA, O, r, wi, _, ho⟩ := zi7 I.hok e
 have hz : (fs.map (·.1)).length ≤ sizeLine := by rw [List.length_map, sizeLine_eq]; omega
 refine zuu I.kIn O c.sa c.po n.taker c.hd wi hz fun h' O' sb => h _ ?_
 have hd : ∃ o, h'.get? dx = some o := let ⟨o, _, _, e', _⟩ := O'.ns; ⟨o, e'⟩
 refine I.write (x := a) (e := dx) (by rw [e]; exact True.intro) (.inr ho) (fun b q hb z => (sb.2 b hb).trans z) hd ?_
 refine ⟨by rw [zak O.ne]; exact ho, ?_, O.ne, O'.obj, _, O'.ns, fun g => ?_, fun g hg => ?_⟩
 ·have := ziv f y fs; omega
 ·show RelO ((zgk f y fs).lookup g) (if g = f then some u else mA g)
  rw [zis]
  by_cases q : g = f
  ·rw [if_pos q, if_pos q]; exact ry
  ·rw [if_neg q, if_neg q]; exact r g
 ·by_cases q : g = f
  ·rw [q]; exact (zib f y fs).1
  ·refine (zib f y fs).2 g (wi g fun z => hg ?_)
   show (if g = f then some u else mA g) = none
   rw [if_neg q]; exact z
theorem Inv.made (I : Inv X pins σ H s) : Inv X pins σ (upd (upd H s.heap.objs.size (.own (s.heap.objs.size + 1))) (s.heap.objs.size + 1) (.ins C s.heap.objs.size []))
  { s with heap := (s.heap.push PySem.W.emptyDict).push (PySem.W.instObj C s.heap.objs.size) } := by
 have e1 : (s.heap.push PySem.W.emptyDict).get? s.heap.objs.size = some PySem.W.emptyDict := Heap.get?_push_size s.heap rfl
 have e2 : ((s.heap.push PySem.W.emptyDict).push (PySem.W.instObj C s.heap.objs.size)).get? (s.heap.objs.size + 1) = some (PySem.W.instObj C s.heap.objs.size) := by
  have := Heap.get?_push_size (s.heap.push PySem.W.emptyDict) (o := PySem.W.instObj C s.heap.objs.size) rfl
  rwa [Heap.size_push] at this
 have e3 : (s.heap.push PySem.W.emptyDict).Ns s.heap.objs.size (fun _ => none) := ⟨PySem.W.emptyDict, #[], _, e1, rfl, (fun e he => absurd he (by simp)), fun _ => rfl⟩
 have I1 := I.laid (a := s.heap.objs.size) (o := .own (s.heap.objs.size + 1)) (h' := s.heap.push PySem.W.emptyDict) (t' := s.toks) (fun b u q => Heap.get?_push_of_some _ q) (Nat.le_refl _) ⟨_, e1⟩
 refine I1.laid (a := s.heap.objs.size + 1) (o := .ins C s.heap.objs.size []) (t' := s.toks) (fun b u q => Heap.get?_push_of_some _ q) (Nat.le_of_eq (Heap.size_push _ _)) ?_
 have ne : s.heap.objs.size ≠ s.heap.objs.size + 1 := Nat.ne_of_lt (Nat.lt_succ_self _)
 refine ⟨by rw [zak ne, zab], Nat.zero_le _, ne, e2, fun _ => none, (Heap.Ns1.of_empty e3).at fun o q => Heap.get?_push_of_some _ q, fun _ => True.intro, fun y hy => absurd rfl hy⟩
theorem zu8 {prog : Program} {w : World} {env : Env} {e : Expr} {f : Str} {pos : Pos} {s : Shared} {Q : Value → Shared → Prop} (hb : attributeBase e f env (eval e env) = eval e env)
  (h : wpAny (model prog w) A (eval e env) (fun o s₁ => wpAny (model prog w) A (getAttr o f true) Q E s₁) E s) : wpAny (model prog w) A (eval (.Attribute e f pos) env) Q E s :=
 Attribute_any_ h (by rw [arm_eval_Attribute, hb])
end
def zyr (K : PySem.W.Frag) (ta : TE) (f : Str) : TE := fun σ H Q => ta σ H fun x H1 => ∃ a C dx fs v, x = .ref a ∧ H1 a = some (.ins C dx fs) ∧ Cls K C ∧ NoAttr K C f ∧ fs.lookup f = some v ∧ Q v H1
def zyt (K : PySem.W.Frag) (ta tv : TE) (f : Str) : TS := fun D σ H => tv σ H fun y H1 => ta σ H1 fun x H2 => ∃ a C dx fs, x = .ref a ∧ H2 a = some (.ins C dx fs) ∧ Cls K C ∧ NoAttr K C f ∧ fs.length < 1000 ∧
 D.nx σ (upd H2 a (.ins C dx (zgk f y fs)))
section
variable {X : Cx} {o e value : Expr} {f : Str} {pos pos' tpos : Pos} {ta tv : TE}
theorem zcr (he : PE X e ta) (hb : attributeBase e f X.env (eval e X.env) = eval e X.env) : PE X (.Attribute e f pos) (zyr X.K ta f) := by
 intro pins s σ H Q I h
 refine zu8 hb (thn (he pins s σ H _ I h) fun u s1 ⟨x, H1, I1, rx, a, C, dx, fs, v, ex, ea, c, n, l, q⟩ => ?_)
 subst ex
 obtain rfl : u = Value.ref a := rx
 exact zpl I1 ea c n l fun u' s2 I2 ru => ⟨v, H1, I2, ru, q⟩
theorem zo6 (ha : PE X o ta) (hv : PE X value tv) (hs : swapsWith value (some (.Attribute o f pos')) pos.line X.env = pure false) : PS X (.Assign [.Attribute o f pos'] value pos) (zyt X.K ta tv f) := by
 intro pins s σ H D I h
 refine plainObj_wpAny_Assign_Attribute (thn (hv pins s σ H _ I h) fun u s1 ⟨y, H1, I1, ry, q⟩ => thn (ha pins s1 σ H1 _ I1 q) fun ov s2 ⟨x, H2, I2, rx, a, C, dx, fs, ex, ea, c, n, l, q2⟩ => ?_) hs
 subst ex
 obtain rfl : ov = Value.ref a := rx
 exact zpg I2 ea c n l ry fun s3 I3 => ⟨σ, _, I3, q2⟩
end
section
variable {X : Cx} {pins : List (Addr × Obj)} {σ : St} {H : Hp} {s : Shared} {A : Around} {E : Value → Shared → Prop} {Q : Value → Shared → Prop} {c : Value} {b : Bool}
inductive zha (K : PySem.W.Frag) (H : Hp) : V → Value → Prop where
 | non : zha K H .non (.type "NoneType")
 | bl (x : Bool) : zha K H (.bl x) (.type "bool")
 | int (i : Int) : zha K H (.int i) (.type "int")
 | str (x : Str) : zha K H (.str x) (.type "str")
 | flt (x : UInt64) : zha K H (.flt x) (.type "float")
 | lst {a : Addr} {xs : List V} (e : H a = some (.lst xs)) : zha K H (.ref a) (.type "list")
 | frz {a : Addr} {o : Obj} {xs : List V} (e : H a = some (.frz o (.lst xs))) : zha K H (.ref a) (.type "list")
 | tup {a : Addr} {xs : List V} (e : H a = some (.tup xs)) : zha K H (.ref a) (.type "tuple")
 | dK {a : Addr} {kvs : List (Key × V)} (e : H a = some (.dK kvs)) : zha K H (.ref a) (.type "dict")
 | dT {a : Addr} {kvs : List (List Key × V)} (e : H a = some (.dT kvs)) : zha K H (.ref a) (.type "dict")
 | ins {a C dx : Addr} {fs : List (Str × V)} (e : H a = some (.ins C dx fs)) (cl : Cls K C) (ha : PySem.W.findIn K (.ref C) "__class__" = some (some (.builtin "object.__class__")))
   (hn : PySem.W.specialIn K (.builtin "object.__class__") "__get__" = some (some (.builtin "getset_descriptor.__get__"))) (htk : PySem.W.takesIn K (.builtin "object.__class__") = some true)
   (hm : PySem.W.mroIn K C (.type "object") = some true) : zha K H (.ref a) (.ref C)
theorem zrz {x : V} {u t : Value} (I : Inv X pins σ H s) (rx : RelV x u) (ty : zha X.K H x t) (e : PySem.W.kitOne X.K t c = some b) (h : ∀ tk, Q (.bool b) { s with toks := tk }) :
  wpAny (model X.prog X.w) A (call (.builtin "isinstance") [u, c]) Q E s := by
 cases ty with
 | non => cases (show u = Value.none from rx); exact PySem.W.kia_one PySem.W.kitx_none I.kIn True.intro e (fun z => nomatch z) h
 | bl y => cases (show u = Value.bool y from rx); exact PySem.W.kia_one PySem.W.kitx_bool I.kIn True.intro e (fun z => nomatch z) h
 | int i => obtain ⟨t, q⟩ := (show ∃ t, u = Value.int i t from rx); cases q; exact PySem.W.kia_one PySem.W.kitx_int I.kIn True.intro e (fun z => nomatch z) h
 | str y => obtain ⟨t, q⟩ := (show ∃ t, u = Value.str y t from rx); cases q; exact PySem.W.kia_one PySem.W.kitx_str I.kIn True.intro e (fun z => nomatch z) h
 | flt y => obtain ⟨t, q⟩ := (show ∃ t, u = Value.float y t from rx); cases q; exact PySem.W.kia_one PySem.W.kitx_float I.kIn True.intro e (fun z => nomatch z) h
 | @lst a xs ea =>
  cases (show u = Value.ref a from rx)
  obtain ⟨_, _, n, _, h1⟩ := (show ObjOk X.prog X.w H s.heap a (.lst xs) from I.hok a _ ea)
  exact PySem.W.kia_one PySem.W.kitx_list I.kIn ⟨_, h1, rfl⟩ e (fun z => nomatch z) h
 | @frz a ob xs ea =>
  cases (show u = Value.ref a from rx)
  obtain ⟨_, _, _, n, _, h1⟩ := (show ObjOk X.prog X.w H s.heap a (.frz ob (.lst xs)) from I.hok a _ ea)
  exact PySem.W.kia_one PySem.W.kitx_list I.kIn ⟨_, h1, rfl⟩ e (fun z => nomatch z) h
 | @tup a xs ea =>
  cases (show u = Value.ref a from rx)
  obtain ⟨_, _, _, p⟩ := (show ObjOk X.prog X.w H s.heap a (.tup xs) from I.hok a _ ea)
  obtain ⟨o, h1, h2, _⟩ := p
  exact PySem.W.kia_one PySem.W.kitx_tuple I.kIn ⟨o, h1, h2⟩ e (fun z => nomatch z) h
 | @dK a kvs ea =>
  cases (show u = Value.ref a from rx)
  obtain ⟨_, _, vs, _, p⟩ := (show ObjOk X.prog X.w H s.heap a (.dK kvs) from I.hok a _ ea)
  obtain ⟨o, es, ep, h1, h2, _⟩ := p
  exact PySem.W.kia_one PySem.W.kitx_dict I.kIn ⟨o, h1, h2.1⟩ e (fun z => nomatch z) h
 | @dT a kvs ea =>
  cases (show u = Value.ref a from rx)
  obtain ⟨_, _, xs, _, o, es, ep, h1, h2, _⟩ := (show ObjOk X.prog X.w H s.heap a (.dT kvs) from I.hok a _ ea)
  exact PySem.W.kia_one PySem.W.kitx_dict I.kIn ⟨o, h1, h2.1⟩ e (fun z => nomatch z) h
 | @ins a C dx fs ea cl ha hn htk hm =>
  cases (show u = Value.ref a from rx)
  obtain ⟨mA, O, _⟩ := zi7 I.hok ea
  obtain ⟨od, J, _⟩ := O.look
  exact PySem.W.kia_one (PySem.W.kitx_own (cl.get _) cl.hd ha hn htk hm) I.kIn J e (fun z => nomatch z) h
end
end L2
namespace L2
open PySem PySem.Spec PyProof.Rows
structure Room (k : Nat) (A : Around) : Prop where
 hd : A.handled = none
 dp : A.depth + 3 * k + 5 < recursionLimit
 un : A.units + 16 * k + 200 < cLine
theorem Room.mono {j k : Nat} {A : Around} (r : Room k A) (h : j ≤ k) : Room j A := ⟨r.hd, by have := r.dp; omega, by have := r.un; omega⟩
theorem Room.deeper {k : Nat} {A : Around} (r : Room (k + 1) A) (env : Env) : Room k (A.deeper env) :=
 ⟨r.hd, by have := r.dp; show A.depth + 1 + 3 * k + 5 < _; omega, by have := r.un; show A.units + 3 + 16 * k + 200 < _; omega⟩
theorem zo1 {A : Around} {C : Addr} {us : List Value} {kw : List (Str × Value)} : (A.under (.builtin "type.__call__" ⟨.ref C :: us, kw⟩)).depth = A.depth + 1 := by
 first | rfl | simp [Around.under, Code.weight, Code.isCreation, Code.isGuard, Code.isCaller, Code.frames, Code.isFrame, guardIds]
theorem zps {A : Around} {C : Addr} {us : List Value} {kw : List (Str × Value)} : (A.under (.builtin "type.__call__" ⟨.ref C :: us, kw⟩)).units = A.units + 1 := by
 first | rfl | simp [Around.under, Code.cUnits, Code.frames, Code.isFrame]
theorem Room.make {k : Nat} {A : Around} (r : Room (k + 1) A) (C : Addr) (us : List Value) (kw : List (Str × Value)) : Room k (A.under (.builtin "type.__call__" ⟨.ref C :: us, kw⟩)) :=
 ⟨r.hd, by have := r.dp; rw [zo1]; omega, by have := r.un; rw [zps]; omega⟩
theorem Room.depth {k : Nat} {A : Around} (r : Room k A) : A.depth < recursionLimit := by have := r.dp; omega
theorem Room.units {k : Nat} {A : Around} (r : Room k A) : A.units + 64 < cLine := by have := r.un; omega
def zxw : TA := fun _ H Q => Q [] H
def zx1 (ta : TE) (tr : TA) : TA := fun σ H Q => ta σ H fun x H1 => tr σ H1 fun xs H2 => Q (x :: xs) H2
section
variable {X : Cx} {e : Expr} {es : List Expr} {te : TE} {t : TA} {pos : Pos}
theorem zac : PA X [] zxw := fun _ _ _ _ H Q I h => Calls.spliced_nil ⟨[], H, I, .nil, h⟩
theorem zaa (ha : PE X e te) (hr : PA X es t) (hs : starEach (e :: es) X.env = (false, eval e X.env) :: starEach es X.env := by rfl) : PA X (e :: es) (zx1 te t) := by
 intro pos pins s σ H Q I h
 rw [hs]
 show wpAny _ _ (spliced ((false, eval e X.env) :: backTo pos (starEach es X.env))) _ _ s
 refine Calls.spliced_cons (thn (ha pins s σ H _ I h) fun u s1 ⟨x, H1, I1, r1, q1⟩ => ?_)
 exact thn (hr pos pins s1 σ H1 _ I1 q1) fun us s2 ⟨xs, H2, I2, r2, q2⟩ => ⟨x :: xs, H2, I2, .cons r1 r2, q2⟩
def zy2 (t : TA) : TE := fun σ H Q => t σ H fun xs H1 => xs.length ≤ sizeLine ∧ ∀ p, H1 p = none → Q (.ref p) (upd H1 p (.tup xs))
def zyq (t : TA) : TE := fun σ H Q => t σ H fun xs H1 => xs.length ≤ sizeLine ∧ ∀ p, H1 p = none → Q (.ref p) (upd H1 p (.lst xs))
theorem za9 {x1} (h : PA X es t) : PE X (.Tuple es x1 pos) (zy2 t) := by
 intro pins s σ H Q I hq
 refine wpAny_Tuple_spliced (thn (h pos pins s σ H _ I hq) fun us s1 ⟨xs, H1, I1, r, z, q⟩ => ⟨by rw [← r.length]; exact z, ?_⟩)
 have hf : H1 s1.heap.objs.size = none := I1.hok.fresh (Nat.le_refl _)
 refine ⟨.ref s1.heap.objs.size, upd H1 s1.heap.objs.size (.tup xs), I1.laid (t' := s1.toks) (fun b u e => Heap.get?_push_of_some _ e) (Nat.le_refl _) ?_, rfl, q _ hf⟩
 exact ⟨z, us, r, ⟨_, Heap.get?_push_size _ rfl, rfl, _, rfl⟩⟩
theorem za7 (h : PA X es t) : PE X (.List es pos) (zyq t) := by
 intro pins s σ H Q I hq
 refine wpAny_List_spliced (thn (h pos pins s σ H _ I hq) fun us s1 ⟨xs, H1, I1, r, z, q⟩ => ⟨by rw [← r.length]; exact z, ?_⟩)
 have hf : H1 s1.heap.objs.size = none := I1.hok.fresh (Nat.le_refl _)
 refine ⟨.ref s1.heap.objs.size, upd H1 s1.heap.objs.size (.lst xs), I1.laid (t' := s1.toks) (fun b u e => Heap.get?_push_of_some _ e) (Nat.le_refl _) ?_, rfl, q _ hf⟩
 exact ⟨z, us, 0, r, Heap.get?_push_size _ rfl⟩
end
abbrev Sp := List V → Hp → VK → XK → Prop
abbrev CXT := List Env → Hp → Shared → XK → Value → Shared → Prop
structure Env0 (P : Program) (w : World) (K : PySem.W.Frag) (mg : Str → Option Value) (base : Heap) (A : Around) (outer : List Env) (s : Shared) (H : Hp) : Prop where
 frames : A.frames = some outer
 mod : Mod K mg base
 bs : ∀ b o, base.get? b = some o → s.heap.get? b = some o ∧ H b = none
 bsz : base.objs.size ≤ s.heap.objs.size
 funs : s.heap.FunFrames base outer
 frf : ∀ b ∈ frs outer, H b = none
 hok : HOk P w H s.heap
 bare : AllBare s.gens
def CE (outer : List Env) (P : Program) (w : World) (H : Hp) (s : Shared) (Q : VK) (u : Value) (s' : Shared) : Prop :=
 ∃ v H', s'.os = s.os ∧ AllBare s'.gens ∧ Un (frs outer) [] H H' s.heap s'.heap ∧ HOk P w H' s'.heap ∧ RelV v u ∧ Q v H'
def CR (CX : CXT) (outer : List Env) (P : Program) (w : World) (H : Hp) (s : Shared) (Q : VK) (E : XK) (r : Result) (s' : Shared) : Prop :=
 match r with
 | .ok (.ret u) => CE outer P w H s Q u s'
 | .ok _ => False
 | .error e => CX outer H s E e s'
structure FnOk (P : Program) (w : World) (K : PySem.W.Frag) (mg : Str → Option Value) (base : Heap) (CX : CXT) (k : Nat) (f : Addr) (fd : FuncData) (ps : List Str) (sp : Sp) : Prop where
 len : ∀ vs H Q E, sp vs H Q E → vs.length = ps.length
 run : ∀ (A : Around) (outer : List Env) (s : Shared) (H : Hp) (args : Args) (us : List Value) (vs : List V) (Q : VK) (E : XK), Room k A → Env0 P w K mg base A outer s H → BindsTo s fd args (ps.zip us) → Vals vs us → sp vs H Q E →
  codeAny (model P w) A (.call (.ref f) args) (CR CX outer P w H s Q E) s
theorem FnOk.imp {P : Program} {w : World} {K : PySem.W.Frag} {mg : Str → Option Value} {base : Heap} {CX : CXT} {k : Nat} {f : Addr} {fd : FuncData} {ps : List Str} {sp sp' : Sp} (F : FnOk P w K mg base CX k f fd ps sp)
  (h : ∀ vs H Q E, sp' vs H Q E → sp vs H Q E) : FnOk P w K mg base CX k f fd ps sp' :=
 ⟨fun vs H Q E q => F.len vs H Q E (h _ _ _ _ q), fun A outer s H args us vs Q E hr he hb hv hs => F.run A outer s H args us vs Q E hr he hb hv (h _ _ _ _ hs)⟩
theorem Env0.make {P : Program} {w : World} {K : PySem.W.Frag} {mg : Str → Option Value} {base : Heap} {A : Around} {outer : List Env} {s : Shared} {H : Hp} (e : Env0 P w K mg base A outer s H) (C : Addr) (us : List Value) (kw : List (Str × Value)) :
  Env0 P w K mg base (A.under (.builtin "type.__call__" ⟨.ref C :: us, kw⟩)) outer s H := ⟨by first | exact e.frames | (simpa [Around.under, Code.envs, Code.isFrame, pushEnvs] using e.frames), e.mod, e.bs, e.bsz, e.funs, e.frf, e.hok, e.bare⟩
section
variable {X : Cx} {pins : List (Addr × Obj)} {σ : St} {H : Hp} {s s' : Shared}
theorem Inv.env0 (I : Inv X pins σ H s) : Env0 X.prog X.w X.K X.mg X.base X.A X.stack s H :=
 ⟨I.ok.frames, I.ok.mod, I.bs, Nat.le_trans I.ok.bsz I.sz, I.stack, I.stkFree, I.hok, I.bare⟩
theorem Inv.after {Q : VK} {u : Value} (I : Inv X pins σ H s) (h : CE X.stack X.prog X.w H s Q u s') : EP X pins σ Q u s' := by
 obtain ⟨v, H', os, bare, un, hok, r, q⟩ := h
 obtain ⟨hh, g, d, t, os'⟩ := s'
 obtain rfl : os' = s.os := os
 exact ⟨v, H', I.call (h' := hh) (g' := g) (d' := d) (t' := t) (ch := []) un hok bare (fun b z => absurd z (by simp)), r, q⟩
end
def zv3 (sp : Sp) (dvs : List V) (E : XK) (t : TA) : TE := fun σ H Q => t σ H fun vs H1 => sp (vs ++ dvs) H1 Q E
def zv1 (C : Addr) (m : Str) (sp : Sp) (dvs : List V) (E : XK) (ta : TE) (t : TA) : TE := fun σ H Q => ta σ H fun x H1 => ∃ a dx fs, x = .ref a ∧ H1 a = some (.ins C dx fs) ∧ fs.lookup m = none ∧
 t σ H1 fun vs H2 => sp (x :: (vs ++ dvs)) H2 Q E
def zyg (C : Addr) (sp : Sp) (dvs : List V) (E : XK) (t : TA) : TE := fun σ H Q => t σ H fun vs H1 => ∀ x dx, H1 x = none → H1 dx = none → dx ≠ x →
 sp (.ref x :: (vs ++ dvs)) (upd (upd H1 dx (.own x)) x (.ins C dx [])) (fun v H2 => v = .non ∧ Q (.ref x) H2) E
def Binds (K : PySem.W.Frag) (fd : FuncData) (ps : List Str) (ds : List Value) : Prop :=
 ∀ (s : Shared) (us : List Value), K.In s.heap → (us ++ ds).length = ps.length → BindsTo s fd ⟨us, []⟩ (ps.zip (us ++ ds))
theorem Binds.all {K : PySem.W.Frag} {fd : FuncData} {ps : List Str} (h : ∀ us : List Value, us.length = ps.length → bindArgs fd ⟨us, []⟩ = pure (ps.zip us)) : Binds K fd ps [] := fun s us _ hl => by
 rw [List.append_nil] at hl ⊢
 exact .of_eq (h us hl)
def zg4 (CX : CXT) (X : Cx) (E : XK) : Prop := ∀ (pins : List (Addr × Obj)) (σ : St) (H : Hp) (s : Shared) (e : Value) (s' : Shared), Inv X pins σ H s → CX X.stack H s E e s' → X.xe e s'
section
variable {X : Cx} {CX : CXT} {k : Nat} {f C : Addr} {fd : FuncData} {ps : List Str} {sp : Sp} {dvs : List V} {ds : List Value} {E : XK} {x m : Str} {p pos apos : Pos} {e o : Expr} {es : List Expr} {ta : TE} {t : TA}
theorem zmu {pins : List (Addr × Obj)} {σ : St} {H : Hp} {s : Shared} {Q : VK} {us : List Value} {vs : List V} (F : FnOk X.prog X.w X.K X.mg X.base CX k f fd ps sp) (hr : Room k X.A) (hb : Binds X.K fd ps ds) (hd : Vals dvs ds) (hx : zg4 CX X E)
  (I : Inv X pins σ H s) (r : Vals vs us) (h : sp (vs ++ dvs) H Q E) : wpAny (model X.prog X.w) X.A (call (.ref f) us) (EP X pins σ Q) X.xe s := by
 have r2 : Vals (vs ++ dvs) (us ++ ds) := r.append hd
 have hl : (us ++ ds).length = ps.length := by rw [← r2.length]; exact F.len _ _ _ _ h
 refine wpAny_call (codeAny_mono (F.run X.A X.stack s H ⟨us, []⟩ (us ++ ds) (vs ++ dvs) Q E hr I.env0 (hb s us I.kIn hl) r2 h) fun r s' hq => ?_)
 cases r with
 | error e => exact hx pins σ H s e s' I hq
 | ok fl =>
  cases fl with
  | ret u => exact I.after hq
  | next => exact False.elim hq
  | brk => exact False.elim hq
  | cont => exact False.elim hq
theorem zqm (F : FnOk X.prog X.w X.K X.mg X.base CX k f fd ps sp) (hr : Room k X.A) (hg : Gl X x) (hm : X.mg x = some (.ref f)) (hk : PySem.W.keepIn X.K (.ref f) = true) (hb : Binds X.K fd ps ds) (hd : Vals dvs ds) (hx : zg4 CX X E)
  (ha : PA X (e :: es) t) (hdb : (x == ("__debug__" : Str)) = false := by decide) (he : starEach (e :: es) X.env = (false, eval e X.env) :: starEach es X.env := by rfl) (hpl : (backTo pos (starEach es X.env)).any (·.1) = false := by rfl) :
  PE X (.Call (.Name x p) (e :: es) [] pos) (zv3 sp dvs E t) := by
 intro pins s σ H Q I h
 refine wpAny_Call_Name_kw (zmr I hg hm ?_ hdb)
 refine PySem.W.callWith_K (h₀ := X.base) I.ok.mod.kin hk (thn (ha pos pins s σ H _ I h) fun us s1 ⟨vs, H1, I1, r, q⟩ => ⟨I1.kIn, ?_⟩) he hpl
 exact zmu F hr hb hd hx I1 r q
theorem zm7 {pl : Sem Bool} (he : PE X o ta) (c : Cls X.K C) (hm : znp X.K C m f) (F : FnOk X.prog X.w X.K X.mg X.base CX k f fd ps sp) (hr : Room k X.A) (hb : Binds X.K fd ps ds) (hd : Vals dvs ds) (hx : zg4 CX X E) (ha : PA X (e :: es) t)
  (hst : starEach (e :: es) X.env = (false, eval e X.env) :: starEach es X.env := by rfl) (hpl : (backTo pos (starEach es X.env)).any (·.1) = false := by rfl)
  (ht : eval (.Call (.Attribute o m apos) (e :: es) [] pos) X.env = (do
   let ov ← eval o X.env
   standAt apos.atName
   let (f, first) ← holding [ov] (getMethod ov m pl)
   callWith pos f first (backTo pos (starEach (e :: es) X.env)) (backToKw pos (keywordEach [] X.env))) := by rfl) :
  PE X (.Call (.Attribute o m apos) (e :: es) [] pos) (zv1 C m sp dvs E ta t) := by
 intro pins s σ H Q I h
 refine PySem.W.methodCall_KW (pl := pl) (thn (he pins s σ H _ I h) fun u s1 ⟨x, H1, I1, rx, a, dx, fs, ex, ea, l, q⟩ => ?_) ht
 subst ex
 obtain rfl : u = Value.ref a := rx
 refine zj6 I1 ea c hm l ?_
 refine PySem.W.callWith_K (first := [.ref a]) (h₀ := X.base) I.ok.mod.kin hm.kp (thn (ha pos pins s1 σ H1 _ I1 q) fun us s2 ⟨vs, H2, I2, r, q2⟩ => ⟨I2.kIn, ?_⟩) hst hpl
 exact zmu (us := .ref a :: us) (vs := .ref a :: vs) F hr hb hd hx I2 (.cons rfl r) q2
theorem znh {pl : Sem Bool} (he : PE X o ta) (c : Cls X.K C) (hm : znp X.K C m f) (F : FnOk X.prog X.w X.K X.mg X.base CX k f fd ps sp) (hr : Room k X.A) (hb : Binds X.K fd ps ds) (hd : Vals dvs ds) (hx : zg4 CX X E)
  (ht : eval (.Call (.Attribute o m apos) [] [] pos) X.env = (do
   let ov ← eval o X.env
   standAt apos.atName
   let (f, first) ← holding [ov] (getMethod ov m pl)
   callWith pos f first (backTo pos (starEach [] X.env)) (backToKw pos (keywordEach [] X.env))) := by rfl) :
  PE X (.Call (.Attribute o m apos) [] [] pos) (zv1 C m sp dvs E ta zxw) := by
 intro pins s σ H Q I h
 refine PySem.W.methodCall_KW (pl := pl) (thn (he pins s σ H _ I h) fun u s1 ⟨x, H1, I1, rx, a, dx, fs, ex, ea, l, q⟩ => ?_) ht
 subst ex
 obtain rfl : u = Value.ref a := rx
 refine zj6 I1 ea c hm l ?_
 exact PySem.W.callWith_K0 (first := [.ref a]) I1.kIn hm.kp (zmu (us := [.ref a]) (vs := [.ref a]) F hr hb hd hx I1 (.cons rfl .nil) q)
structure Mk (K : PySem.W.Frag) (C f : Addr) : Prop where
 makes : PySem.W.makesIn K C = true
 init : PySem.W.findIn K (.ref C) "__init__" = some (some (.ref f))
 fn : PySem.W.isFn K (.ref f) = true
 kp : PySem.W.keepIn K (.ref C) = true
theorem zsw {pins : List (Addr × Obj)} {σ : St} {H : Hp} {s : Shared} {Q : VK} {us : List Value} {vs : List V} (M : Mk X.K C f) (F : FnOk X.prog X.w X.K X.mg X.base CX k f fd ps sp) (hr : Room (k + 1) X.A) (hb : Binds X.K fd ps ds) (hd : Vals dvs ds)
  (hx : zg4 CX X E) (I : Inv X pins σ H s) (r : Vals vs us)
  (h : ∀ x dx, H x = none → H dx = none → dx ≠ x → sp (.ref x :: (vs ++ dvs)) (upd (upd H dx (.own x)) x (.ins C dx [])) (fun v H2 => v = .non ∧ Q (.ref x) H2) E) :
  wpAny (model X.prog X.w) X.A (call (.ref C) us) (EP X pins σ Q) X.xe s := by
 have hq := h (s.heap.objs.size + 1) s.heap.objs.size (I.hok.fresh (Nat.le_succ _)) (I.hok.fresh (Nat.le_refl _)) (Nat.ne_of_lt (Nat.lt_succ_self _))
 have I2 := Inv.made (C := C) I
 have r2 : Vals (V.ref (s.heap.objs.size + 1) :: (vs ++ dvs)) (Value.ref (s.heap.objs.size + 1) :: (us ++ ds)) := .cons rfl (r.append hd)
 have hl : (Value.ref (s.heap.objs.size + 1) :: us ++ ds).length = ps.length := by
  have e := r2.length
  rw [F.len _ _ _ _ hq] at e
  exact e.symm
 refine wpAny_call (zt2 (f := f) I.kIn M.makes M.init (beq_iff_eq.mp M.fn) (codeAny_mono (F.run _ X.stack _ _ ⟨Value.ref (s.heap.objs.size + 1) :: us, []⟩ (Value.ref (s.heap.objs.size + 1) :: (us ++ ds)) _ _ E (hr.make C us [])
  (I2.env0.make C us []) (hb _ (Value.ref (s.heap.objs.size + 1) :: us) I2.kIn hl) r2 hq) fun r s' hq' => ?_))
 cases r with
 | error e => exact hx pins σ _ _ e s' I2 hq'
 | ok fl =>
  cases fl with
  | ret u =>
   obtain ⟨v, H', I3, rv, ev, q3⟩ := I2.after hq'
   subst ev
   exact ⟨rv, ⟨V.ref (s.heap.objs.size + 1), H', I3, rfl, q3⟩⟩
  | next => exact False.elim hq'
  | brk => exact False.elim hq'
  | cont => exact False.elim hq'
theorem zux (M : Mk X.K C f) (F : FnOk X.prog X.w X.K X.mg X.base CX k f fd ps sp) (hr : Room (k + 1) X.A) (hg : Gl X x) (hm : X.mg x = some (.ref C)) (hb : Binds X.K fd ps ds) (hd : Vals dvs ds) (hx : zg4 CX X E)
  (ha : PA X (e :: es) t) (hdb : (x == ("__debug__" : Str)) = false := by decide) (he : starEach (e :: es) X.env = (false, eval e X.env) :: starEach es X.env := by rfl) (hpl : (backTo pos (starEach es X.env)).any (·.1) = false := by rfl) :
  PE X (.Call (.Name x p) (e :: es) [] pos) (zyg C sp dvs E t) := by
 intro pins s σ H Q I h
 refine wpAny_Call_Name_kw (zmr I hg hm ?_ hdb)
 refine PySem.W.callWith_K (h₀ := X.base) I.ok.mod.kin M.kp (thn (ha pos pins s σ H _ I h) fun us s1 ⟨vs, H1, I1, r, q⟩ => ⟨I1.kIn, ?_⟩) he hpl
 exact zsw M F hr hb hd hx I1 r q
end
section
variable {X : Cx} {CX : CXT} {k : Nat} {f C : Addr} {fd : FuncData} {ps ks : List Str} {sp : Sp} {E : XK} {x m : Str} {p pos apos kpos : Pos} {e o : Expr} {es : List Expr} {kws : List Keyword} {te ta : TE} {t tk : TA} {nm : Option Str}
variable {g : List Value → List Value → List Value} {gV : List V → List V → List V}
end
structure zav (N P : List Str) (sc : Scope) : Prop where
 kind : sc.kind = .function
 co : sc.isCoroutine = false
 gen : sc.isGenerator = false
 nd : N.Nodup
 pre : N.take P.length = P
 par : ∀ x ∈ P, sc.names.lookup x = some .local ∨ sc.names.lookup x = some .cell
 nofree : ∀ y ∈ sc.names, y.2 ≠ .free
theorem zlt {kindOf : Str → Option NameKind} {x : Str} : ∀ {binds : List (Str × Value)} {m : Str → Option Value}, (∀ v, (x, v) ∉ binds) → bindL kindOf binds m x = m x
 | [], _, _ => rfl
 | (n, v) :: r, m, h => by
  unfold bindL
  rw [zlt fun w hw => h w (List.mem_cons_of_mem _ hw)]
  split
  ·have : x ≠ n := by rintro rfl; exact h v List.mem_cons_self
   simp [this]
  ·rfl
theorem zls {kindOf : Str → Option NameKind} {x : Str} : ∀ {binds : List (Str × Value)} {m : Str → Option Value}, (∀ v, (x, v) ∉ binds) → bindC kindOf binds m x = m x
 | [], _, _ => rfl
 | (n, v) :: r, m, h => by
  unfold bindC
  rw [zls fun w hw => h w (List.mem_cons_of_mem _ hw)]
  split
  ·rfl
  ·have : x ≠ n := by rintro rfl; exact h v List.mem_cons_self
   simp [this]
theorem zli {kindOf : Str → Option NameKind} {x : Str} {v : Value} : ∀ {P : List Str} {vs : List Value} {i : Nat} {m : Str → Option Value}, P.Nodup → P[i]? = some x → vs[i]? = some v → kindOf x = some .local →
  bindL kindOf (P.zip vs) m x = some v
 | [], _, _, _, _, h, _, _ => by simp at h
 | _ :: _, [], _, _, _, _, h, _ => by simp at h
 | p :: P, w :: vs, 0, m, nd, h1, h2, hk => by
  simp at h1 h2; subst h1; subst h2
  show bindL kindOf ((p, w) :: P.zip vs) m p = _
  unfold bindL
  rw [zlt fun v hv => (List.nodup_cons.mp nd).1 (List.of_mem_zip hv).1, if_pos hk]
  simp
 | p :: P, w :: vs, i + 1, m, nd, h1, h2, hk => by
  show bindL kindOf ((p, w) :: P.zip vs) m x = _
  unfold bindL
  exact zli (i := i) (List.nodup_cons.mp nd).2 (by simpa using h1) (by simpa using h2) hk
theorem zly {kindOf : Str → Option NameKind} {x : Str} {v : Value} : ∀ {P : List Str} {vs : List Value} {i : Nat} {m : Str → Option Value}, P.Nodup → P[i]? = some x → vs[i]? = some v → kindOf x ≠ some .local →
  bindC kindOf (P.zip vs) m x = some v
 | [], _, _, _, _, h, _, _ => by simp at h
 | _ :: _, [], _, _, _, _, h, _ => by simp at h
 | p :: P, w :: vs, 0, m, nd, h1, h2, hk => by
  simp at h1 h2; subst h1; subst h2
  show bindC kindOf ((p, w) :: P.zip vs) m p = _
  unfold bindC
  rw [zls fun v hv => (List.nodup_cons.mp nd).1 (List.of_mem_zip hv).1, if_neg hk]
  simp
 | p :: P, w :: vs, i + 1, m, nd, h1, h2, hk => by
  show bindC kindOf ((p, w) :: P.zip vs) m x = _
  unfold bindC
  exact zly (i := i) (List.nodup_cons.mp nd).2 (by simpa using h1) (by simpa using h2) hk
def zhr (N : List Str) (vs : List V) : St := vs.map some ++ List.replicate (N.length - vs.length) none
def zd0 (CX : CXT) (P : Program) (w : World) (K : PySem.W.Frag) (mg : Str → Option Value) (base : Heap) (N : List Str) (qual : Str) (scope : Scope) (f : Addr) (cd : Value) (A : Around) (outer : List Env) (s : Shared) (H : Hp) (E : XK) : Cx where
 prog := P
 w := w
 K := K
 mg := mg
 base := base
 A := A.deeper (envOfC qual scope s.heap.objs.size f cd)
 N := N
 s₀ := s
 H₀ := H
 env := envOfC qual scope s.heap.objs.size f cd
 outer := outer
 stack := envOfC qual scope s.heap.objs.size f cd :: outer
 ex := []
 calm := true
 fn := fun _ => true
 pn := []
 xe := fun e s' => wpAny (model P w) (A.deeper (envOfC qual scope s.heap.objs.size f cd)) (leaving (envOfC qual scope s.heap.objs.size f cd) e) (fun _ s'' => CX outer H s E e s'') (fun e' s'' => CX outer H s E e' s'') s'
theorem znf {sc : Scope} {n : Nat} {x : Str} (h : sc.names.lookup x = some .cell) : ∃ c, (cellsFrom n sc.names []).lookup x = some c := by
 have q := PySem.W.cellsFrom_some sc.names n [] (.inl h)
 exact Option.isSome_iff_exists.mp q
theorem zq9 {CX : CXT} {P : Program} {w : World} {K : PySem.W.Frag} {mg : Str → Option Value} {base : Heap} {N ps : List Str} {qual : Str} {scope : Scope} {f : Addr} {cd : Value} {A : Around} {outer : List Env} {s s1 : Shared} {H : Hp} {E : XK} {us : List Value} {vs : List V}
  (S : zav N ps scope) (hd : A.handled = none) (e0 : Env0 P w K mg base A outer s H) (hl : vs.length = ps.length) (r : Vals vs us)
  (x : InCallC s s.heap.objs.size (bindL (envOfC qual scope s.heap.objs.size f cd).kindOf (ps.zip us) fun _ => none) (cellsFrom (s.heap.objs.size + 1) scope.names []) (bindC (envOfC qual scope s.heap.objs.size f cd).kindOf (ps.zip us) fun _ => none) s1) :
  Inv (zd0 CX P w K mg base N qual scope f cd A outer s H E) [] (zhr N vs) H s1 := by
 have hpl : ps.length ≤ N.length := by have := congrArg List.length S.pre; rw [List.length_take] at this; omega
 obtain ⟨h1, tk, rfl, hk⟩ := x.done
 have noA : ∀ b : Addr, b ∉ (zd0 CX P w K mg base N qual scope f cd A outer s H E).ex := fun b z => absurd (show b ∈ ([] : List Addr) from z) (by simp)
 refine ⟨⟨e0.mod, S.kind, rfl, rfl, Nat.le_refl _, fun y z c h1 h2 => ?_, fun y hy => ?_, fun y c _ h => ?_, fun _ => hd, Around.frames_deeper e0.frames, .inr ⟨rfl, rfl⟩, fun b z => absurd z (noA b), e0.bs, e0.bsz, fun b _ _ => noA b, fun b z => absurd z (noA b), e0.funs, e0.frf⟩,
  rfl, e0.bare, Un.kept hk, ⟨_, x.toInCall.ns, fun i y v h1 h2 h3 => ?_⟩, fun y c h => ⟨_, x.cell y c h⟩, e0.hok.fresh (Nat.le_refl _), fun y c h => ?_, fun p hp => absurd (show p ∈ ([] : List (Addr × Obj)) from hp) (by simp), e0.hok.kept hk, ?_⟩
 ·exact name_of_addr x.apart (PySem.mem_of_lookup h1) (PySem.mem_of_lookup h2)
 ·have hy : scope.names.lookup y = some .cell ∨ scope.names.lookup y = some .free := hy
  rcases hy with hy | hy
  ·exact znf hy
  ·exact absurd rfl (S.nofree _ (PySem.mem_of_lookup hy))
 ·exact Nat.le_of_lt (x.above y c (PySem.mem_of_lookup h))
 ·have hi : i < vs.length := by
   unfold zhr at h2
   by_cases hi : i < vs.length
   ·exact hi
   ·rw [List.getElem?_append_right (by simpa using hi)] at h2
    rw [List.getElem?_replicate] at h2
    split at h2 <;> cases h2
  have ha : vs[i]? = some v := by
   unfold zhr at h2
   rw [List.getElem?_append_left (by simpa using hi), List.getElem?_map] at h2
   cases e : vs[i]? with
   | none => rw [e] at h2; cases h2
   | some a => rw [e] at h2; cases h2; rfl
  obtain ⟨u, hu, rv⟩ := r.get ha
  have hp : ps[i]? = some y := by
   rw [← S.pre, List.getElem?_take_of_lt (by omega)]; exact h1
  have ndP : ps.Nodup := by rw [← S.pre]; exact S.nd.sublist (List.take_sublist _ _)
  refine ⟨u, rv, ?_⟩
  rcases S.par y (List.mem_of_getElem? hp) with k | k
  ·exact .inl ⟨k, zli ndP hp hu k⟩
  ·obtain ⟨c, e⟩ := znf (n := s.heap.objs.size + 1) k
   refine .inr ⟨.inl k, c, e, ?_⟩
   have q := x.cell y c e
   rw [zly ndP hp hu (by show scope.names.lookup y ≠ _; rw [k]; decide)] at q
   exact q
 ·exact e0.hok.fresh (Nat.le_of_lt (x.above y c (PySem.mem_of_lookup h)))
 ·unfold zhr
  show _ = N.length
  rw [List.length_append, List.length_map, List.length_replicate]
  omega
theorem zv6 {CX : CXT} {P : Program} {w : World} {K : PySem.W.Frag} {mg : Str → Option Value} {base : Heap} {k : Nat} {f : Addr} {name qual : Str} {params : Arguments} {body : List Stmt} {scope : Scope} {dV kV doc pm cdv ct oc : Value} {an od : Option Addr}
  {osl : Array (Option Value)} {N ps : List Str} {sp : Sp} (lk : K.lookup f = some ⟨oc, od, .func (PySem.W.fnOf name qual params body scope dV kV doc pm an cdv ct), osl⟩) (hcd : PySem.W.codeIn K cdv qual = true) (S : zav N ps scope)
  (len : ∀ vs H Q E, sp vs H Q E → vs.length = ps.length)
  (hbody : ∀ (A : Around) (outer : List Env) (s : Shared) (H : Hp) (vs : List V) (Q : VK) (E : XK), Room k (A.deeper (envOfC qual scope s.heap.objs.size f cdv)) → sp vs H Q E →
   ∃ t, PSs (zd0 CX P w K mg base N qual scope f cdv A outer s H E) body t ∧ t { nx := fun _ H' => Q .non H', rt := Q } (zhr N vs) H) :
  FnOk P w K mg base CX (k + 1) f (PySem.W.fnOf name qual params body scope dV kV doc pm an cdv ct) ps sp := by
 refine ⟨len, fun A outer s H args us vs Q E hr e0 hb r hsp => ?_⟩
 have hl := len _ _ _ _ hsp
 have KX : K.In s.heap := e0.mod.kin.keeps fun b o e => (e0.bs b o e).1
 have lim : s.heap.NoLimit := e0.mod.nolimit.keeps fun b o e => (e0.bs b o e).1
 have hkind : ∀ y ∈ ps.zip us, scope.names.lookup y.1 = some .local ∨ (scope.names.lookup y.1 = some .cell ∧ ((cellsFrom (s.heap.objs.size + 1) scope.names []).lookup y.1).isSome = true) := fun ⟨n, v⟩ hy => by
  rcases S.par n (List.of_mem_zip hy).1 with q | q
  ·exact .inl q
  ·exact .inr ⟨q, PySem.W.cellsFrom_some _ _ _ (.inl q)⟩
 refine codeAny_call_function hr.depth (KX _ _ lk) rfl S.co S.gen rfl (PySem.W.codeRec_of KX hcd) (hb _ _ _ _ ?_)
 refine wpAny_newFunctionEnv_cells S.kind hkind fun env he s1 x => ?_
 subst he
 refine ⟨lim.keeps x.toInCall.keep, codeAny_func ?_⟩
 obtain ⟨t, ht, hq⟩ := hbody A outer s H vs Q E (hr.deeper _) hsp
 have I : Inv (zd0 CX P w K mg base N qual scope f cdv A outer s H E) [] (zhr N vs) H s1 := zq9 S hr.hd e0 hl r x
 refine wpAny_mono (ht [] s1 (zhr N vs) H _ I hq) (fun fl s' hs => ?_) fun e s' hs => hs
 have fin : ∀ {σ' : St} {H' : Hp} {v : V} {u : Value}, Inv (zd0 CX P w K mg base N qual scope f cdv A outer s H E) [] σ' H' s' → RelV v u → Q v H' → CE outer P w H s Q u s' :=
  fun {σ' H' v u} J rv q => ⟨v, H', J.os, J.bare, J.base, J.hok, rv, q⟩
 cases fl with
 | ret u =>
  obtain ⟨v, σ', H', J, rv, q⟩ := hs
  exact fin J rv q
 | next =>
  obtain ⟨σ', H', J, q⟩ := hs
  exact fin (v := V.non) (u := Value.none) J rfl q
 | brk =>
  obtain ⟨_, _, _, q⟩ := hs
  exact False.elim q
 | cont =>
  obtain ⟨_, _, _, q⟩ := hs
  exact False.elim q
end L2
namespace L2
open PySem PySem.Spec PyProof.Rows
section
variable {X : Cx} {x : Str} {p pos : Pos} {e : Expr} {es : List Expr} {t : TA} {id T : String} {r : List V → Hp → VK → Prop}
def tCB (r : List V → Hp → VK → Prop) (t : TA) : TE := fun σ H Q => t σ H fun vs H1 => r vs H1 Q
theorem za3 (hc : zes X (.builtin id) r) (hg : Gl X x) (hm : X.mg x = none) (hv : bootBuiltins x = some (.builtin id)) (ha : PA X (e :: es) t) (hn : x ≠ "__name__" := by decide) (hdb : (x == ("__debug__" : Str)) = false := by decide)
  (he : starEach (e :: es) X.env = (false, eval e X.env) :: starEach es X.env := by rfl) (hpl : (backTo pos (starEach es X.env)).any (·.1) = false := by rfl) : PE X (.Call (.Name x p) (e :: es) [] pos) (tCB r t) := by
 intro pins s σ H Q I h
 refine wpAny_Call_Name_kw (zii I hg hm hv ?_ hn hdb)
 exact PyProof.Rows.callWith_builtin1 (thn (ha pos pins s σ H _ I h) fun us s1 ⟨vs, H1, I1, r1, q1⟩ => hc pins s1 σ H1 vs us Q I1 r1 q1) he hpl
theorem zb0 (hc : zes X (.type T) r) (hg : Gl X x) (hm : X.mg x = none) (hv : bootBuiltins x = some (.type T)) (ha : PA X (e :: es) t) (hn : x ≠ "__name__" := by decide) (hdb : (x == ("__debug__" : Str)) = false := by decide)
  (he : starEach (e :: es) X.env = (false, eval e X.env) :: starEach es X.env := by rfl) (hpl : (backTo pos (starEach es X.env)).any (·.1) = false := by rfl) : PE X (.Call (.Name x p) (e :: es) [] pos) (tCB r t) := by
 intro pins s σ H Q I h
 refine wpAny_Call_Name_kw (zii I hg hm hv ?_ hn hdb)
 exact PyProof.Rows.callWith_type1 (thn (ha pos pins s σ H _ I h) fun us s1 ⟨vs, H1, I1, r1, q1⟩ => hc pins s1 σ H1 vs us Q I1 r1 q1) he hpl
end
end L2
namespace HT
open PySem PyProof.Rows
section
open PySem.SeqAt
open PySem.AutoSeq1 (wpAny_loadPart')
open PySem.MeetsSeq PySem.MeetsSeq2 PySem.MeetsSeq3
end
section
variable {prog : Program} {w : World} {A : Around} {E : Value → Shared → Prop} {s : Shared}
end
end HT
namespace L2
open PySem PySem.Spec PyProof.Rows
theorem zgs {ns : List Int} : ∀ {us : List Value}, Vals (ns.map V.int) us → IntsAre us ns := by
 induction ns with
 | nil => intro us r; rw [List.map_nil] at r; cases r; exact .nil
 | cons n ns ih =>
  intro us r
  rw [List.map_cons] at r
  cases r with
  | cons r1 r2 =>
   obtain ⟨t, e⟩ := r1
   subst e
   exact .cons n t (ih r2)
section
variable {X : Cx} {e : Expr} {te : TE} {lo hi : Option Expr} {tl th : TO} {pos p2 : Pos}
end
end L2
namespace L2
open PySem PySem.Spec PyProof.Rows
def ixN (n : Nat) (i : Int) : Option Nat := if 0 ≤ i then (if i < n then some i.toNat else none) else if -(n : Int) ≤ i then some (i + n).toNat else none
def atI {α : Type} (xs : List α) (i : Int) : Option α := (ixN xs.length i).bind fun j => xs[j]?
theorem zqr {n : Nat} {i : Int} {j : Nat} (h : ixN n i = some j) : seqIndex? i n = some j ∧ j < n ∧ -(n : Int) ≤ i ∧ i < n := by
 unfold ixN at h
 by_cases h0 : 0 ≤ i
 ·rw [if_pos h0] at h
  by_cases h1 : i < n
  ·rw [if_pos h1] at h
   have e : i.toNat = j := Option.some.inj h
   exact ⟨by rw [seqIndex_of h0 h1, e], by omega, by omega, h1⟩
  ·rw [if_neg h1] at h; cases h
 ·rw [if_neg h0] at h
  by_cases h1 : -(n : Int) ≤ i
  ·rw [if_pos h1] at h
   have e : (i + n).toNat = j := Option.some.inj h
   exact ⟨by rw [seqIndex_neg (by omega) h1, e], by omega, h1, by omega⟩
  ·rw [if_neg h1] at h; cases h
theorem zqu {α : Type} {xs : List α} {i : Int} {v : α} (h : atI xs i = some v) : ∃ j, seqIndex? i xs.length = some j ∧ xs[j]? = some v ∧ j < xs.length ∧ -(xs.length : Int) ≤ i ∧ i < xs.length := by
 unfold atI at h
 cases e : ixN xs.length i with
 | none => rw [e] at h; cases h
 | some j =>
  rw [e] at h
  obtain ⟨h1, h2, h3, h4⟩ := zqr e
  exact ⟨j, h1, h, h2, h3, h4⟩
theorem zdj {α : Type} {xs : List α} {j : Nat} {v : α} (h : xs[j]? = some v) : atI xs (j : Int) = some v := by
 have hj : j < xs.length := (List.getElem?_eq_some_iff.mp h).1
 have e : ixN xs.length (j : Int) = some j := by
  unfold ixN
  rw [if_pos (by omega), if_pos (by omega)]; simp
 unfold atI; rw [e]; exact h
def zva (b : Expr) : Prop := ∀ o i, subscripted b false o i = operate [o, i] (getItem o i)
def IxR (X : Cx) (r : R2) : Prop :=
 ∀ (value slice : Expr) (pins : List (Addr × Obj)) (s : Shared) (σ : St) (H : Hp) (x y : V) (v u : Value) (Q : VK), Inv X pins σ H s → RelV x v → RelV y u → r x y H Q →
  subscripted slice false v u = operate [v, u] (getItem v u) → wpAny (model X.prog X.w) X.A (subscriptTail value slice v u) (EP X pins σ Q) X.xe s
def MtR (X : Cx) (id : String) (r : V → List V → Hp → VK → Prop) : Prop :=
 ∀ (pins : List (Addr × Obj)) (s : Shared) (σ : St) (H : Hp) (x : V) (xs : List V) (v : Value) (us : List Value) (Q : VK), Inv X pins σ H s → RelV x v → Vals xs us → r x xs H Q →
  wpAny (model X.prog X.w) X.A (call (.builtin id) (v :: us)) (EP X pins σ Q) X.xe s
section
variable {X : Cx} {a b : Expr} {ta tb : TE} {pos : Pos}
theorem zaw {r : R2} (hr : IxR X r) (ha : PE X a ta) (hb : PE X b tb) (hs : zva b) : PE X (.Subscript a b pos) (tOp r ta tb) := by
 intro pins s σ H Q I h
 exact Subscript_ (zwx ha hb I h fun v u s2 x y H2 I2 rx ry q => hr a b pins s2 σ H2 x y v u Q I2 rx ry q (hs _ _))
def zxt (K : PySem.W.Frag) : R2 := fun x y H Q => ∃ p xs i v, x = .ref p ∧ y = .int i ∧ SqL K H p xs ∧ atI xs i = some v ∧ Q v H
def zx4 (K : PySem.W.Frag) : R2 := fun x y H Q => ∃ p xs i v, x = .ref p ∧ y = .int i ∧ SqT K H p xs ∧ atI xs i = some v ∧ Q v H
theorem zvs : IxR X (zxt X.K) := by
 intro value slice pins s σ H x y v u Q I rx ry h hs
 obtain ⟨p, xs, i, z, rfl, rfl, hq, he, q⟩ := h
 cases rx
 obtain ⟨t, rfl⟩ := ry
 obtain ⟨its, r, pl, hz⟩ := I.list hq
 obtain ⟨j, h1, h2, h3, h4, h5⟩ := zqu he
 obtain ⟨w, ew, rw'⟩ := r.get h2
 have hl := r.length
 have hn := zkm
 have fin : EP X pins σ Q w s := ⟨z, H, I, rw', q⟩
 by_cases h0 : 0 ≤ i
 ·have hj : i.toNat = j := by
   rw [seqIndex_of h0 h5] at h1
   exact Option.some.inj h1
  exact item_listR pl.isList h0 (by omega) (by rw [hj]; simpa using ew) fin hs
 ·have hj : (i + (its.toArray.size : Int)).toNat = j := by
   rw [seqIndex_neg (by omega) h4] at h1
   rw [List.size_toArray, ← hl]
   exact Option.some.inj h1
  exact subscriptTail_builtinR (x := w) pl.isList.typeIs slot_list_getitem.lookup
   (wpAny_getItem_list_neg (Q := fun r s' => r = w ∧ EP X pins σ Q r s') pl.isList (by omega) (by rw [List.size_toArray] <;> omega) (by omega) (by rw [hj]; simpa using ew) ⟨rfl, fin⟩) hs
theorem zxg : IxR X (zx4 X.K) := by
 intro value slice pins s σ H x y v u Q I rx ry h hs
 obtain ⟨p, xs, i, z, rfl, rfl, hq, he, q⟩ := h
 cases rx
 obtain ⟨t, rfl⟩ := ry
 obtain ⟨its, r, pl, hz⟩ := I.tuple hq
 obtain ⟨j, h1, h2, h3, h4, h5⟩ := zqu he
 obtain ⟨w, ew, rw'⟩ := r.get h2
 have hl := r.length
 have hn := zkm
 have fin : EP X pins σ Q w s := ⟨z, H, I, rw', q⟩
 exact subscriptTail_builtinR (x := w) pl.typeIs slot_tuple_getitem.lookup
  (getItem_tuple (j := j) (Q := fun r s' => r = w ∧ EP X pins σ Q r s') pl (by omega) (by omega) (by rw [List.size_toArray, ← hl]; exact h1) (by simpa using ew) ⟨rfl, fin⟩) hs
theorem zpy (its : List Value) (n j : Nat) (u : Value) : Obj.mapSeq (·.setIfInBounds j u) { cls := .type "list", data := .seq its.toArray n } = { cls := .type "list", data := .seq (its.set j u).toArray n } := by
 simp [Obj.mapSeq]
theorem Inv.lst {pins : List (Addr × Obj)} {σ : St} {H : Hp} {s : Shared} {p : Addr} {xs : List V} (I : Inv X pins σ H s) (h : H p = some (.lst xs)) :
  ∃ (its : List Value) (n : Nat), Vals xs its ∧ s.heap.get? p = some { cls := .type "list", data := .seq its.toArray n } ∧ xs.length ≤ sizeLine := by
 obtain ⟨z, its, n, r, e⟩ := I.hok p _ h
 exact ⟨its, n, r, e, z⟩
theorem Inv.lstUpd {pins : List (Addr × Obj)} {σ : St} {H : Hp} {s : Shared} {p : Addr} {xs ys : List V} {its its' : List Value} {n n' : Nat} {f : Obj → Obj} (I : Inv X pins σ H s) (h : H p = some (.lst xs))
  (ho : s.heap.get? p = some { cls := .type "list", data := .seq its.toArray n }) (hf : f { cls := .type "list", data := .seq its.toArray n } = { cls := .type "list", data := .seq its'.toArray n' }) (r : Vals ys its') (hz : ys.length ≤ sizeLine) (t : Nat) :
  Inv X pins σ (upd H p (.lst ys)) { s with heap := s.heap.update p f, toks := t } := by
 have e : (s.heap.update p f).get? p = some { cls := .type "list", data := .seq its'.toArray n' } := by
  rw [Heap.get?_update_self f ho (by rw [hf] <;> rfl), hf]
 refine I.write (x := p) (e := p) (by rw [h]; trivial) (.inl rfl) (fun b u hb q => (Heap.get?_update_other _ _ (Ne.symm hb)).trans q) ⟨_, e⟩ ?_
 exact ⟨hz, its', n', r, e⟩
def zyb : V → V → V → Hp → (Hp → Prop) → Prop := fun o i v H Q => ∃ p xs k j, o = .ref p ∧ i = .int k ∧ H p = some (.lst xs) ∧ ixN xs.length k = some j ∧ Q (upd H p (.lst (xs.set j v)))
theorem zod : zyj X zyb := by
 intro pins s σ H o i v ov iv u Q I ro ri rv h
 obtain ⟨p, xs, k, j, rfl, rfl, hp, hj, q⟩ := h
 cases ro
 obtain ⟨t, rfl⟩ := ri
 obtain ⟨its, n, r, ho, hz⟩ := I.lst hp
 obtain ⟨h1, h2, h3, h4⟩ := zqr hj
 have hl := r.length
 have hn := zkm
 have I' : Inv X pins σ (upd H p (.lst (xs.set j v))) { s with heap := s.heap.update p (Obj.mapSeq (·.setIfInBounds j u)) } :=
  I.lstUpd hp ho (zpy its n j u) (r.set rv j) (by rw [List.length_set]; exact hz) s.toks
 by_cases h0 : 0 ≤ k
 ·have hk : k.toNat = j := by
   rw [seqIndex_of h0 h4] at h1
   exact Option.some.inj h1
  exact PySem.W.ki_setAt ho h0 (by omega) (by rw [List.size_toArray, ← hl]; exact h4) (by rw [hk]; exact ⟨_, I', q⟩)
 ·have hk : (k + (its.toArray.size : Int)).toNat = j := by
   rw [seqIndex_neg (by omega) h3] at h1
   rw [List.size_toArray, ← hl]
   exact Option.some.inj h1
  exact PySem.W.ki_setBack ho (by omega) (by rw [List.size_toArray, ← hl]; exact h3) (by omega) (by rw [hk]; exact ⟨_, I', q⟩)
def zho : V → Bool
 | .non => true
 | .bl _ => true
 | .int _ => true
 | .str _ => true
 | _ => false
def eqV : V → V → Bool
 | .non, .non => true
 | .bl a, .bl b => a == b
 | .bl a, .int b => (if a then 1 else 0) == b
 | .int a, .bl b => a == (if b then 1 else 0)
 | .int a, .int b => a == b
 | .str a, .str b => a == b
 | _, _ => false
theorem zw6 {A : Around} {s : Shared} {y x : V} {u v : Value} (ry : RelV y u) (rx : RelV x v) (fy : zho y = true) (fx : zho x = true) : SeqAt.EqAt A s u v (eqV y x) := by
 cases y with
 | non =>
  cases ry
  cases x with
  | non => cases rx; exact SeqAt.EqAt.same _
  | bl b => cases rx; exact SeqAt.EqAt.none_bool b
  | int b => obtain ⟨t, rfl⟩ := rx; exact SeqAt.EqAt.none_int b t
  | str b => obtain ⟨t, rfl⟩ := rx; exact SeqAt.EqAt.none_str b t
  | _ => exact absurd (show false = true from fx) Bool.false_ne_true
 | bl a =>
  cases ry
  cases x with
  | non => cases rx; exact SeqAt.EqAt.bool_none a
  | bl b => cases rx; exact SeqAt.EqAt.bool_bool a b
  | int b => obtain ⟨t, rfl⟩ := rx; exact SeqAt.EqAt.bool_int a b t
  | str b => obtain ⟨t, rfl⟩ := rx; exact SeqAt.EqAt.bool_str a b t
  | _ => exact absurd (show false = true from fx) Bool.false_ne_true
 | int a =>
  obtain ⟨t', rfl⟩ := ry
  cases x with
  | non => cases rx; exact SeqAt.EqAt.int_none a t'
  | bl b => cases rx; exact SeqAt.EqAt.int_bool a t' b
  | int b => obtain ⟨t, rfl⟩ := rx; exact SeqAt.EqAt.int_int a t' b t
  | str b => obtain ⟨t, rfl⟩ := rx; exact SeqAt.EqAt.int_str a t' b t
  | _ => exact absurd (show false = true from fx) Bool.false_ne_true
 | str a =>
  obtain ⟨t', rfl⟩ := ry
  cases x with
  | non => cases rx; exact SeqAt.EqAt.str_none a t'
  | bl b => cases rx; exact SeqAt.EqAt.str_bool a t' b
  | int b => obtain ⟨t, rfl⟩ := rx; exact SeqAt.EqAt.str_int a t' b t
  | str b => obtain ⟨t, rfl⟩ := rx; exact SeqAt.EqAt.str_str a t' b t
  | _ => exact absurd (show false = true from fx) Bool.false_ne_true
 | _ => exact absurd (show false = true from fy) Bool.false_ne_true
def eqU (x : V) (u : Value) : Bool := match u with
 | .none => eqV .non x
 | .bool b => eqV (.bl b) x
 | .int i _ => eqV (.int i) x
 | .str z _ => eqV (.str z) x
 | _ => false
theorem zui {x y : V} {u : Value} (r : RelV y u) (f : zho y = true) : eqU x u = eqV y x := by
 cases y with
 | non => cases r; rfl
 | bl b => cases r; rfl
 | int i => obtain ⟨t, rfl⟩ := r; rfl
 | str z => obtain ⟨t, rfl⟩ := r; rfl
 | _ => exact absurd (show false = true from f) Bool.false_ne_true
theorem zmj {x : V} : ∀ {xs : List V} {us : List Value}, Vals xs us → xs.all zho = true → us.any (eqU x) = xs.any fun y => eqV y x
 | _, _, .nil, _ => rfl
 | y :: xs, u :: us, .cons r t, f => by
  rw [List.all_cons, Bool.and_eq_true] at f
  rw [List.any_cons, List.any_cons, zui r f.1, zmj t f.2]
theorem zko {A : Around} {s : Shared} {x : V} {v : Value} (rx : RelV x v) (fx : zho x = true) : ∀ {xs : List V} {us : List Value}, Vals xs us → xs.all zho = true → ∀ u ∈ us, SeqAt.EqAt A s u v (eqU x u)
 | _, _, .nil, _ => fun u hu => by cases hu
 | y :: xs, u :: us, .cons r t, f => fun u' hu => by
  rw [List.all_cons, Bool.and_eq_true] at f
  rcases List.mem_cons.mp hu with rfl | hu
  ·rw [zui r f.1]; exact zw6 r rx f.1 fx
  ·exact zko rx fx t f.2 u' hu
def inV (x : V) (xs : List V) : Bool := xs.any fun y => eqV y x
def rIn (K : PySem.W.Frag) (neg : Bool) : R2 := fun x y H Q => ∃ p xs, y = .ref p ∧ (SqL K H p xs ∨ SqT K H p xs) ∧ zho x = true ∧ xs.all zho = true ∧ Q (.bl (if neg then !inV x xs else inV x xs)) H
theorem zd3 : OpR X (compareOp .NotIn) (rIn X.K true) := by
 intro pins s σ H x y v u Q I rx ry h
 obtain ⟨p, xs, rfl, hq, fx, fs, q⟩ := h
 cases ry
 rcases hq with hq | hq
 ·obtain ⟨its, r, pl, hz⟩ := I.list hq
  refine SeqAt.notIn_listAt (eqU x) pl.isList (fun w hw => zko rx fx r fs w (by simpa using hw)) ⟨.bl _, H, I, rfl, ?_⟩
  rw [show its.toArray.any (eqU x) = its.any (eqU x) by simp, zmj r fs]
  exact q
 ·obtain ⟨its, r, pl, hz⟩ := I.tuple hq
  refine SeqAt.notIn_tupleAt (eqU x) pl (fun w hw => zko rx fx r fs w (by simpa using hw)) ⟨.bl _, H, I, rfl, ?_⟩
  rw [show its.toArray.any (eqU x) = its.any (eqU x) by simp, zmj r fs]
  exact q
theorem zm1 : zes X (.builtin "len") (fun xs H Q => ∃ p ys, xs = [.ref p] ∧ (SqL X.K H p ys ∨ SqT X.K H p ys) ∧ Q (.int ys.length) H) := by
 intro pins s σ H xs us Q I r h
 obtain ⟨p, ys, rfl, hq, q⟩ := h
 obtain ⟨u, rfl, rx⟩ := zgr r
 cases rx
 have hn := zkm
 rcases hq with hq | hq
 ·obtain ⟨its, r', pl, hz⟩ := I.list hq
  have hlen := r'.length
  exact Calls.call_len_list pl.isList (by simp only [List.size_toArray] <;> omega) ⟨.int ys.length, H, I.tok _, ⟨s.toks + 1, by rw [List.size_toArray, hlen]⟩, q⟩
 ·obtain ⟨its, r', pl, hz⟩ := I.tuple hq
  have hlen := r'.length
  exact len_tuple pl (by simp only [List.size_toArray] <;> omega) ⟨.int ys.length, H, I.tok _, ⟨s.toks + 1, by rw [List.size_toArray, hlen]⟩, q⟩
theorem zd8 : zes X (.type "list") (fun xs H Q => ∃ p ys, xs = [.ref p] ∧ (SqL X.K H p ys ∨ SqT X.K H p ys) ∧ ∀ l, H l = none → Q (.ref l) (upd H l (.lst ys))) := by
 intro pins s σ H xs us Q I r h
 obtain ⟨p, ys, rfl, hq, q⟩ := h
 obtain ⟨u, rfl, rx⟩ := zgr r
 cases rx
 have fin : ∀ (its : List Value), Vals ys its → ys.length ≤ sizeLine → ∀ (h' : Heap) (c' : Nat), (∀ b o', s.heap.get? b = some o' → h'.get? b = some o') →
   h'.get? s.heap.objs.size = some { cls := .type "list", dict := none, data := .seq its.toArray c', slots := #[] } → EP X pins σ Q (.ref s.heap.objs.size) { s with heap := h' } := fun its r' hz h' c' kp e =>
  ⟨.ref s.heap.objs.size, _, I.laid (t' := s.toks) kp (Nat.le_refl _) (show ObjOk X.prog X.w _ h' _ (.lst ys) from ⟨hz, its, c', r', e⟩), rfl, q _ (I.hok.fresh (Nat.le_refl _))⟩
 rcases hq with hq | hq
 ·obtain ⟨its, r', pl, hz⟩ := I.list hq
  have hlen := r'.length
  obtain ⟨o, ho, hc, n, hd⟩ := pl.isList
  exact call_list_seq p (.inl rfl) ho hc hd (fun h' c' kp e => fin its r' hz h' c' kp e) (by simp only [List.size_toArray] <;> omega)
 ·obtain ⟨its, r', pl, hz⟩ := I.tuple hq
  have hlen := r'.length
  obtain ⟨o, ho, hc, n, hd⟩ := pl
  exact call_list_seq p (.inr rfl) ho hc hd (fun h' c' kp e => fin its r' hz h' c' kp e) (by simp only [List.size_toArray] <;> omega)
theorem zdi : zes X (.type "tuple") (fun xs H Q => ∃ p ys, xs = [.ref p] ∧ ((SqL X.K H p ys ∧ ∀ l, H l = none → Q (.ref l) (upd H l (.tup ys))) ∨ (SqT X.K H p ys ∧ Q (.ref p) H))) := by
 intro pins s σ H xs us Q I r h
 obtain ⟨p, ys, rfl, h⟩ := h
 obtain ⟨u, rfl, rx⟩ := zgr r
 cases rx
 rcases h with ⟨hq, q⟩ | ⟨hq, q⟩
 ·obtain ⟨its, r', pl, hz⟩ := I.list hq
  have hlen := r'.length
  refine call_tuple_list pl.isList (fun h' kp => ?_) (by simp only [List.size_toArray] <;> omega)
  have I1 : Inv X pins σ H { s with heap := h' } := I.kept (t' := s.toks) kp
  have I2 : Inv X pins σ (upd H h'.objs.size (.tup ys)) { s with heap := h'.push { cls := .type "tuple", data := .seq its.toArray } } :=
   I1.laid (t' := s.toks) (fun b o e => Heap.get?_push_of_some _ e) (Nat.le_refl _) (show ObjOk X.prog X.w _ _ _ (.tup ys) from ⟨hz, its, r', IsTup.new _ _⟩)
  exact ⟨.ref h'.objs.size, _, I2, rfl, q _ (I1.hok.fresh (Nat.le_refl _))⟩
 ·obtain ⟨its, r', pl, hz⟩ := I.tuple hq
  exact call_tuple_same pl ⟨.ref p, H, I, rfl, q⟩
def tyV (K : PySem.W.Frag) (T : String) (x : V) (H : Hp) : Prop := match x with
 | .str _ => T = "str"
 | .int _ => T = "int"
 | .ref p => (T = "list" ∧ ∃ xs, SqL K H p xs) ∨ (T = "tuple" ∧ ∃ o, K.lookup p = some o ∧ o.cls = .type "tuple" ∧ o.dict = none) ∨
   (T = "dict" ∧ ((∃ kvs, H p = some (.dK kvs)) ∨ ∃ kvs, H p = some (.dT kvs))) ∨ (T = "set" ∧ ∃ S n, H p = some (.set S n))
 | _ => False
theorem zw5 {pins : List (Addr × Obj)} {σ : St} {H : Hp} {s : Shared} {T : String} {x : V} {v : Value} (I : Inv X pins σ H s) (r : RelV x v) (ty : tyV X.K T x H) :
  s.TypeIs v T ∧ ∀ a, v = .ref a → ∃ ob, s.heap.get? a = some ob ∧ ob.dict = none := by
 cases x with
 | str z =>
  obtain ⟨t, rfl⟩ := r
  cases (show T = "str" from ty)
  exact ⟨typeIs_str s z t, fun _ e => nomatch e⟩
 | int i =>
  obtain ⟨t, rfl⟩ := r
  cases (show T = "int" from ty)
  exact ⟨typeIs_int s i t, fun _ e => nomatch e⟩
 | ref p =>
  cases r
  rcases ty with ⟨rfl, xs, hq⟩ | ⟨rfl, o, hk, hc, hd⟩ | ⟨rfl, hk⟩ | ⟨rfl, S, n, hk⟩
  ·obtain ⟨its, _, pl, _⟩ := I.list hq
   refine ⟨pl.isList.typeIs, fun a e => ?_⟩
   cases e
   obtain ⟨o, n, e, c, hd, _⟩ := pl
   exact ⟨o, e, hd⟩
  ·refine ⟨⟨o, I.kIn p o hk, hc⟩, fun a e => ?_⟩
   cases e
   exact ⟨o, I.kIn _ o hk, hd⟩
  ·have z : ∃ o, s.heap.get? p = some o ∧ o.ExactDict := by
    rcases hk with ⟨kvs, hk⟩ | ⟨kvs, hk⟩
    ·obtain ⟨_, _, _, _, o, _, _, e, ex, _⟩ := I.hok p _ hk
     exact ⟨o, e, ex⟩
    ·obtain ⟨_, _, _, _, o, _, _, e, ex, _⟩ := I.hok p _ hk
     exact ⟨o, e, ex⟩
   obtain ⟨o, e, ex⟩ := z
   refine ⟨⟨o, e, ex.1⟩, fun a e2 => ?_⟩
   cases e2
   exact ⟨o, e, ex.2.1⟩
  ·obtain ⟨o, _, _, _, e, ex, _⟩ := I.hok p _ hk
   refine ⟨⟨o, e, ex.1⟩, fun a e2 => ?_⟩
   cases e2
   exact ⟨o, e, ex.2.1⟩
 | _ => exact False.elim ty
def tBM (K : PySem.W.Frag) (T : String) (r : V → List V → Hp → VK → Prop) (to : TE) (t : TA) : TE := fun σ H Q => to σ H fun x H1 => tyV K T x H1 ∧ t σ H1 fun xs H2 => r x xs H2 Q
variable {o e : Expr} {es : List Expr} {to : TE} {t : TA} {name : Str} {apos cpos : Pos} {T id : String} {r : V → List V → Hp → VK → Prop}
theorem zx5 (pa : PlainAttrs T) (slot : Slot T name id) (hty : typeOf (.builtin id) = pure (.type "method_descriptor")) (hm : MtR X id r) (ho : PE X o to) (ha : PA X (e :: es) t)
  (hbase : attributeBase o name X.env (eval o X.env) = eval o X.env := by rfl)
  (hfew : ((backTo cpos (starEach (e :: es) X.env)).all (fun x => !x.1) && (backToKw cpos (keywordEach [] X.env)).all (fun x => x.1.isSome)
   && decide ((e :: es).length + ([] : List Keyword).length + (if ([] : List Keyword).isEmpty then 0 else 1) < 30)) = true := by rfl)
  (hline : (apos.endLine == cpos.line) = true := by rfl) (hs : starEach (e :: es) X.env = (false, eval e X.env) :: starEach es X.env := by rfl) (hplain : (backTo cpos (starEach es X.env)).any (·.1) = false := by rfl) :
  PE X (.Call (.Attribute o name apos) (e :: es) [] cpos) (tBM X.K T r to t) := by
 intro pins s σ H Q I h
 refine wpAny_Call_method_late hbase hfew hline rfl (thn (ho pins s σ H _ I h) fun v s1 ⟨x, H1, I1, r1, ty, q1⟩ => ?_)
 obtain ⟨h1, h2⟩ := zw5 I1 r1 ty
 refine ⟨T, id, pa, slot, hty, h1, h2, ?_⟩
 have hA := ha cpos pins s1 σ H1 _ I1 q1
 rw [hs] at hA ⊢
 refine Calls.callWith_builtin (by show (false || (backTo cpos (starEach es X.env)).any (·.1)) = false; rw [hplain] <;> rfl) (Calls.evalArgs_plain ?_)
 exact thn hA fun us s2 ⟨vs, H2, I2, r2, q2⟩ => hm pins s2 σ H2 x vs v us Q I2 r1 r2 q2
end
end L2
namespace L2
open PySem PySem.Spec PyProof.Rows
def MtM (X : Cx) (id : String) (r : V → List V → Hp → VK → Prop) : Prop :=
 ∀ (pins : List (Addr × Obj)) (s : Shared) (σ : St) (H : Hp) (x : V) (xs : List V) (v : Value) (us : List Value) (Q : VK), Inv X pins σ H s → RelV x v → Vals xs us → r x xs H Q →
  wpAny (model X.prog X.w) X.A (call (.builtin id) (v :: us)) (EP X pins σ Q) X.xe s
theorem Vals.one : ∀ {x : V} {us : List Value}, Vals [x] us → ∃ u, us = [u] ∧ RelV x u
 | _, _, .cons r .nil => ⟨_, rfl, r⟩
section
variable {X : Cx} {pins : List (Addr × Obj)} {σ : St} {H : Hp} {s : Shared} {l b : Addr} {xs ys zs : List V}
theorem Inv.lset {its its' : List Value} {n : Nat} {f : Array Value → Array Value} {t' : Nat} (I : Inv X pins σ H s) (hH : H l = some (.lst xs))
  (e : s.heap.get? l = some { cls := .type "list", data := .seq its.toArray n }) (hf : f its.toArray = its'.toArray) (hv : Vals ys its') (hz : ys.length ≤ sizeLine) :
  Inv X pins σ (upd H l (.lst ys)) { s with heap := s.heap.update l (Obj.mapSeq f), toks := t' } := by
 have q := PySem.IsL.update e f
 rw [hf] at q
 refine I.write (x := l) (e := l) (by rw [hH]; exact trivial) (.inl rfl) (fun b' u hb hu => (Heap.get?_update_other s.heap (Obj.mapSeq f) (Ne.symm hb)).trans hu) ⟨_, q⟩ ?_
 exact ⟨hz, its', _, hv, q⟩
theorem Inv.lnew {its : List Value} {t' : Nat} (I : Inv X pins σ H s) (hv : Vals ys its) (hz : ys.length ≤ sizeLine) :
  Inv X pins σ (upd H s.heap.objs.size (.lst ys)) { s with heap := s.heap.push { cls := .type "list", data := .seq its.toArray }, toks := t' } :=
 I.laid (fun _ _ q => Heap.get?_push_of_some _ q) (Nat.le_refl _) ⟨hz, its, 0, hv, Heap.get?_push_size _ rfl⟩
theorem Inv.fresh (I : Inv X pins σ H s) : H s.heap.objs.size = none := I.hok.fresh (Nat.le_refl _)
theorem Inv.lstM (I : Inv X pins σ H s) (hH : H l = some (.lst xs)) : xs.length ≤ sizeLine ∧ ∃ (its : List Value) (n : Nat), Vals xs its ∧ xs.length = its.length ∧ s.heap.get? l = some { cls := .type "list", data := .seq its.toArray n } := by
 obtain ⟨z, its, n, r, e⟩ := I.hok l _ hH
 exact ⟨z, its, n, r, r.length, e⟩
end
section
variable {X : Cx}
def zu2 : V → List V → Hp → VK → Prop := fun x vs H Q => ∃ l xs y, x = .ref l ∧ vs = [y] ∧ H l = some (.lst xs) ∧ xs.length < sizeLine ∧ Q .non (upd H l (.lst (xs ++ [y])))
theorem zb2 : MtM X "list.append" zu2 := by
 intro pins s σ H x vs v us Q I rx rv h
 obtain ⟨l, xs, y, rfl, rfl, hH, hz, q⟩ := h
 cases rx
 obtain ⟨u, rfl, ru⟩ := rv.one
 obtain ⟨z, its, n, r, hl, e⟩ := I.lstM hH
 refine call_meets F.slot_list_append ⟨_, e, rfl⟩ F.entry_list_append (F.args_list_append_2 _ _) (PySem.list_append l its.toArray n u (by rw [List.size_toArray]; omega)) ⟨e, ?_⟩
 refine ⟨.non, _, I.lset (its' := its ++ [u]) hH e (by simp) (r.append (.cons ru .nil)) ?_, rfl, q⟩
 rw [List.length_append, List.length_singleton]
 omega
def zyo : R2 := fun x y H Q => ∃ l b xs zs, x = .ref l ∧ y = .ref b ∧ H l = some (.lst xs) ∧ H b = some (.lst zs) ∧ xs.length + zs.length ≤ sizeLine ∧ ∀ p, H p = none → Q (.ref p) (upd H p (.lst (xs ++ zs)))
theorem zcz : OpR X (binaryOp .Add) zyo := by
 intro pins s σ H x y v u Q I rx ry h
 obtain ⟨l, b, xs, zs, rfl, rfl, hH, hB, hz, q⟩ := h
 cases rx
 cases ry
 obtain ⟨z, its, n, r, hl, e⟩ := I.lstM hH
 obtain ⟨z2, its2, n2, r2, hl2, e2⟩ := I.lstM hB
 refine PySem.P.add_list e e2 ?_ (by rw [List.size_toArray, List.size_toArray]; omega)
 have ea : its.toArray ++ its2.toArray = (its ++ its2).toArray := by simp
 rw [ea]
 exact ⟨.ref _, _, I.lnew (t' := s.toks) (r.append r2) (by rw [List.length_append]; omega), rfl, q _ I.fresh⟩
end
section
variable {prog : Program} {w : World} {A : Around} {E : Value → Shared → Prop} {s : Shared}
set_option maxRecDepth 100000 in
end
section
variable {X : Cx}
end
end L2
namespace Att
open PySem PySem.W PySem.Calls PyProof.Rows
theorem zi1 {P : Params} {h : Heap} : ∀ (ns : List Int) (vs : List Value), WellAll P h vs (ns.map WData.int) → IntsAre vs ns := by
 intro ns
 induction ns with
 | nil =>
  intro vs w
  rw [List.map_nil] at w
  cases w
  exact .nil
 | cons n ns ih =>
  intro vs w
  rw [List.map_cons] at w
  cases w with
  | cons a b =>
   cases a
   exact .cons _ _ (ih _ b)
theorem zrk {l : OpenLaw} {n : Nat} (hn : l.most = some n) {P : Params} {h : Heap} {args : List WData} {vals : List Value}
  (hpre : l.row.toRowW.claim.pre args = true) (hwl : WellAll P h vals args) :
  ∃ a vs ns, vals = [Value.ref a] ∧ args = [WData.list (ns.map WData.int)] ∧ h.get? a = some { cls := .type "list", data := .seq vs.toArray } ∧ IntsAre vs ns ∧ ns.length ≤ n := by
 have hsh : WShape.hasAll [] args [.list .int] = true := (pre_splitW hpre).1
 have hc : l.pre.holds [] { args := args } = true := (pre_splitW hpre).2
 obtain ⟨d, r, rfl, h1, h2⟩ := hasAllW_cons hsh
 obtain rfl := hasAllW_nil h2
 obtain ⟨xs, rfl, h3⟩ := hasW_list h1
 obtain ⟨ns, rfl⟩ := items_int h3
 have hlen : ns.length ≤ n := by
  unfold OpenLaw.pre at hc
  have h4 : (WTm.not (.lt (.lit (.int (n : Int))) (.len (.arg 0)))).holds [] { args := [.list (ns.map .int)] } = true := by
   have h4 := (holds_andW hc).1
   rw [hn] at h4
   exact h4
  have h5 := condW_of h4 (w_not (w_lt w_lit (w_len_list (w_arg rfl))))
  rw [List.length_map] at h5
  refine Nat.le_of_not_lt fun q => ?_
  have q' : (n : Int) < ((ns.length : Nat) : Int) := by omega
  first
   | (rw [decide_eq_true q'] at h5; exact absurd h5 (by decide))
   | (simp at h5; omega)
 cases hwl with
 | cons w1 w2 =>
  cases w2
  cases w1 with
  | list ho hall => exact ⟨_, _, ns, rfl, rfl, ho, zi1 ns _ hall, hlen⟩
theorem zrd (l : OpenLaw) (args : List WData) : l.row.toRowW.claim.post args (.bool true) args = true :=
 postW_of (r := l.row.toRowW) (X := (true == true))
  (show WShape.has [] (.bool true) .bool = true by first | rfl | decide | simp [WShape.has, WShape.arms, WShape.armsAll])
  (show (WTm.eq .res (.lit (.bool true))).value [] { args := args, res := some (.bool true), after := args } = some (.bool (true == true)) from w_eq_bool (w_res rfl) w_lit) rfl
theorem attach_call {l : OpenLaw} {n : Nat} {q : Program} {loose : List Str} {XP : (Str → Option Value) → Heap → Prop} {YP : World → Heap → Prop} {d : DefRec}
  (hn : l.most = some n) (hdf : d.params.defaults = [])
  (call : ∀ (w : World) (s₀ s₁ : Shared) (mg mb : Str → Option Value) (fa : Addr) (o : Obj) (pm cd doc : Value) (a : Addr) (vs : List Value) (ns : List Int),
   Ground q loose [] XP w s₀ mg mb s₁.heap → YP w s₁.heap →
   s₁.heap.get? fa = some o → o.data = .func (docDef d.name d.params d.body d.scope pm cd doc) → s₁.heap.CodeRec cd d.name → mg d.name = some (.ref fa) →
   s₁.heap.get? a = some { cls := .type "list", data := .seq vs.toArray } → IntsAre vs ns → ns.length ≤ n → s₁.gens = #[] →
   codeAny (model l.prog w) callerA (.call (.ref fa) ⟨[.ref a], []⟩) (fun r s' => r = .ok (.ret (.bool true)) ∧ OldK s₁.heap s'.heap ∧ s'.os = s₁.os ∧ AllBare s'.gens) s₁) :
  WalkO q loose XP YP l.row.toRowW d [] (fun f vs => PySem.call f vs) := by
 intro w s₀ s₁ mg mb G Y fa o pm cd doc dV kV ho hd hcd hD hmg hg args vals as hpre hlay hrd hwl hlo
 obtain rfl : dV = .none := Dflts.none hD hdf
 obtain rfl : kV = .none := Dflts.noKw hD
 obtain ⟨a, vs, ns, rfl, rfl, hobj, hints, hlen⟩ := zrk hn hpre hwl
 refine enter_call (codeAny_mono (call w s₀ s₁ mg mb fa o pm cd doc a vs ns G Y ho (fd_plain hd) hcd hmg hobj hints hlen hg) fun r s' hq => ?_)
 obtain ⟨rfl, h2, h3, h4⟩ := hq
 exact ⟨.inl ⟨.bool true, .bool true, [], rfl, fun _ => rfl, .bool true, zrd l _, fun _ => ⟨List.Pairwise.nil, fun _ hm => (nomatch hm)⟩⟩, h2, h3, h4⟩
section
variable {prog : Program} {w : World} {A : Around} {E : Value → Shared → Prop} {s : Shared} {K : Frag}
end
end Att
namespace L2
open PySem PySem.Spec PyProof.Rows
theorem zlf : ∀ {vs : List Value} {ns : List Int}, IntsAre vs ns → Vals (ns.map V.int) vs
 | _, _, .nil => .nil
 | _, _, .cons n t h => .cons ⟨t, rfl⟩ (zlf h)
end L2
namespace L2
open PySem PySem.Spec PyProof.Rows
end L2
namespace L2
open PySem PySem.Spec PyProof.Rows
def zd5 (s : Stmt) : Arguments := match s with
 | .FunctionDef _ a _ _ _ _ _ _ _ _ => a
 | _ => { posonlyargs := [], args := [], vararg := none, kwonlyargs := [], kw_defaults := [], kwarg := none, defaults := [] }
def zba (s : Stmt) : List Stmt := match s with
 | .FunctionDef _ _ b _ _ _ _ _ _ _ => b
 | _ => []
def zai (s : Stmt) : Scope := match s with
 | .FunctionDef _ _ _ _ _ _ sc _ _ _ => sc
 | _ => { kind := .function, names := [], isGenerator := false, isCoroutine := false }
abbrev CX0 : CXT := fun _ _ _ _ _ _ => False
abbrev E0 : XK := fun _ _ _ => False
theorem zhg {X : Cx} : zg4 CX0 X E0 := fun _ _ _ _ _ _ _ h => h.elim
structure Fun (K : PySem.W.Frag) (x qual : Str) (st : Stmt) (f : Addr) (fd : FuncData) : Prop where
 ex : ∃ (oc : Value) (od : Option Addr) (kV doc pm : Value) (an : Option Addr) (cdv ct : Value) (osl : Array (Option Value)),
  fd = PySem.W.fnOf x qual (zd5 st) (zba st) (zai st) .none kV doc pm an cdv ct ∧ K.lookup f = some ⟨oc, od, .func fd, osl⟩ ∧ PySem.W.codeIn K cdv qual = true
 kp : PySem.W.keepIn K (.ref f) = true
section
variable {P : Program} {w : World} {K : PySem.W.Frag} {mg : Str → Option Value} {base : Heap}
theorem Fun.ok {x qual : Str} {st : Stmt} {f : Addr} {fd : FuncData} {N ps : List Str} {k : Nat} {sp : Sp} (F : Fun K x qual st f fd) (S : zav N ps (zai st)) (len : ∀ vs H Q E, sp vs H Q E → vs.length = ps.length)
  (hbody : ∀ (cdv : Value) (A : Around) (outer : List Env) (s : Shared) (H : Hp) (vs : List V) (Q : VK) (E : XK), Room k (A.deeper (envOfC qual (zai st) s.heap.objs.size f cdv)) → sp vs H Q E →
   ∃ t, PSs (zd0 CX0 P w K mg base N qual (zai st) f cdv A outer s H E).nox (zba st) t ∧ t { nx := fun _ H' => Q .non H', rt := Q } (zhr N vs) H) : FnOk P w K mg base CX0 (k + 1) f fd ps sp := by
 obtain ⟨oc, od, kV, doc, pm, an, cdv, ct, osl, rfl, lk, hcd⟩ := F.ex
 refine zv6 lk hcd S len fun A outer s H vs Q E hr hsp => ?_
 obtain ⟨t, h, q⟩ := hbody cdv A outer s H vs Q E hr hsp
 exact ⟨t, h.nox, q⟩
theorem Fun.binds {x qual : Str} {st : Stmt} {f : Addr} {fd : FuncData} {ps : List Str} (F : Fun K x qual st f fd)
  (h : ∀ (kV doc pm : Value) (an : Option Addr) (cdv ct : Value) (us : List Value), us.length = ps.length → bindArgs (PySem.W.fnOf x qual (zd5 st) (zba st) (zai st) .none kV doc pm an cdv ct) ⟨us, []⟩ = pure (ps.zip us)) : Binds K fd ps [] := by
 obtain ⟨oc, od, kV, doc, pm, an, cdv, ct, osl, rfl, lk, hcd⟩ := F.ex
 exact .all (h kV doc pm an cdv ct)
theorem ztj {x qual : Str} {st : Stmt} {f : Addr} {oc : Value} {od an : Option Addr} {osl : Array (Option Value)} {kV doc pm cdv ct : Value} (l : K.lookup f = some ⟨oc, od, .func (PySem.W.fnOf x qual (zd5 st) (zba st) (zai st) .none kV doc pm an cdv ct), osl⟩)
  (c : PySem.W.codeIn K cdv qual = true) (k : PySem.W.keepIn K (.ref f) = true) : Fun K x qual st f (PySem.W.fnOf x qual (zd5 st) (zba st) (zai st) .none kV doc pm an cdv ct) := ⟨⟨oc, od, kV, doc, pm, an, cdv, ct, osl, rfl, l, c⟩, k⟩
end
theorem zbd {n : Nat} (h : n ≤ 1000) : n < sizeLine := Nat.lt_of_le_of_lt h (by decide)
section
variable {X : Cx}
theorem pv (i : Nat) {x : Str} {pos : Pos} (hN : X.N[i]? = some x := by rfl) (hv : Vis X.env.scope x := by first | exact Or.inl rfl | exact Or.inr (Or.inl rfl) | exact Or.inr (Or.inr rfl)) (hd : (x == ("__debug__" : Str)) = false := by decide)
  (hcd : (x == ("__classdict__" : Str)) = false := by decide) : PE X (.Name x pos) (zuv i) := zsl hN hv hd hcd
end
theorem zek {A B : Prop} (h : B) : if false = true then A else B := by
 rw [if_neg Bool.false_ne_true]
 exact h
theorem zl9 {A B : Prop} (h : A) : if true = true then A else B := by
 rw [if_pos rfl]
 exact h
theorem zcv {c A B : Prop} [Decidable c] (h1 : c → A) (h2 : ¬ c → B) : if c then A else B := by
 by_cases h : c
 ·rw [if_pos h]
  exact h1 h
 ·rw [if_neg h]
  exact h2 h
theorem zgp {c A B : Prop} [Decidable c] (hc : c) (h : B) : if (!decide c) = true then A else B := by
 rw [decide_eq_true hc]
 exact zek h
end L2
set_option maxRecDepth 100000
set_option maxHeartbeats 4000000
namespace L2
open PySem PySem.Spec PyProof.Rows
def zgq (c : Addr) : Heap → Prop := fun h => ∃ (o : Obj) (vs : Array Value) (q : Str) (t : Nat), h.get? c = some o ∧ o.data = .fields vs ∧ vs[1]? = some (.str q t)
def zcw (H : Hp) (P : Addr) : Prop := ∃ ps : Array Value, H P = some (.tbl ps) ∧ TriplesOk ps.toList ∧ ∀ pos : Pos, codeAmong pos ps.toList = none ∨ ∃ c : Addr, codeAmong pos ps.toList = some (.ref c) ∧ H c = some (.ext (zgq c))
def Kp (H H' : Hp) (b : Addr) : HO → Prop
 | .tbl _ => (∃ ps, H' b = some (.tbl ps)) ∧ (zcw H b → zcw H' b)
 | o => H' b = some o
def Same (H H' : Hp) : Prop := ∀ b o, H b = some o → Kp H H' b o
theorem Kp.of {H H' : Hp} {b : Addr} {o : HO} (h : H b = some o) (e : H' b = some o) (hc : ∀ c, H c = some (.ext (zgq c)) → H' c = some (.ext (zgq c))) : Kp H H' b o := by
 cases o
 case tbl ps =>
  refine ⟨⟨ps, e⟩, fun ⟨qs, hq, tr, hp⟩ => ?_⟩
  rw [h] at hq
  cases hq
  exact ⟨_, e, tr, fun pos => (hp pos).imp id fun ⟨c, z1, z2⟩ => ⟨c, z1, hc c z2⟩⟩
 all_goals exact e
theorem zmh {H H' : Hp} (h : ∀ b o, H b = some o → H' b = some o) : Same H H' := fun b o e => Kp.of e (h b o e) fun c z => h c _ z
theorem Same.refl (H : Hp) : Same H H := zmh fun _ _ h => h
theorem Same.trans {H H1 H2 : Hp} (a : Same H H1) (b : Same H1 H2) : Same H H2 := fun c o h => by
 have z := a c o h
 cases o
 case tbl ps =>
  obtain ⟨⟨qs, hq⟩, k⟩ := z
  obtain ⟨q2, k2⟩ := b c _ hq
  exact ⟨q2, fun t => k2 (k t)⟩
 all_goals exact b c _ z
theorem Kp.some {H H' : Hp} {b : Addr} {o : HO} (k : Kp H H' b o) : ∃ u, H' b = some u := by
 cases o
 case tbl ps => exact ⟨_, k.1.choose_spec⟩
 all_goals exact ⟨_, k⟩
theorem Same.free {H H' : Hp} (e : Same H H') {l : Addr} (h : H' l = Option.none) : H l = Option.none := by
 cases q : H l with
 | none => rfl
 | some o =>
  obtain ⟨u, z⟩ := (e l o q).some
  rw [z] at h
  cases h
theorem Same.tab {H H' : Hp} {P : Addr} (e : Same H H') (t : zcw H P) : zcw H' P := by
 obtain ⟨ps, h, _⟩ := id t
 exact (e _ _ h).2 t
theorem zkg {pos pos' : Pos} {c : Value} (l : List Value) (h : TriplesOk l) : codeAmong pos (l ++ [rawInt pos'.line, rawInt pos'.col, c]) = codeAmong pos l ∨ codeAmong pos (l ++ [rawInt pos'.line, rawInt pos'.col, c]) = some c := by
 fun_induction TriplesOk l with
 | case1 =>
  by_cases hc : ((pos'.line : Int) == (pos.line : Int) && (pos'.col : Int) == (pos.col : Int)) = true
  ·exact .inr (by simp only [List.nil_append, codeAmong, rawInt]; rw [if_pos hc])
  ·exact .inl (by simp only [List.nil_append, codeAmong, rawInt]; rw [if_neg hc])
 | case2 a t b u x rest ih =>
  simp only [List.cons_append, codeAmong]
  split
  ·exact .inl rfl
  ·exact ih h
 | case3 => exact h.elim
end L2
set_option maxRecDepth 100000
set_option maxHeartbeats 4000000
namespace L2
open PySem PySem.Spec PyProof.Rows
theorem zlb {α β : Type} (g : α → β → β) {f : α → β → Sem (ForInStep β)} : ∀ (l : List α) (b : β), (∀ x ∈ l, ∀ c, f x c = pure (ForInStep.yield (g x c))) →
  forIn l b f = (pure (l.foldl (fun c x => g x c) b) : Sem β)
 | [], b, _ => by simp only [List.forIn_nil, List.foldl_nil]
 | x :: r, b, h => by
  rw [List.forIn_cons, h x List.mem_cons_self b, pure_bind]
  exact zlb g r (g x b) fun y hy c => h y (List.mem_cons_of_mem _ hy) c
def zf4 (sc : Scope) (env : Env) : List (Str × Addr) :=
 sc.names.foldl (fun cs y => if (y.2 == NameKind.free) = true then (y.1, (env.cells.lookup y.1).getD 0) :: cs else cs) []
theorem zqc {sc : Scope} {env : Env} (h : ∀ y ∈ sc.names, y.2 = .free → ∃ c, env.cells.lookup y.1 = some c) : closureFor sc env = pure (zf4 sc env) := by
 simp only [closureFor]
 rw [zlb (fun (y : Str × NameKind) (cs : List (Str × Addr)) => if (y.2 == NameKind.free) = true then (y.1, (env.cells.lookup y.1).getD 0) :: cs else cs) sc.names [] (fun y hy c => by
  obtain ⟨n, k⟩ := y
  by_cases hk : k = .free
  ·obtain ⟨a, ha⟩ := h _ hy hk
   subst hk
   simp only [cellOf, ha, beq_self_eq_true, if_true, pure_bind, Option.getD_some]
  ·have z : (k == NameKind.free) = false := by simpa using hk
   simp only [z, Bool.false_eq_true, if_false])]
 rfl
theorem zlp {α β : Type} {P : β → Prop} {g : α → List β → List β} : ∀ (l : List α) (b : List β), (∀ p ∈ b, P p) → (∀ x ∈ l, ∀ c, (∀ p ∈ c, P p) → ∀ p ∈ g x c, P p) → ∀ p ∈ l.foldl (fun c x => g x c) b, P p
 | [], b, hb, _ => hb
 | x :: r, b, hb, h => zlp r (g x b) (h x List.mem_cons_self b hb) fun y hy => h y (List.mem_cons_of_mem _ hy)
theorem zsi {sc : Scope} {env : Env} (h : ∀ y ∈ sc.names, y.2 = .free → ∃ c, env.cells.lookup y.1 = some c) : ∀ p ∈ zf4 sc env, env.cells.lookup p.1 = some p.2 := by
 refine zlp (P := fun p : Str × Addr => env.cells.lookup p.1 = some p.2) sc.names [] (fun _ z => nomatch z) fun y hy c hc p hp => ?_
 by_cases hk : y.2 = .free
 ·have z : (y.2 == NameKind.free) = true := by simpa using hk
  rw [if_pos z] at hp
  rcases List.mem_cons.mp hp with e | hp
  ·obtain ⟨a, ha⟩ := h y hy hk
   rw [e]
   show env.cells.lookup y.1 = some ((env.cells.lookup y.1).getD 0)
   rw [ha]
   rfl
  ·exact hc p hp
 ·have z : ¬ (y.2 == NameKind.free) = true := by simpa using hk
  rw [if_neg z] at hp
  exact hc p hp
theorem zjo {α β : Type} {q : β} {g : α → List β → List β} (hg : ∀ x c, q ∈ c → q ∈ g x c) : ∀ (l : List α) (b : List β), q ∈ b → q ∈ l.foldl (fun c x => g x c) b
 | [], _, hb => hb
 | x :: r, b, hb => zjo hg r (g x b) (hg x b hb)
theorem zsp {sc : Scope} {env : Env} {x : Str} {c : Addr} (hx : (x, NameKind.free) ∈ sc.names) (hc : env.cells.lookup x = some c) : (x, c) ∈ zf4 sc env := by
 have kp : ∀ (y : Str × NameKind) (cs : List (Str × Addr)), (x, c) ∈ cs → (x, c) ∈ (if (y.2 == NameKind.free) = true then (y.1, (env.cells.lookup y.1).getD 0) :: cs else cs) := fun y cs h => by
  by_cases z : (y.2 == NameKind.free) = true
  ·rw [if_pos z]
   exact List.mem_cons_of_mem _ h
  ·rw [if_neg z]
   exact h
 unfold zf4
 obtain ⟨l1, l2, e⟩ := List.append_of_mem hx
 rw [e, List.foldl_append, List.foldl_cons]
 refine zjo (g := fun (y : Str × NameKind) (cs : List (Str × Addr)) => if (y.2 == NameKind.free) = true then (y.1, (env.cells.lookup y.1).getD 0) :: cs else cs) kp l2 _ ?_
 rw [if_pos (by simp)]
 rw [hc]
 exact List.mem_cons_self
theorem zf5 {β : Type} {x : Str} {b : β} : ∀ {l : List (Str × β)}, (x, b) ∈ l → ∃ c, l.lookup x = some c
 | [], h => nomatch h
 | (y, d) :: r, h => by
  by_cases e : x = y
  ·subst e
   exact ⟨d, by rw [List.lookup_cons_self]⟩
  ·have z : (x == y) = false := by simpa using e
   rcases List.mem_cons.mp h with q | q
   ·cases q
    exact absurd rfl e
   ·obtain ⟨c, hc⟩ := zf5 q
    exact ⟨c, by rw [List.lookup_cons, z]; exact hc⟩
theorem zb8 {sc : Scope} {env : Env} (h : ∀ y ∈ sc.names, y.2 = .free → ∃ c, env.cells.lookup y.1 = some c) {x : Str} {c : Addr} (e : (zf4 sc env).lookup x = some c) : env.cells.lookup x = some c :=
 zsi h _ (PySem.mem_of_lookup e)
theorem zi5 {sc : Scope} {env : Env} (h : ∀ y ∈ sc.names, y.2 = .free → ∃ c, env.cells.lookup y.1 = some c) {x : Str} {c : Addr} (hx : (x, NameKind.free) ∈ sc.names) (hc : env.cells.lookup x = some c) : (zf4 sc env).lookup x = some c := by
 obtain ⟨d, hd⟩ := zf5 (zsp hx hc)
 have := zb8 h hd
 rw [hc] at this
 cases this
 exact hd
def zpj (sc sc0 : Scope) : Scope :=
 { sc with names := sc.names.map fun (n, k) => if (k == .free && sc0.kind == .function && sc0.names.lookup n == some .cell) then (n, .cell) else (n, k) }
def zse (sc0 sc : Scope) (XN N' : List Str) (n : Nat) (kp : List Nat) : Bool :=
 decide (sc.kind = .function) && sc.names.all (fun y => decide (y.2 ≠ .cell)) && sc.names.all (fun y => decide (y.2 = .local → sc.names.lookup y.1 = some .local)) &&
 sc.names.all (fun y => decide (y.2 = .free → sc0.names.lookup y.1 = some .cell)) && decide (N'.length = n + kp.length) &&
 (List.range kp.length).all (fun i => match N'[n + i]?, kp[i]? with
  | some x, some j => decide (XN[j]? = some x ∧ (x, NameKind.free) ∈ sc.names ∧ ((zpj sc sc0).names.lookup x = some .cell ∨ (zpj sc sc0).names.lookup x = some .free))
  | _, _ => false)
theorem zjs {sc0 sc : Scope} {XN N' : List Str} {n : Nat} {kp : List Nat} (h : zse sc0 sc XN N' n kp = true) :
  sc.kind = .function ∧ (∀ y ∈ sc.names, y.2 ≠ .cell) ∧ (∀ y ∈ sc.names, y.2 = .local → sc.names.lookup y.1 = some .local) ∧ (∀ y ∈ sc.names, y.2 = .free → sc0.names.lookup y.1 = some .cell) ∧ N'.length = n + kp.length ∧
  ∀ (i : Nat) (x : Str), N'[n + i]? = some x → ∃ j, kp[i]? = some j ∧ XN[j]? = some x ∧ (x, NameKind.free) ∈ sc.names ∧ ((zpj sc sc0).names.lookup x = some .cell ∨ (zpj sc sc0).names.lookup x = some .free) := by
 unfold zse at h
 simp only [Bool.and_eq_true, List.all_eq_true, decide_eq_true_eq] at h
 obtain ⟨⟨⟨⟨⟨h1, h2⟩, h3⟩, h4⟩, h5⟩, h6⟩ := h
 refine ⟨h1, h2, h3, h4, h5, fun i x hx => ?_⟩
 have hi : i < kp.length := by
  have := (List.getElem?_eq_some_iff.mp hx).1
  omega
 have q := h6 i (List.mem_range.mpr hi)
 rw [hx, List.getElem?_eq_getElem hi] at q
 exact ⟨kp[i], List.getElem?_eq_getElem hi, of_decide_eq_true q⟩
abbrev NoX : Value → Shared → Prop := fun _ _ => False
def blk (X : Cx) (N' : List Str) (sc : Scope) (C : Addr) (fp : List Addr) (pins : List (Addr × Obj)) (s : Shared) (H : Hp) : Cx :=
 { X with N := N', s₀ := s, H₀ := H, env := compEnvC sc (zf4 sc X.env) C X.env, outer := X.stack, stack := X.stack, ex := fp, fn := fun _ => false, pn := X.pn ++ pins, xe := NoX }
abbrev zv2 (cs : List Expr) (env : Env) : Sem Bool := forIn cs true fun c r => if r = true then do let ok ← isTrue c env (eval c env); pure (ForInStep.yield ok) else pure (ForInStep.yield r)
def PTs (X : Cx) (cs : List Expr) (t : TT) : Prop :=
 ∀ (pins : List (Addr × Obj)) (s : Shared) (σ : St) (H : Hp) (Q : Bool → Hp → Prop), Inv X pins σ H s → t σ H Q → wpAny (model X.prog X.w) X.A (zv2 cs X.env) (TP X pins σ Q) X.xe s
def zy1 : TT := fun _ H Q => Q true H
theorem zgc {X : Cx} : PTs X [] zy1 := fun _ _ _ H _ I h => wpAny_tests_nil ⟨H, I, h⟩
theorem zbu {X : Cx} {c : Expr} {t : TT} (hc : PT X c t) : PTs X [c] t := fun pins s σ H Q I h => wpAny_tests_one (hc pins s σ H Q I h)
theorem zu5 {prog : Program} {w : World} {A : Around} {R : Result → Shared → Prop} {elt tg iter : Expr} {cs : List Expr} {sc : Scope} {pos : Pos} {it acc : Value} {env : Env} (J : Nat → Shared → Prop)
  (turn : ∀ n s, J n s → wpAny (model prog w) A (pyNext it) (fun r s1 => match r with
   | none => R (.ok .next) s1
   | some v => wpAny (model prog w) A (letOwnedTupleGo tg it v) (fun _ s2 => wpAny (model prog w) A (assign tg env v) (fun _ s3 => wpAny (model prog w) A (zv2 cs env) (fun ok s4 =>
     if ok = true then wpAny (model prog w) A (eval elt env) (fun x s5 => wpAny (model prog w) A (call (.builtin "list.append") [acc, x]) (fun _ s6 => ∃ m, m < n ∧ J m s6) NoX s5) NoX s4
     else ∃ m, m < n ∧ J m s4) NoX s3) NoX s2) NoX s1) NoX s)
  (n : Nat) (s : Shared) (h : J n s) : codeAny (model prog w) A (.compLoop (.ListComp elt [⟨tg, iter, cs, 0⟩] sc pos) 0 it acc env) R s := by
 refine codeAny_loop rfl J (fun n s hJ => ?_) n h
 show wpAny _ A ((compTurn (.ListComp elt [⟨tg, iter, cs, 0⟩] sc pos) 0 it acc env).onRaise (fun x => do noteFrame x env; theTreesLotGoes x)) _ _ s
 refine wpAny_noted ?_
 rw [compTurn_list]
 have no : ∀ {E : Value → Shared → Prop} (e : Value) (z : Shared), NoX e z → E e z := fun _ _ f => f.elim
 refine wpAny_bind (wpAny_standAt (wpAny_bind (wpAny_mono (turn n s hJ) (fun r s1 h1 => ?_) no)))
 cases r with
 | none => exact wpAny_pure h1
 | some v =>
  refine wpAny_bind (wpAny_mono h1 (fun _ s2 h2 => ?_) no)
  refine wpAny_bind (wpAny_mono h2 (fun _ s3 h3 => ?_) no)
  refine wpAny_bind (wpAny_mono h3 (fun ok s4 h4 => ?_) no)
  cases ok with
  | false => exact wpAny_pure ⟨rfl, h4⟩
  | true =>
   exact wpAny_bind (wpAny_bind (wpAny_mono h4 (fun x s5 h5 => wpAny_bind (wpAny_mono h5 (fun _ s6 h6 => wpAny_pure (wpAny_pure ⟨rfl, h6⟩)) no)) no))
def zma (J : It) (g : TG) (tc : TT) (te : TE) (σ0 : St) (H1 : Hp) (Q : VK) : Prop := ∃ W : Nat → Nat → List V → St → Hp → Prop,
  (∃ m, W 0 m [] σ0 H1) ∧ ∀ i m ys σ' H', W i m ys σ' H' → ys.length ≤ sizeLine ∧
    ((J.stop i H' ∧ ∀ p, H' p = none → Q (.ref p) (upd H' p (.lst ys))) ∨
     (J.go i H' ∧ ∃ N : List V → St → Hp → Prop, (∀ ys' σ2 H2, N ys' σ2 H2 → ∃ m', m' < m ∧ W (i + 1) m' ys' σ2 H2) ∧ ∀ x H2, J.yld i H' x H2 → g x σ' H2 fun σ3 H3 => tc σ3 H3 fun b H4 =>
       if b = true then te σ3 H4 fun v H5 => N (ys ++ [v]) σ3 H5 else N ys σ3 H4))
def tLc (n : Nat) (kp : List Nat) (wi : TI) (g : TG) (tc : TT) (te : TE) : TE := fun σ H Q => wi σ H fun J H1 => zma J g tc te (List.replicate n none ++ kp.map fun j => (σ[j]?).join) H1 Q
theorem zt5 {lo : Int} {k : Nat} {σ0 : St} {H : Hp} {g : TG} {tc : TT} {te : TE} {Q : VK} (Pv : Nat → List V → St → Hp → Prop) (h0 : Pv 0 [] σ0 H) (hz : ∀ i ys σ H, i ≤ k → Pv i ys σ H → ys.length ≤ sizeLine)
  (hs : ∀ i ys σ H, i < k → Pv i ys σ H → g (.int (lo + i)) σ H fun σ3 H3 => tc σ3 H3 fun b H4 => if b = true then te σ3 H4 fun v H5 => Pv (i + 1) (ys ++ [v]) σ3 H5 else Pv (i + 1) ys σ3 H4)
  (hd : ∀ ys σ H, Pv k ys σ H → ∀ p, H p = none → Q (.ref p) (upd H p (.lst ys))) :
  zma (Itr lo k) g tc te σ0 H Q := by
 refine ⟨fun i m ys σ H => m = k - i ∧ i ≤ k ∧ Pv i ys σ H, ⟨k, by simp, Nat.zero_le _, h0⟩, ?_⟩
 rintro i m ys σ H ⟨rfl, hi, p⟩
 refine ⟨hz i ys σ H hi p, ?_⟩
 by_cases hlt : i < k
 ·refine .inr ⟨hlt, Pv (i + 1), fun ys' σ' H' p' => ⟨k - (i + 1), by omega, rfl, hlt, p'⟩, fun x H' y => ?_⟩
  obtain ⟨e1, e2⟩ := y
  subst e1
  subst e2
  exact hs i ys σ _ hlt p
 ·have e : i = k := by omega
  subst e
  exact .inl ⟨Nat.le_refl _, hd ys σ H p⟩
theorem zco {K : PySem.W.Frag} {a : Addr} {xs : List V} {σ0 : St} {H : Hp} {g : TG} {tc : TT} {te : TE} {Q : VK} (Pv : Nat → List V → St → Hp → Prop) (h0 : Pv 0 [] σ0 H) (hz : ∀ i ys σ H, i ≤ xs.length → Pv i ys σ H → ys.length ≤ sizeLine)
  (hl : ∀ i ys σ H, i ≤ xs.length → Pv i ys σ H → SqL K H a xs)
  (hs : ∀ i x ys σ H, xs[i]? = some x → Pv i ys σ H → g x σ H fun σ3 H3 => tc σ3 H3 fun b H4 => if b = true then te σ3 H4 fun v H5 => Pv (i + 1) (ys ++ [v]) σ3 H5 else Pv (i + 1) ys σ3 H4)
  (hd : ∀ ys σ H, Pv xs.length ys σ H → ∀ p, H p = none → Q (.ref p) (upd H p (.lst ys))) :
  zma (Itl K a) g tc te σ0 H Q := by
 refine ⟨fun i m ys σ H => m = xs.length - i ∧ i ≤ xs.length ∧ Pv i ys σ H, ⟨xs.length, by simp, Nat.zero_le _, h0⟩, ?_⟩
 rintro i m ys σ H ⟨rfl, hi, p⟩
 refine ⟨hz i ys σ H hi p, ?_⟩
 have q := hl i ys σ H hi p
 by_cases hlt : i < xs.length
 ·refine .inr ⟨⟨xs, xs[i], q, by simp [hlt]⟩, Pv (i + 1), fun ys' σ' H' p' => ⟨xs.length - (i + 1), by omega, rfl, hlt, p'⟩, fun x H' y => ?_⟩
  obtain ⟨e, y⟩ := y
  subst e
  exact hs i x ys σ _ (y xs q) p
 ·have e : i = xs.length := by omega
  subst e
  exact .inl ⟨⟨xs, q, Nat.le_refl _⟩, hd ys σ H p⟩
theorem zmx {K : PySem.W.Frag} {a : Addr} {xs : List V} {σ0 : St} {H : Hp} {g : TG} {tc : TT} {te : TE} {Q : VK} (Pv : Nat → List V → St → Hp → Prop) (h0 : Pv 0 [] σ0 H) (hz : ∀ i ys σ H, i ≤ xs.length → Pv i ys σ H → ys.length ≤ sizeLine)
  (hl : ∀ i ys σ H, i ≤ xs.length → Pv i ys σ H → SqT K H a xs)
  (hs : ∀ i x ys σ H, xs[i]? = some x → Pv i ys σ H → g x σ H fun σ3 H3 => tc σ3 H3 fun b H4 => if b = true then te σ3 H4 fun v H5 => Pv (i + 1) (ys ++ [v]) σ3 H5 else Pv (i + 1) ys σ3 H4)
  (hd : ∀ ys σ H, Pv xs.length ys σ H → ∀ p, H p = none → Q (.ref p) (upd H p (.lst ys))) :
  zma (Itt K a) g tc te σ0 H Q := by
 refine ⟨fun i m ys σ H => m = xs.length - i ∧ i ≤ xs.length ∧ Pv i ys σ H, ⟨xs.length, by simp, Nat.zero_le _, h0⟩, ?_⟩
 rintro i m ys σ H ⟨rfl, hi, p⟩
 refine ⟨hz i ys σ H hi p, ?_⟩
 have q := hl i ys σ H hi p
 by_cases hlt : i < xs.length
 ·refine .inr ⟨⟨xs, xs[i], q, by simp [hlt]⟩, Pv (i + 1), fun ys' σ' H' p' => ⟨xs.length - (i + 1), by omega, rfl, hlt, p'⟩, fun x H' y => ?_⟩
  obtain ⟨e, y⟩ := y
  subst e
  exact hs i x ys σ _ (y xs q) p
 ·have e : i = xs.length := by omega
  subst e
  exact .inl ⟨⟨xs, q, Nat.le_refl _⟩, hd ys σ H p⟩
section
variable {X : Cx} {tg iter elt : Expr} {cs : List Expr} {sc sc0 : Scope} {pos : Pos} {wi : TI} {g : TG} {tc : TT} {te : TE} {XN N' : List Str} {n : Nat} {kp : List Nat}
theorem zw8 {pins : List (Addr × Obj)} {σ : St} {H : Hp} {s : Shared} {fp : List Addr} {C : Addr} (I : Inv X pins σ H s) (hk : sc.kind = .function) (hcell : ∀ y ∈ sc.names, y.2 ≠ .cell)
  (hfr : ∀ y ∈ sc.names, y.2 = .free → ∃ c, X.env.cells.lookup y.1 = some c) (hf : ∀ b ∈ fp, ziy X pins H b) (hl : ∀ b ∈ fp, b < s.heap.objs.size) (hC : s.heap.objs.size ≤ C) : (blk X N' sc C fp pins s H).Ok where
 mod := I.ok.mod
 kind := hk
 glob := I.ok.glob
 blt := I.ok.blt
 above := hC
 inj := fun x y c h1 h2 => I.ok.inj x y c (zb8 hfr h1) (zb8 hfr h2)
 has := fun x hx => by
  have q : ∃ k, (x, k) ∈ sc.names ∧ k = .free := by
   have hx' : (zpj sc X.env.scope).names.lookup x = some .cell ∨ (zpj sc X.env.scope).names.lookup x = some .free := hx
   have go : ∀ k, (zpj sc X.env.scope).names.lookup x = some k → (k = .cell ∨ k = .free) → (x, NameKind.free) ∈ sc.names := fun k e hk' => by
    have hm := PySem.mem_of_lookup e
    obtain ⟨⟨y, ky⟩, hy, ey⟩ := List.mem_map.mp hm
    dsimp only at ey
    split at ey
    ·rename_i hc
     cases ey
     have z : ky = .free := by
      simp only [Bool.and_eq_true] at hc
      simpa using hc.1.1
     subst z
     exact hy
    ·cases ey
     rcases hk' with z | z
     ·exact absurd z (hcell _ hy)
     ·subst z
      exact hy
   rcases hx' with e | e
   ·exact ⟨_, go _ e (.inl rfl), rfl⟩
   ·exact ⟨_, go _ e (.inr rfl), rfl⟩
  obtain ⟨k, hm, rfl⟩ := q
  obtain ⟨c, hc⟩ := hfr _ hm rfl
  exact ⟨c, zi5 hfr hm hc⟩
 cab := fun x c h => absurd h (by simp [blk])
 hd := I.ok.hd
 frames := I.ok.frames
 stk := .inl rfl
 exf := fun b hb => ⟨Nat.ne_of_lt (Nat.lt_of_lt_of_le (hl b hb) hC), fun x c e => (hf b hb).2.2.2.2.1 x c (zb8 hfr e)⟩
 bs := I.bs
 bsz := Nat.le_trans I.ok.bsz I.sz
 noex := fun b o e hb => by
  rcases (hf b hb).2.2.2.1 with z | z
  ·exact I.ok.noex b o e z
  ·exact absurd (Nat.lt_of_lt_of_le (Heap.lt_size e) (Nat.le_trans I.ok.bsz z)) (Nat.lt_irrefl _)
 exfs := fun b hb z => by
  rcases List.mem_cons.mp (I.stkSub b z) with q | q
  ·exact (hf b hb).2.1 q
  ·exact (hf b hb).2.2.1 q
 funs := I.stack
 frf := I.stkFree
end
end L2
set_option maxRecDepth 100000
set_option maxHeartbeats 4000000
namespace L2
open PySem PySem.Spec PyProof.Rows
section
variable {X : Cx} {tg iter elt : Expr} {cs : List Expr} {sc sc0 : Scope} {pos : Pos} {wi : TI} {g : TG} {tc : TT} {te : TE} {XN N' : List Str} {n : Nat} {kp : List Nat}
theorem zrq {pins : List (Addr × Obj)} {σ : St} {H : Hp} {s : Shared} {fp : List Addr} {C : Addr} {h1 : Heap} {tk : Nat} {m : Str → Option Value} (I : Inv X pins σ H s) (h0 : X.env.scope = sc0) (hN : X.N = XN) (ok : zse sc0 sc XN N' n kp = true)
  (hf : ∀ b ∈ fp, ziy X pins H b) (hl : ∀ b ∈ fp, b < s.heap.objs.size) (hC : s.heap.objs.size ≤ C) (old : ∀ b o, s.heap.get? b = some o → h1.get? b = some o) (ns : h1.Ns C m) :
  Inv (blk X N' sc C fp pins s H) [] (List.replicate n none ++ kp.map fun j => (σ[j]?).join) H { s with heap := h1, toks := tk } := by
 obtain ⟨o1, o2, o3, o4, o5, o6⟩ := zjs ok
 subst h0
 subst hN
 have hfr : ∀ y ∈ sc.names, y.2 = .free → ∃ c, X.env.cells.lookup y.1 = some c := fun y hy e => I.ok.has y.1 (.inl (o4 y hy e))
 have below : ∀ b, b < s.heap.objs.size → b ≠ C := fun b hb => Nat.ne_of_lt (Nat.lt_of_lt_of_le hb hC)
 refine ⟨zw8 I o1 o2 hfr hf hl hC, rfl, I.bare, Un.kept old, ⟨m, ns, fun i x v e1 e2 e3 => ?_⟩, fun x c e => ?_, I.hok.fresh hC, fun x c e => ?_, fun p hp => ?_, I.hok.kept old, ?_⟩
 ·have hi : n ≤ i := by
   by_cases z : n ≤ i
   ·exact z
   ·rw [List.getElem?_append_left (by rw [List.length_replicate]; omega), List.getElem?_replicate] at e2
    split at e2 <;> cases e2
  obtain ⟨j, rfl⟩ : ∃ j, i = n + j := ⟨i - n, by omega⟩
  obtain ⟨q, hq, hx, hm, hkd⟩ := o6 j x e1
  rw [List.getElem?_append_right (by rw [List.length_replicate]; omega), List.length_replicate, Nat.add_sub_cancel_left, List.getElem?_map, hq] at e2
  have e4 : (σ[q]?).join = some v := Option.some.inj e2
  have e2' : σ[q]? = some (some v) := by
   cases z : σ[q]? with
   | none => rw [z] at e4; cases e4
   | some w => rw [z] at e4; cases e4; rfl
  obtain ⟨c, hc⟩ := hfr _ hm rfl
  have kx : X.env.kindOf x = some .cell := o4 _ hm rfl
  obtain ⟨m', hn', hl'⟩ := I.loc
  obtain ⟨u, r, lk⟩ := hl' q x v hx e2' (.inr (.inl kx))
  refine ⟨u, r, .inr ⟨hkd, c, zi5 hfr hm hc, ?_⟩⟩
  rcases lk with ⟨k, _⟩ | ⟨_, c', hc', hv⟩
  ·rw [kx] at k
   cases k
  ·rw [hc] at hc'
   cases hc'
   exact hv.keeps old
 ·obtain ⟨v, hv⟩ := I.cell x c (zb8 hfr e)
  exact ⟨v, hv.keeps old⟩
 ·exact I.freeC x c (zb8 hfr e)
 ·have hp' : p ∈ X.pn ++ pins := by
   have : p ∈ (X.pn ++ pins) ++ ([] : List (Addr × Obj)) := hp
   rw [List.append_nil] at this
   exact this
  obtain ⟨q1, q2, q3, q4, q5⟩ := I.pin p hp'
  refine ⟨old _ _ q1, q2, below _ (Heap.lt_size q1), fun z => ?_, q5⟩
  rcases List.mem_cons.mp (I.stkSub _ z) with r | r
  ·exact q3 r
  ·exact q4 r
 ·show (List.replicate n none ++ kp.map fun j => (σ[j]?).join).length = N'.length
  rw [List.length_append, List.length_replicate, List.length_map, o5]
theorem ztq {pins : List (Addr × Obj)} {s : Shared} {σ : St} {H : Hp} {Q : VK} {use : Option (Value → Sem Unit)} {Qf : Value → Shared → Prop} (hc : X.calm = true) (hi : PI X tg iter wi) (h0 : X.env.scope = sc0) (hN : X.N = XN) (ok : zse sc0 sc XN N' n kp = true)
  (hg : ∀ C fp pins s H, PG (blk X N' sc C fp pins s H) tg g) (ht : ∀ C fp pins s H, PTs (blk X N' sc C fp pins s H) cs tc) (he : ∀ C fp pins s H, PE (blk X N' sc C fp pins s H) elt te) (hs : ∀ x, foldedSetIterable iter X.env x = pure x)
  (I : Inv X pins σ H s) (h : tLc n kp wi g tc te σ H Q)
  (fin : ∀ D C ys H' s', Inv X pins σ (upd H' D (.lst ys)) s' → (∃ m, s'.heap.Ns C m) → ziy X pins (upd H' D (.lst ys)) C → Q (.ref D) (upd H' D (.lst ys)) → compPost (model X.prog X.w) X.A X.xe use Qf (.ref D) C (.ok .next) s') {pos' : Pos} :
  wpAny (model X.prog X.w) X.A (comprehension (.ListComp elt [⟨tg, iter, cs, 0⟩] sc pos) sc X.env pos' (newList []) false (firstIter [⟨tg, iter, cs, 0⟩] X.env) use) Qf X.xe s := by
 obtain ⟨o1, o2, o3, o4, o5, o6⟩ := zjs ok
 have hfr : ∀ y ∈ sc.names, y.2 = .free → ∃ c, X.env.cells.lookup y.1 = some c := fun y hy e => I.ok.has y.1 (.inl (by rw [Env.kindOf, h0]; exact o4 y hy e))
 refine wpAny_comprehension_free (use := use) rfl hs (zqc hfr) o1 o3 (thn (hi pins s σ H _ I h) fun v s1 h1 => thn h1 fun itv s2 h2 => ?_)
 obtain ⟨it, fp, tn, J, H2, rfl, I2, T, st2, f2, W, ⟨m0, w0⟩, turn⟩ := h2
 have hl : ∀ b ∈ fp, b < s2.heap.objs.size := fun b hb => by
  obtain ⟨o, e, _⟩ := T.obj 0 _ st2 b hb
  exact Heap.lt_size e
 refine wpAny_newObj_type (wpAny_newFunctionEnv o2 (by intro y hy; simp at hy) (fun h1 ns1 sb1 => ?_) o1)
 dsimp only at ns1 sb1 ⊢
 generalize hG : s2.heap.push { cls := .type "list", dict := none, data := .seq ([] : List Value).toArray } = G at ns1 sb1 ⊢
 have hGs : G.objs.size = s2.heap.objs.size + 1 := by rw [← hG, Heap.size_push]
 have hCl : s2.heap.objs.size ≤ G.objs.size := by omega
 have hDC : s2.heap.objs.size ≠ G.objs.size := by omega
 have old : ∀ b o, s2.heap.get? b = some o → h1.get? b = some o := fun b o e => by
  have lt := Heap.lt_size e
  exact sb1.extBut b o (Nat.ne_of_lt (Nat.lt_of_lt_of_le lt hCl)) (Heap.get?_push_of_some _ (hG ▸ Heap.get?_push_of_some _ e))
 have hD1 : h1.get? s2.heap.objs.size = some { cls := .type "list", data := .seq ([] : List Value).toArray 0 } :=
  sb1.extBut _ _ hDC (Heap.get?_push_of_some _ (hG ▸ Heap.get?_push_size _ rfl))
 have nD2 : H2 s2.heap.objs.size = none := I2.hok.fresh (Nat.le_refl _)
 have nC2 : H2 G.objs.size = none := I2.hok.fresh hCl
 have loop : ∀ s3 : Shared, s3 = { s2 with heap := h1, toks := s2.toks + ([] : List (Str × Value)).length } →
   codeAny (model X.prog X.w) X.A (.compLoop (.ListComp elt [⟨tg, iter, cs, 0⟩] sc pos) 0 (.ref it) (.ref s2.heap.objs.size) (compEnvC sc (zf4 sc X.env) G.objs.size X.env))
    (compPost (model X.prog X.w) X.A X.xe use Qf (.ref s2.heap.objs.size) G.objs.size) s3 := by
  rintro s3 rfl
  have I3 := zrq (fp := fp) (C := G.objs.size) (h1 := h1) (tk := s2.toks + ([] : List (Str × Value)).length) I2 h0 hN ok f2 hl hCl old ns1
  have stat : ∀ {H' : Hp} {o : Obj}, (∀ b ∈ fp, H' b = none) → ∀ b ∈ fp, ziy (blk X N' sc G.objs.size fp pins s2 H2) [(s2.heap.objs.size, o)] H' b := fun hn b hb => by
   have lt := hl b hb
   refine ⟨hn b hb, Nat.ne_of_lt (Nat.lt_of_lt_of_le lt hCl), I3.ok.exfs b hb, .inl hb, (I3.ok.exf b hb).2, fun p hp => ?_⟩
   rcases List.mem_append.mp hp with z | z
   ·exact (f2 b hb).2.2.2.2.2 p z
   ·have e : p.1 = s2.heap.objs.size := by rw [List.mem_singleton.mp z]
    rw [e]
    exact Nat.ne_of_gt lt
  have pinD : ∀ {σ' : St} {H' : Hp} {s' : Shared} {o : Obj}, Inv (blk X N' sc G.objs.size fp pins s2 H2) [] σ' H' s' → s'.heap.get? s2.heap.objs.size = some o → (∀ v, o.data ≠ .cell v) → H' s2.heap.objs.size = none →
    Inv (blk X N' sc G.objs.size fp pins s2 H2) [(s2.heap.objs.size, o)] σ' H' s' := fun {σ' H' s' o} J' e hd hn => J'.pins_of fun p hp => by
   rw [List.mem_singleton.mp hp]
   exact ⟨e, hn, hDC, fun z => by
    rcases List.mem_cons.mp (I2.stkSub _ z) with r | r
    ·exact absurd I2.lt (by rw [← r]; exact Nat.lt_irrefl _)
    ·exact I2.nofs (Nat.le_refl _) r, hd⟩
  refine zu5 (fun k s' => ∃ (i : Nat) (ys : List V) (its : List Value) (c : Nat) (σ' : St) (H' : Hp), Inv (blk X N' sc G.objs.size fp pins s2 H2) [] σ' H' s' ∧ tn i s'.heap ∧ (∀ b ∈ fp, H' b = none) ∧
   s'.heap.get? s2.heap.objs.size = some { cls := .type "list", data := .seq its.toArray c } ∧ Vals ys its ∧ H' s2.heap.objs.size = none ∧ W i k ys σ' H') ?_ m0 _
   ⟨0, [], [], 0, _, H2, I3, T.keep _ _ _ st2 fun b _ o e => old b o e, fun b hb => (f2 b hb).1, hD1, .nil, nD2, w0⟩
  rintro k s' ⟨i, ys, its, c, σ', H', I', st', fr', hD', hv, nD, w'⟩
  obtain ⟨hz, cases⟩ := turn i k ys σ' H' w'
  have I'' := pinD I' hD' (fun v => by intro z; cases z) nD
  rcases cases with ⟨stop, q⟩ | ⟨go, N, hN2, step⟩
  ·refine thn (T.done (blk X N' sc G.objs.size fp pins s2 H2) rfl rfl rfl hc i _ s' σ' H' NoX I'' (stat fr') st' stop) fun r s4 ⟨hr, I4⟩ => ?_
   subst hr
   obtain ⟨e4, n4, _⟩ := I4.pin (s2.heap.objs.size, { cls := .type "list", data := .seq its.toArray c }) (List.mem_append_right _ (List.mem_singleton.mpr rfl))
   have u4 : Un (frs X.stack) fp H2 H' s2.heap s4.heap := I4.base
   have nC4 : H' G.objs.size = none := I4.free
   obtain ⟨m4, ns4, _⟩ := I4.loc
   have neD : ∀ b o, s2.heap.get? b = some o → b ≠ s2.heap.objs.size := fun b o e => Nat.ne_of_lt (Heap.lt_size e)
   have u5 : Un (frs X.stack) fp H2 (upd H' s2.heap.objs.size (.lst ys)) s2.heap s4.heap :=
    ⟨u4.keep, u4.slot, fun b o e nb hx => by rw [zak (neD b o e)]; exact u4.free b o e nb hx, u4.there, fun b xs e => by rw [zak (zas e nD2)]; exact u4.tups b xs e,
     fun b o u e => by rw [zak (zas e nD2)]; exact u4.frzs b o u e, fun b ps e => by rw [zak (zas e nD2)]; exact u4.tbls b ps e⟩
   have hok5 : HOk X.prog X.w (upd H' s2.heap.objs.size (.lst ys)) s4.heap := fun a o e => by
    by_cases ea : a = s2.heap.objs.size
    ·subst ea
     rw [zab] at e
     cases e
     exact ⟨hz, its, c, hv, e4⟩
    ·rw [zak ea] at e
     exact (I4.hok a o e).stay (fun _ _ _ q => q) (fun b q => by rw [zak (zas q nD)]; exact q) fun b xs q => by rw [zak (zas q nD)]; exact q
   have I5 : Inv X pins σ (upd H' s2.heap.objs.size (.lst ys)) s4 := I2.call' I4.os u5 hok5 I4.bare fun b hb => ⟨(f2 b hb).2.2.2.1, (f2 b hb).2.1, (f2 b hb).2.2.2.2.1, (f2 b hb).2.2.2.2.2⟩
   refine fin _ _ ys H' s4 I5 ⟨m4, ns4⟩ (I2.fpOk hCl ?_) (q _ nD)
   rw [zak (Ne.symm hDC)]
   exact nC4
  ·refine thn (T.item (blk X N' sc G.objs.size fp pins s2 H2) rfl rfl rfl hc i _ s' σ' H' NoX I'' (stat fr') st' go) fun r s4 ⟨u, hr, h4⟩ => ?_
   subst hr
   refine thn h4 fun _ s5 ⟨x, H5, I5, r5, y5, st5, fr5⟩ => ?_
   have I5' := I5.pinned (stat fr5) (T.obj _ _ st5)
   refine thn (hg _ _ _ _ _ _ s5 σ' H5 x u _ I5' r5 (step x H5 y5)) fun _ s6 ⟨σ6, H6, I6, q6⟩ => ?_
   refine thn (ht _ _ _ _ _ _ s6 σ6 H6 _ I6 q6) fun b s7 ⟨H7, I7, q7⟩ => ?_
   have back : ∀ {s8 : Shared} {H8 : Hp} (m' : Nat), Inv (blk X N' sc G.objs.size fp pins s2 H2) ([(s2.heap.objs.size, { cls := .type "list", data := .seq its.toArray c })] ++ zh5 fp s5.heap) σ6 H8 s8 →
     tn (i + 1) s8.heap ∧ (∀ b ∈ fp, H8 b = none) ∧ s8.heap.get? s2.heap.objs.size = some { cls := .type "list", data := .seq its.toArray c } ∧ H8 s2.heap.objs.size = none := fun {s8 H8} m' I8 => by
    have pn : ∀ p ∈ [(s2.heap.objs.size, ({ cls := .type "list", data := .seq its.toArray c } : Obj))] ++ zh5 fp s5.heap, s8.heap.get? p.1 = some p.2 ∧ H8 p.1 = none := fun p hp =>
     let ⟨a, b, _⟩ := I8.pin p (List.mem_append_right _ hp); ⟨a, b⟩
    refine ⟨T.keep _ _ _ st5 fun b hb o e => (pn (b, o) (List.mem_append_right _ (zff hb e))).1, fun b hb => ?_, pn _ (List.mem_append_left _ (List.mem_singleton.mpr rfl))⟩
    obtain ⟨o, e, _⟩ := T.obj _ _ st5 b hb
    exact (pn (b, o) (List.mem_append_right _ (zff hb e))).2
   have bare : ∀ {s8 : Shared} {H8 : Hp} {pl : List (Addr × Obj)}, Inv (blk X N' sc G.objs.size fp pins s2 H2) pl σ6 H8 s8 → Inv (blk X N' sc G.objs.size fp pins s2 H2) [] σ6 H8 s8 := fun I8 => I8.pins_of fun p hp => nomatch hp
   cases b with
   | false =>
    rw [if_neg Bool.false_ne_true] at q7 ⊢
    obtain ⟨m', lt, w7⟩ := hN2 _ _ _ q7
    obtain ⟨b1, b2, b3, b4⟩ := back m' I7
    exact ⟨m', lt, i + 1, ys, its, c, σ6, H7, bare I7, b1, b2, b3, hv, b4, w7⟩
   | true =>
    rw [if_pos rfl] at q7 ⊢
    refine thn (he _ _ _ _ _ _ s7 σ6 H7 _ I7 q7) fun y s8 ⟨yv, H8, I8, r8, q8⟩ => ?_
    obtain ⟨m', lt, w8⟩ := hN2 _ _ _ q8
    obtain ⟨b1, b2, b3, b4⟩ := back m' I8
    have hlen := hv.length
    refine append_at (hsz := by rw [List.size_toArray, ← hlen]; exact hz) b3 fun h9 sb9 e9 => ?_
    have I9 : Inv (blk X N' sc G.objs.size fp pins s2 H2) [] σ6 H8 { s8 with heap := h9 } := (bare I8).turned (t' := s8.toks) (it := s2.heap.objs.size) (fun b o hb e => sb9.extBut b o hb e) b4 hDC (.inr (Nat.le_refl _))
     (fun x c e z => by
      obtain ⟨v, hv⟩ := I2.cell x c (zb8 hfr e)
      exact absurd hv.lt (by rw [z]; exact Nat.lt_irrefl _))
     fun p hp z => by
      have hp' : p ∈ X.pn ++ pins := by
       have : p ∈ (X.pn ++ pins) ++ ([] : List (Addr × Obj)) := hp
       rw [List.append_nil] at this
       exact this
      exact absurd (Heap.lt_size (I2.pin p hp').1) (by rw [z]; exact Nat.lt_irrefl _)
    refine ⟨m', lt, i + 1, ys ++ [yv], its ++ [y], c + 1, σ6, H8, I9, T.keep _ _ _ b1 fun b hb o e => sb9.extBut b o (Nat.ne_of_lt (hl b hb)) e, b2, ?_, hv.append (.cons r8 .nil), b4, w8⟩
    rw [e9]
    simp
 exact codeAny_compStart_list (loop _ rfl) (T.self _ 0 _ _ _ (T.keep _ _ _ st2 fun b _ o e => old b o e) (loop _ rfl))
theorem zef (hc : X.calm = true) (hi : PI X tg iter wi) (h0 : X.env.scope = sc0) (hN : X.N = XN) (ok : zse sc0 sc XN N' n kp = true)
  (hg : ∀ C fp pins s H, PG (blk X N' sc C fp pins s H) tg g) (ht : ∀ C fp pins s H, PTs (blk X N' sc C fp pins s H) cs tc) (he : ∀ C fp pins s H, PE (blk X N' sc C fp pins s H) elt te)
  (hs : ∀ x, foldedSetIterable iter X.env x = pure x := by intro _; rfl) : PE X (.ListComp elt [⟨tg, iter, cs, 0⟩] sc pos) (tLc n kp wi g tc te) := by
 intro pins s σ H Q I h
 rw [eval_ListComp]
 refine ztq hc hi h0 hN ok hg ht he hs I h fun D C ys H' s' I' ns fp q => ?_
 obtain ⟨m, hm⟩ := ns
 refine ⟨m, hm, fun h' sb => ⟨.ref D, _, ?_, rfl, q⟩⟩
 obtain ⟨f1, f2, f3, f4, f5, f6⟩ := fp
 exact I'.turned (t' := s'.toks) (it := C) (fun b o hb e => sb.extBut b o hb e) f1 f2 f4 f5 f6
end
end L2
set_option maxRecDepth 100000
set_option maxHeartbeats 4000000
namespace L2
open PySem PySem.Spec PyProof.Rows
section
variable {X : Cx} {tg iter elt : Expr} {cs : List Expr} {sc sc0 : Scope} {pos : Pos} {wi : TI} {g : TG} {tc : TT} {te : TE} {XN N' : List Str} {n : Nat} {kp : List Nat}
theorem zdu {i : Nat} {y : Str} {py spos : Pos} (hNd : X.N.Nodup) (hiy : X.N[i]? = some y) (hy : X.env.scope.names.lookup y = some .local) (hsw : swapsWith (.ListComp elt [⟨tg, iter, cs, 0⟩] sc pos) (some (.Name y py)) spos.line X.env = pure true)
  (hc : X.calm = true) (hi : PI X tg iter wi) (h0 : X.env.scope = sc0) (hN : X.N = XN) (ok : zse sc0 sc XN N' n kp = true)
  (hg : ∀ C fp pins s H, PG (blk X N' sc C fp pins s H) tg g) (ht : ∀ C fp pins s H, PTs (blk X N' sc C fp pins s H) cs tc) (he : ∀ C fp pins s H, PE (blk X N' sc C fp pins s H) elt te)
  (hs : ∀ x, foldedSetIterable iter X.env x = pure x := by intro _; rfl) : PS X (.Assign [.Name y py] (.ListComp elt [⟨tg, iter, cs, 0⟩] sc pos) spos) (zxh (tLc n kp wi g tc te) (zlj i)) := by
 intro pins s σ H D I h
 rw [exec_Assign_Name_used _ _ _ _ hsw]
 refine wpAny_bind (wpAny_standAt (wpAny_bind ?_))
 have fin : wpAny (model X.prog X.w) X.A (comprehension (.ListComp elt [⟨tg, iter, cs, 0⟩] sc pos) sc X.env (firstIterPos [⟨tg, iter, cs, 0⟩] pos) (newList []) false (firstIter [⟨tg, iter, cs, 0⟩] X.env) (some (assign (.Name y py) X.env)))
   (fun _ s' => SP X pins D .next s') X.xe s := by
  refine ztq (Q := fun x H1 => zlj i x σ H1 D.nx) hc hi h0 hN ok hg ht he hs I h fun D' C ys H' s' I' ns fp q => ?_
  obtain ⟨m, hm⟩ := ns
  obtain ⟨f1, f2, f3, f4, f5, f6⟩ := fp
  obtain ⟨o, es, ep, ho, rest⟩ := id hm
  have nc : ∀ v, o.data ≠ .cell v := fun v z => by
   rw [rest.1] at z
   cases z
  have I'' : Inv X (pins ++ [(C, o)]) σ (upd H' D' (.lst ys)) s' := I'.pins_of fun p hp => by
   rcases List.mem_append.mp hp with z | z
   ·exact I'.pin p (List.mem_append_right _ z)
   ·rw [List.mem_singleton.mp z]
    exact ⟨ho, f1, f2, f3, nc⟩
  show wpAny (model X.prog X.w) X.A (assign (.Name y py) X.env (.ref D')) _ X.xe s'
  refine thn (zao hNd hiy (.inl hy) (.inr hy) _ s' σ _ (.ref D') (.ref D') D.nx I'' rfl q) fun _ s'' ⟨σ3, H3, I3, q3⟩ => ?_
  obtain ⟨p1, p2, _⟩ := I3.pin (C, o) (List.mem_append_right _ (List.mem_append_right _ (List.mem_singleton.mpr rfl)))
  refine ⟨m, ⟨o, es, ep, p1, rest⟩, fun h' sb => ⟨σ3, H3, ?_, q3⟩⟩
  exact I3.unpinned.turned (t' := s''.toks) (it := C) (fun b o hb e => sb.extBut b o hb e) p2 f2 f4 f5 f6
 show wpAny (model X.prog X.w) X.A (comprehension _ _ _ _ _ _ _ _ >>= _) _ _ s
 exact wpAny_bind (thn fin fun _ s' q => wpAny_pure (wpAny_pure q))
end
section
variable {X : Cx}
def zln (T C : String) : Option Bool := if T = C then some true else if PySem.W.kitMeta C = true then (fastBuiltinMro T).map (·.contains (.type C)) else none
theorem zwv {K : PySem.W.Frag} {T C : String} {b : Bool} (h : zln T C = some b) : PySem.W.kitOne K (.type T) (.type C) = some b := by
 unfold zln at h
 unfold PySem.W.kitOne
 by_cases e : T = C
 ·subst e
  rw [if_pos rfl] at h
  rw [if_pos (beq_self_eq_true _)]
  exact h
 ·rw [if_neg e] at h
  have z : ¬ (Value.type T == Value.type C) = true := fun q => by
   have q' := eq_of_beq q
   injection q' with q''
   exact e q''
  rw [if_neg z]
  exact h
theorem zs2 : zes X (.builtin "isinstance") (fun xs H Q => ∃ (x : V) (T C : String) (b : Bool), xs = [x, .ty C] ∧ zha X.K H x (.type T) ∧ zln T C = some b ∧ Q (.bl b) H) := by
 intro pins s σ H xs us Q I r h
 obtain ⟨x, T, C, b, rfl, ty, e, q⟩ := h
 obtain ⟨u, w', rfl, rx, ry⟩ := zv4 r
 cases (show w' = Value.type C from ry)
 exact zrz I rx ty (zwv e) fun tk => ⟨.bl b, H, I.tok tk, rfl, q⟩
theorem zkz : zln "list" "list" = some true := by decide +kernel
theorem zi3 : zln "tuple" "tuple" = some true := by decide +kernel
end
end L2
set_option maxRecDepth 100000
set_option maxHeartbeats 4000000
namespace L2
open PySem PySem.Spec PyProof.Rows
section
variable {prog : Program} {w : World} {A : Around} {E : Value → Shared → Prop} {s : Shared}
theorem zpm {j q : Addr} {i : Nat} {its : Array Value} {x : Value} {Q : Value → Shared → Prop} (hj : s.heap.IsTupleIter j q i) (hq : s.heap.IsTuple q its) (hx : its[i]? = some x)
  (k : ∀ g, g.IsTupleIter j q (i + 1) → Heap.SameBut j s.heap g → Q x { s with heap := g }) : wpAny (model prog w) A (Builtin.SmallTypes.nextOf (.ref j)) Q E s := by
 obtain ⟨o, ho, oc, od⟩ := id hj
 obtain ⟨p, hp, _, m, pd⟩ := hq
 unfold Builtin.SmallTypes.nextOf
 refine wpAny_bind (wpAny_callSpecial?_slot (name := Str.ofString "__next__") hj.typeIs F.slot_tuple_iterator_next (wpAny_call_entry F.slot_tuple_iterator_next hj.typeIs F.entry_tuple_iterator_next ?_ (F.args_tuple_iterator_next_1 _)))
 show wpAny _ _ (field (.ref j) 0 >>= _) _ _ s
 refine wpAny_bind (wpAny_field ho od (x := .ref q) rfl ?_)
 show wpAny _ _ (if (Value.ref q == Value.none) = true then _ else _) _ _ s
 rw [if_neg (show ¬ ((Value.ref q == Value.none) = true) from Bool.false_ne_true)]
 show wpAny _ _ (field (.ref j) 1 >>= _) _ _ s
 refine wpAny_bind (wpAny_field ho od (x := .int i 0) rfl ?_)
 show wpAny _ _ (seqItems? (.ref q) >>= _) _ _ s
 refine wpAny_bind (wpAny_seqItems hp pd ?_)
 simp only [hx, Int.toNat_natCast]
 refine wpAny_bind (wpAny_setField ho od (by simp) (wpAny_pure ⟨x, rfl, wpAny_pure (k _ ⟨_, Heap.get?_update_self _ ho (Obj.isFreed_of_fields (Obj.data_mapFields od _)), (Obj.cls_mapFields ..).trans oc, ?_⟩ (Heap.SameBut.update ..))⟩))
 rw [Obj.data_mapFields od]
 simp [rawInt]
theorem zr8 {j q : Addr} {i : Nat} {its : Array Value} {Q : Value → Shared → Prop} (hh : A.handled = none) (hj : s.heap.IsTupleIter j q i) (hq : s.heap.IsTuple q its) (hx : its[i]? = none)
  (k : ∀ g e, Heap.ExtBut j s.heap g → (∃ o, g.get? e = some o ∧ o.cls = .type "StopIteration") → E (.ref e) { s with heap := g }) : wpAny (model prog w) A (Builtin.SmallTypes.nextOf (.ref j)) Q E s := by
 obtain ⟨o, ho, oc, od⟩ := id hj
 obtain ⟨p, hp, _, m, pd⟩ := hq
 unfold Builtin.SmallTypes.nextOf
 refine wpAny_bind (wpAny_callSpecial?_slot (name := Str.ofString "__next__") hj.typeIs F.slot_tuple_iterator_next (wpAny_call_entry F.slot_tuple_iterator_next hj.typeIs F.entry_tuple_iterator_next ?_ (F.args_tuple_iterator_next_1 _)))
 show wpAny _ _ (field (.ref j) 0 >>= _) _ _ s
 refine wpAny_bind (wpAny_field ho od (x := .ref q) rfl ?_)
 show wpAny _ _ (if (Value.ref q == Value.none) = true then _ else _) _ _ s
 rw [if_neg (show ¬ ((Value.ref q == Value.none) = true) from Bool.false_ne_true)]
 show wpAny _ _ (field (.ref j) 1 >>= _) _ _ s
 refine wpAny_bind (wpAny_field ho od (x := .int i 0) rfl ?_)
 show wpAny _ _ (seqItems? (.ref q) >>= _) _ _ s
 refine wpAny_bind (wpAny_seqItems hp pd ?_)
 simp only [hx, Int.toNat_natCast]
 refine wpAny_bind (wpAny_rule (wpAny_bind (wpAny_setField ho od (by simp) ?_)))
 show wpAny _ _ (newExc (.type "StopIteration") [] >>= _) _ _ _; refine wpAny_bind ?_; simp only [newExc, newTuple]
 refine wpAny_bind (wpAny_newObj_type ?_ (by size_fits)); refine wpAny_bind (m := firstArgMember _ _) (wpAny_of_eq (a := Value.none) (by first | rfl | (simp only [firstArgMember]; rfl)) ?_)
 refine wpAny_newObj_type ?_ (by size_fits); simp only [raiseNew]; refine wpAny_bind (wpAny_handled ?_); first | rw [show A.in1.handled = none from hh] | rw [hh]
 refine wpAny_bind (wpAny_pure (wpAny_throw ?_)); exact k _ _ (((Heap.SameBut.update ..).extBut.push _).push _) ⟨_, Heap.get?_push_size _ rfl, rfl⟩
theorem zrt (hh : A.handled = none) (j q : Addr) (hne : q ≠ j) (its : Array Value) : Draws prog w A j [j, q] its.size (fun i v => its[i]? = some v) (fun i h => h.IsTupleIter j q i ∧ h.IsTuple q its) where
 live := fun _ _ st => let ⟨o, ho, _⟩ := st.1; ⟨o, ho⟩
 frame := fun _ _ _ st hk => ⟨st.1.at fun o e => hk j (by simp) o e, let ⟨o, e, r⟩ := st.2; ⟨o, hk q (by simp) o e, r⟩⟩
 item := fun i s Q E hi st hQ => zpm st.1 st.2 (x := its[i]) (by simp [hi]) fun g hj sb => hQ _ g s.toks (by simp [hi]) ⟨hj, st.2.extBut sb.extBut hne⟩ sb
 done := fun s Q E st hE => zr8 hh st.1 st.2 (by simp) hE
open AutoSeq1 (wpAny_loadPart') in
theorem zov (q : Addr) (its : Array Value) (n : Nat) (dct : Option Addr) (sl : Array (Option Value)) :
  Meets (Builtin.«enumerate.__new__» ⟨[.type "enumerate", .ref q], []⟩) (fun _ R s => s.heap.get? q = some { cls := .type "tuple", dict := dct, data := .seq its n, slots := sl } ∧
   R (.ok (.ret (.ref (s.heap.push { cls := .type "tuple_iterator", data := .fields #[.ref q, .int 0 0] }).objs.size))) { s with heap := (s.heap.push { cls := .type "tuple_iterator", data := .fields #[.ref q, .int 0 0] }).push { cls := .type "enumerate", data := .fields #[.none, .bool false, .ref s.heap.objs.size, rawInt 0, .none, .none] } }) :=
 .of_wp fun prog w A R s h => by
  obtain ⟨hp, g, d, tk, os⟩ := s
  obtain ⟨hq, h⟩ := h
  have hsub := sub_enumerate
  have hT : Heap.IsTuple (Shared.heap ⟨hp, g, d, tk, os⟩) q its := ⟨_, hq, rfl, n, rfl⟩
  wp_walk using wpAny_loadPart' hq
  refine wpAny_stack_any fun st => wpAny_pure ?_
  split
  ·rename_i c _ _ _ _ _
   cases (c == Value.type "enumerate")
   ·wp_walk using wpAny_loadPart' hq, wpAny_pyIter_tuple hT
    exact ⟨_, rfl, h⟩
   ·wp_walk using wpAny_loadPart' hq, wpAny_pyIter_tuple hT
    exact ⟨_, rfl, h⟩
  ·wp_walk using wpAny_loadPart' hq, wpAny_pyIter_tuple hT
   exact ⟨_, rfl, h⟩
theorem zph {q : Addr} {its : Array Value} {Q : Value → Shared → Prop} (hT : s.heap.IsTuple q its)
  (k : ∀ g, IsEnum g (s.heap.objs.size + 1) s.heap.objs.size 0 .none → g.IsTupleIter s.heap.objs.size q 0 → (∀ b o, s.heap.get? b = some o → g.get? b = some o) → Q (.ref (s.heap.objs.size + 1)) { s with heap := g }) :
  wpAny (model prog w) A (call (.type "enumerate") [.ref q]) Q E s := by
 obtain ⟨⟨c, dct, dt, sl⟩, hq, hc, n, hd⟩ := hT
 cases (show c = .type "tuple" from hc)
 cases (show dt = .seq its n from hd)
 refine callType_new F.called_enumerate (by decide) (F.typeCall_enumerate_1 _) (F.newCall_enumerate_1 _) (fun obj => F.args_object_init_2 obj _) F.entry_enumerate_new (zov q its n dct sl) ⟨hq, ?_⟩
 have z : (s.heap.push { cls := .type "tuple_iterator", data := .fields #[.ref q, .int 0 0] }).objs.size = s.heap.objs.size + 1 := Heap.size_push ..
 have he : IsEnum ((s.heap.push { cls := .type "tuple_iterator", data := .fields #[.ref q, .int 0 0] }).push { cls := .type "enumerate", data := .fields #[.none, .bool false, .ref s.heap.objs.size, rawInt 0, .none, .none] }) (s.heap.objs.size + 1) s.heap.objs.size 0 .none := by
  have y := Heap.get?_push_size (s.heap.push { cls := .type "tuple_iterator", data := .fields #[.ref q, .int 0 0] }) (o := { cls := .type "enumerate", data := .fields #[.none, .bool false, .ref s.heap.objs.size, rawInt 0, .none, .none] }) rfl
  rw [z] at y
  exact y
 show _ ∧ _
 rw [z]
 exact ⟨⟨_, he, rfl⟩, k _ he ⟨_, Heap.get?_push_of_some _ (Heap.get?_push_size _ rfl), rfl, rfl⟩ fun b o y => Heap.get?_push_of_some _ (Heap.get?_push_of_some _ y)⟩
end
def Sq (K : PySem.W.Frag) (b : Bool) (H : Hp) (a : Addr) (xs : List V) : Prop := if b = true then SqT K H a xs else SqL K H a xs
def Ite (K : PySem.W.Frag) (b : Bool) (a : Addr) : It :=
 ⟨fun i H => ∃ xs x, Sq K b H a xs ∧ xs[i]? = some x, fun i H x H' => ∃ T v, x = .ref T ∧ H T = none ∧ H' = upd H T (.tup [.int i, v]) ∧ ∀ xs, Sq K b H a xs → xs[i]? = some v, fun i H => ∃ xs, Sq K b H a xs ∧ xs.length = i⟩
def zsv (b : Bool) (h : Heap) (it a : Addr) (i : Nat) : Prop := if b = true then h.IsTupleIter it a i else h.IsListIter it a i
section
variable {X : Cx} {pins : List (Addr × Obj)} {σ : St} {H : Hp} {s : Shared}
theorem Inv.turned2 {h' : Heap} {t' : Nat} {e it T : Addr} {v : V} {u : Value} {i : Int} {tk : Tok} (I : Inv X pins σ H s) (fe : ziy X pins H e) (fi : ziy X pins H it) (hT : s.heap.objs.size ≤ T) (rv : RelV v u)
  (k : ∀ b o, b ≠ e → b ≠ it → s.heap.get? b = some o → h'.get? b = some o) (ke : ∃ o, h'.get? e = some o) (ki : ∃ o, h'.get? it = some o) (eT : h'.get? T = some { cls := .type "tuple", data := .seq #[.int i tk, u] }) :
  Inv X pins σ (upd H T (.tup [.int i, v])) { s with heap := h', toks := t' } := by
 have nT : H T = none := I.hok.fresh hT
 have ne : ∀ b o, H b = some o → b ≠ e ∧ b ≠ it := fun b o q => ⟨zas q fe.1, zas q fi.1⟩
 have un : Un (frs X.stack) [e, it] H (upd H T (.tup [.int i, v])) s.heap h' := by
  have off : ∀ b, b ∉ [e, it] → b ≠ e ∧ b ≠ it := fun b hb => ⟨fun z => hb (by simp [z]), fun z => hb (by simp [z])⟩
  have lt : ∀ b o, s.heap.get? b = some o → b ≠ T := fun b o q => Nat.ne_of_lt (Nat.lt_of_lt_of_le (Heap.lt_size q) hT)
  exact ⟨fun b o q _ _ hx => k b o (off b hx).1 (off b hx).2 q, fun b o q _ _ hx => ⟨o.slots, k b o (off b hx).1 (off b hx).2 q⟩, fun b o q n _ => by rw [zak (lt b o q)]; exact n, fun b o q hx => ⟨o, k b o (off b hx).1 (off b hx).2 q⟩,
   fun b xs q => by rw [zak (zas q nT)]; exact q, fun b o xs q => by rw [zak (zas q nT)]; exact q, fun b ps q => ⟨#[], by rw [zak (zas q nT), q]; simp⟩⟩
 refine I.call (g' := s.gens) (d' := s.drawn) (ch := [e, it]) un (fun a o q => ?_) I.bare fun b hb => ?_
 ·by_cases ea : a = T
  ·subst ea
   rw [zab] at q
   cases q
   exact ⟨Nat.le_of_lt (zbd (by show 2 ≤ 1000; decide)), [.int i tk, u], .cons ⟨tk, rfl⟩ (.cons rv .nil), ⟨_, eT, rfl, _, rfl⟩⟩
  ·rw [zak ea] at q
   refine (I.hok a o q).stay (fun b z hb r => k b z ?_ ?_ r) (fun b r => by rw [zak (zas r nT)]; exact r) fun b xs r => by rw [zak (zas r nT)]; exact r
   ·rcases hb with rfl | hb
    ·exact (ne _ _ q).1
    ·exact (ne _ _ hb).1
   ·rcases hb with rfl | hb
    ·exact (ne _ _ q).2
    ·exact (ne _ _ hb).2
 ·rcases List.mem_cons.mp hb with z | z
  ·subst z
   exact ⟨fe.2.2.2.1, fe.2.1, fe.2.2.2.2.1, fe.2.2.2.2.2⟩
  ·have z' := List.mem_singleton.mp z
   subst z'
   exact ⟨fi.2.2.2.1, fi.2.1, fi.2.2.2.2.1, fi.2.2.2.2.2⟩
end
theorem Sq.inj {X : Cx} {pins : List (Addr × Obj)} {σ : St} {H : Hp} {s : Shared} {b : Bool} {a : Addr} {xs ys : List V} (I : Inv X pins σ H s) (h : Sq X.K b H a xs) (h' : Sq X.K b H a ys) : xs = ys := by
 cases b with
 | true => exact I.tuple_inj h h'
 | false => exact I.list_inj h h'
theorem zj2 {b : Bool} {h : Heap} {it a : Addr} {i : Nat} (st : zsv b h it a i) : ∃ o, h.get? it = some o ∧ ∀ v, o.data ≠ .cell v := by
 cases b with
 | true =>
  obtain ⟨o, e, _, d⟩ := (show h.IsTupleIter it a i from st)
  exact ⟨o, e, fun v z => by rw [d] at z; cases z⟩
 | false =>
  obtain ⟨o, e, _, d⟩ := (show h.IsListIter it a i from st)
  exact ⟨o, e, fun v z => by rw [d] at z; cases z⟩
theorem zji {X : Cx} {pins : List (Addr × Obj)} {σ : St} {H : Hp} {s : Shared} {b : Bool} {a it : Addr} {xs : List V} (I : Inv X pins σ H s) (hd : X.A.handled = none) (hq : Sq X.K b H a xs) (hne : a ≠ it) :
  ∃ (its : List Value) (St : Nat → Heap → Prop), Vals xs its ∧ Draws X.prog X.w X.A.in1 it [it, a] its.toArray.size (fun i v => its.toArray[i]? = some v) St ∧ (∀ i, zsv b s.heap it a i → St i s.heap) ∧ ∀ i h, St i h → zsv b h it a i := by
 cases b with
 | true =>
  obtain ⟨its, rv, p, _⟩ := I.tuple hq
  exact ⟨its, fun i h => h.IsTupleIter it a i ∧ h.IsTuple a its.toArray, rv, zrt (A := X.A.in1) hd it a hne its.toArray, fun i st => ⟨st, p⟩, fun i h st => st.1⟩
 | false =>
  obtain ⟨its, rv, p, _⟩ := I.list hq
  exact ⟨its, fun i h => h.IsListIter it a i ∧ h.IsList a its.toArray, rv, Draws.list (A := X.A.in1) hd it a hne its.toArray, fun i st => ⟨st, p.isList⟩, fun i h st => st.1⟩
theorem zsa {P : Program} {w : World} {K : PySem.W.Frag} {elts : List Expr} {k : Nat} {pos : Pos} (b : Bool) (a e it : Addr) (hei : e ≠ it) (hae : a ≠ e) (hai : a ≠ it) :
  ztk P w K (.Tuple elts k pos) (Ite K b a) [e, it] e (fun i h => (∃ old, IsEnum h e it (i : Int) old) ∧ zsv b h it a i) where
 mem := by simp
 obj := fun i h st c hc => by
  rcases List.mem_cons.mp hc with z | z
  ·subst z
   obtain ⟨old, q⟩ := st.1
   exact ⟨_, q, fun v z => by
    have z' : Data.fields _ = Data.cell v := z
    cases z'⟩
  ·rw [List.mem_singleton.mp z]
   exact zj2 st.2
 keep := fun i h h' st kk => by
  obtain ⟨⟨old, q⟩, st⟩ := st
  refine ⟨⟨old, kk e (by simp) _ q⟩, ?_⟩
  cases b with
  | true => exact (show h.IsTupleIter it a i from st).at fun o q => kk it (by simp) o q
  | false => exact (show h.IsListIter it a i from st).at fun o q => kk it (by simp) o q
 item := by
  intro X hP hw hK hc i pins s σ H E I hf st hg
  subst hP hw hK
  obtain ⟨⟨old, he⟩, st⟩ := st
  obtain ⟨xs, x, hq, hx⟩ := hg
  obtain ⟨its, St, rv, D, up, dn⟩ := zji I (I.ok.hd hc) hq hai
  obtain ⟨u, hu, ru⟩ := rv.get hx
  have hlt : i < its.toArray.size := by simpa using (List.getElem?_eq_some_iff.mp hu).1
  have fe := hf e (by simp)
  have fi := hf it (by simp)
  have lte : e < s.heap.objs.size := Heap.lt_size he
  refine wpAny_pyNext_enum_itemD D he (up i st) hlt hei (by simp [hei, Ne.symm hae]) fun y g tk hy ho st' hT hsz kk => ?_
  have ey : y = u := by
   have z : its.toArray[i]? = some y := hy
   rw [List.getElem?_toArray, hu] at z
   exact (Option.some.inj z).symm
  subst ey
  refine ⟨_, rfl, wpAny_letOwnedTupleGo_enum ho fun g2 he2 sb => ?_⟩
  have it2 : ∃ o, g2.get? it = some o := by
   obtain ⟨o, q, _⟩ := zj2 (dn _ _ st')
   exact ⟨o, (sb.2 it (Ne.symm hei)).trans q⟩
  have I2 := I.turned2 (h' := g2) (t' := tk + 1) (T := s.heap.objs.size) (i := (i : Int)) (tk := tk) fe fi (Nat.le_refl _) ru (fun c o h1 h2 q => (sb.2 c h1).trans (kk c o h1 h2 q)) ⟨_, he2⟩ it2 ((sb.2 _ (Nat.ne_of_gt lte)).trans hT)
  refine ⟨.ref s.heap.objs.size, _, I2, rfl, ⟨_, x, rfl, I.hok.fresh (Nat.le_refl _), rfl, fun ys hy' => by rw [Sq.inj I hy' hq]; exact hx⟩, ⟨⟨y, he2⟩, ?_⟩, fun c hc' => ?_⟩
  ·have z := dn _ _ st'
   cases b with
   | true => exact (show g.IsTupleIter it a (i + 1) from z).at fun o q => (sb.2 it (Ne.symm hei)).trans q
   | false => exact (show g.IsListIter it a (i + 1) from z).at fun o q => (sb.2 it (Ne.symm hei)).trans q
  ·have nz : H c = none := (hf c hc').1
   have cl : c < s.heap.objs.size := by
    rcases List.mem_cons.mp hc' with z | z
    ·rw [z]; exact lte
    ·rw [List.mem_singleton.mp z]
     obtain ⟨o, q, _⟩ := zj2 st
     exact Heap.lt_size q
   rw [zak (Nat.ne_of_lt cl)]
   exact nz
 done := by
  intro X hP hw hK hc i pins s σ H E I hf st hg
  subst hP hw hK
  obtain ⟨⟨old, he⟩, st⟩ := st
  obtain ⟨xs, hq, hx⟩ := hg
  obtain ⟨its, St, rv, D, up, dn⟩ := zji I (I.ok.hd hc) hq hai
  obtain ⟨f0, f1, f2, f3, f4, f5⟩ := hf it (by simp)
  have hl := rv.length
  have e1 : i = its.toArray.size := by
   rw [List.size_toArray]
   omega
  refine wpAny_pyNext_enum_endD D he (by rw [← e1]; exact up i st) fun g eb => ⟨rfl, I.turned (t' := s.toks) (fun c o hc' q => eb c o hc' q) f0 f1 f3 f4 f5⟩
 self := fun _ _ _ _ _ st h => by
  obtain ⟨⟨old, he⟩, _⟩ := st
  exact wpAny_pyIter_enum he h
def zxz (K : PySem.W.Frag) (ta : TA) : TI := fun σ H R => ta σ H fun vs H1 => ∃ (b : Bool) (a : Addr), vs = [.ref a] ∧ (∃ xs, Sq K b H1 a xs) ∧ R (Ite K b a) H1
theorem zvw {X : Cx} {elts : List Expr} {k : Nat} {pos p pos' : Pos} {a : Expr} {ta : TA} (hg : Gl X "enumerate") (hm : X.mg "enumerate" = none) (ha : PA X [a] ta) (hs : starEach [a] X.env = [(false, eval a X.env)] := by rfl) :
  PI X (.Tuple elts k pos) (.Call (.Name "enumerate" p) [a] [] pos') (zxz X.K ta) := by
 intro pins s σ H R I h
 refine Call_ (zii I hg hm PyProof.Rows.boot_enumerate (PyProof.Rows.callWith_type1 (thn (ha pos' pins s σ H _ I h) fun us s1 ⟨vs, H1, I1, r1, q1⟩ => ?_) hs rfl))
 obtain ⟨b, c, rfl, ⟨xs, hq⟩, q⟩ := q1
 obtain ⟨u, rfl, ru⟩ := zgr r1
 cases ru
 have fin : ∀ g : Heap, IsEnum g (s1.heap.objs.size + 1) s1.heap.objs.size 0 .none → zsv b g s1.heap.objs.size c 0 → (∀ d o, s1.heap.get? d = some o → g.get? d = some o) → c < s1.heap.objs.size →
   wpAny (model X.prog X.w) X.A (pyIter (.ref (s1.heap.objs.size + 1))) (PIE X pins σ (.Tuple elts k pos) R) X.xe { s1 with heap := g } := fun g he hi kk cl => by
  refine wpAny_pyIter_enum he ?_
  refine ⟨s1.heap.objs.size + 1, [s1.heap.objs.size + 1, s1.heap.objs.size], _, _, H1, rfl, I1.kept (t' := s1.toks) kk, zsa b c _ _ (Nat.succ_ne_self _) (Nat.ne_of_lt (Nat.lt_succ_of_lt cl)) (Nat.ne_of_lt cl), ⟨⟨.none, he⟩, hi⟩, fun d hd => ?_, q⟩
  have le : s1.heap.objs.size ≤ d := by
   rcases List.mem_cons.mp hd with z | z
   ·rw [z]; exact Nat.le_succ _
   ·rw [List.mem_singleton.mp z]; exact Nat.le_refl _
  exact I1.fpOk le (I1.hok.fresh le)
 cases b with
 | true =>
  obtain ⟨its, rv, pt, _⟩ := I1.tuple hq
  exact zph (show s1.heap.IsTuple c its.toArray from pt) fun g he hi kk => fin g he hi kk pt.lt
 | false =>
  obtain ⟨its, rv, pl, _⟩ := I1.list hq
  have hl := pl.isList
  exact call_enumerate_list hl fun g he hi _ kk => fin g he hi kk (by obtain ⟨o, e, _⟩ := hl; exact Heap.lt_size e)
theorem ztn {K : PySem.W.Frag} {b : Bool} {a : Addr} {xs : List V} {g : TG} {tb : TS} {D : zh7} {σ : St} {H : Hp} (Pv : Nat → St → Hp → Prop) (h0 : Pv 0 σ H) (hl : ∀ i σ H, i ≤ xs.length → Pv i σ H → Sq K b H a xs)
  (hs : ∀ i x σ H, xs[i]? = some x → Pv i σ H → ∀ T, H T = none → g (.ref T) σ (upd H T (.tup [.int i, x])) fun σ2 H2 => tb { D with nx := Pv (i + 1), ct := Pv (i + 1), bk := D.nx } σ2 H2) (hd : ∀ σ H, Pv xs.length σ H → D.nx σ H) :
  ∃ W : Nat → Nat → St → Hp → Prop, (∃ m, W 0 m σ H) ∧ ∀ i m σ H, W i m σ H →
   ((Ite K b a).stop i H ∧ D.nx σ H) ∨ ((Ite K b a).go i H ∧ ∃ N : St → Hp → Prop, (∀ σ' H', N σ' H' → ∃ m', m' < m ∧ W (i + 1) m' σ' H') ∧ ∀ x H', (Ite K b a).yld i H x H' → g x σ H' fun σ2 H2 => tb { D with nx := N, ct := N, bk := D.nx } σ2 H2) := by
 refine ⟨fun i m σ H => m = xs.length - i ∧ i ≤ xs.length ∧ Pv i σ H, ⟨xs.length, by simp, Nat.zero_le _, h0⟩, ?_⟩
 rintro i m σ H ⟨rfl, hi, p⟩
 have q := hl i σ H hi p
 by_cases hlt : i < xs.length
 ·refine .inr ⟨⟨xs, xs[i], q, by simp [hlt]⟩, Pv (i + 1), fun σ' H' p' => ⟨xs.length - (i + 1), by omega, rfl, hlt, p'⟩, fun x H' y => ?_⟩
  obtain ⟨T, v, rfl, hT, rfl, hv⟩ := y
  exact hs i v σ H (hv xs q) p T hT
 ·have e : i = xs.length := by omega
  subst e
  exact .inl ⟨⟨xs, q, rfl⟩, hd σ H p⟩
end L2
set_option maxRecDepth 100000
set_option maxHeartbeats 4000000
namespace L2
open PySem PySem.Spec PyProof.Rows
section
variable {X : Cx}
theorem zq0 {P : Nat → Value → Prop} {f : Nat → V} (hP : ∀ i v, P i v → RelV (f i) v) : ∀ (n k : Nat) (l : List Value), l.length = n → (∀ j v, l[j]? = some v → P (k + j) v) → Vals ((List.range' k n).map f) l
 | 0, k, [], _, _ => .nil
 | n + 1, k, v :: r, hl, h => by
  rw [List.range'_succ, List.map_cons]
  refine .cons (hP _ _ (h 0 v rfl)) (zq0 hP n (k + 1) r (by simpa using hl) fun j v' e => ?_)
  have := h (j + 1) v' (by simpa using e)
  rw [show k + 1 + j = k + (j + 1) by omega]
  exact this
 | 0, _, _ :: _, hl, _ => by simp at hl
 | n + 1, _, [], hl, _ => by simp at hl
theorem zky (hc : X.calm = true) : zes X (.type "list") (fun xs H Q => ∃ (p : Addr) (lo hi : Int), xs = [.ref p] ∧ H p = some (.rng lo hi) ∧ -(2 ^ 62) ≤ lo ∧ lo < 2 ^ 62 ∧ -(2 ^ 62) ≤ hi ∧ hi < 2 ^ 62 ∧ (hi - lo).toNat ≤ 1000 ∧ ∀ l, H l = none → Q (.ref l) (upd H l (.lst ((List.range' 0 (hi - lo).toNat).map fun i : Nat => V.int (lo + i))))) := by
 intro pins s σ H xs us Q I r h
 obtain ⟨p, lo, hi, rfl, hp, b1, b2, b3, b4, hz, q⟩ := h
 obtain ⟨u, rfl, rx⟩ := zgr r
 cases rx
 obtain ⟨t, u, v, e⟩ := (show ObjOk X.prog X.w H s.heap p (.rng lo hi) from I.hok p _ hp)
 have hn : Builtin.Range.rangeSize lo hi 1 = (((hi - lo).toNat : Nat) : Int) := by
  rw [rangeSize_one]
  split <;> omega
 refine call_list_range (I.ok.hd hc) e (small_one b1 b2 b3 b4) hn (Nat.le_trans hz (by decide)) fun g tk acc c kk eg hi' => ?_
 obtain ⟨sz, it⟩ := hi'
 have vv : Vals ((List.range' 0 (hi - lo).toNat).map fun i : Nat => V.int (lo + i)) acc.toList := by
  refine zq0 (P := fun i v => ∃ t, v = .int (lo + i * 1) t) (fun i v hv => ?_) _ 0 acc.toList (by simpa using sz) fun j v ej => ?_
  ·obtain ⟨t, rfl⟩ := hv
   exact ⟨t, by rw [Int.mul_one]⟩
  ·have := it j v (by simpa using ej)
   rw [Nat.zero_add]
   exact this
 refine ⟨.ref s.heap.objs.size, _, I.laid (t' := tk) kk (Nat.le_refl _) (show ObjOk X.prog X.w _ _ _ (.lst _) from ⟨?_, acc.toList, c, vv, eg⟩), rfl, q _ (I.hok.fresh (Nat.le_refl _))⟩
 rw [List.length_map, List.length_range']
 exact Nat.le_of_lt (zbd hz)
open AutoSeq1 (wpAny_loadPart') in
def zyp (K : PySem.W.Frag) (tl : TE) : TI := fun σ H R => tl σ H fun x H1 => ∃ a, x = .ref a ∧ (((∃ xs, SqL K H1 a xs) ∧ R (Itl K a) H1) ∨ ((∃ xs, SqT K H1 a xs) ∧ R (Itt K a) H1))
theorem zws {tg l : Expr} {tl : TE} (hl : PE X l tl) : PI X tg l (zyp X.K tl) := by
 intro pins s σ H R I h
 refine thn (hl pins s σ H _ I h) fun v s1 ⟨x, H1, I1, r1, q1⟩ => ?_
 obtain ⟨a, rfl, q⟩ := q1
 cases r1
 rcases q with ⟨⟨xs, hq⟩, q⟩ | ⟨⟨xs, hq⟩, q⟩
 ·obtain ⟨its, rv, p, hz⟩ := I1.list hq
  refine wpAny_pyIter_list p.isList ⟨s1.heap.objs.size, [s1.heap.objs.size], _, _, H1, rfl, I1.kept (t' := s1.toks) fun b o e => Heap.get?_push_of_some _ e, zlw a _, ⟨_, Heap.get?_push_size _ rfl, rfl, rfl⟩, fun b hb => ?_, q⟩
  rw [List.mem_singleton.mp hb]
  exact I1.fpOk (Nat.le_refl _) (I1.hok.fresh (Nat.le_refl _))
 ·obtain ⟨its, rv, p, hz⟩ := I1.tuple hq
  refine wpAny_pyIter_tuple (show s1.heap.IsTuple a its.toArray from p) ⟨s1.heap.objs.size, [s1.heap.objs.size], _, _, H1, rfl, I1.kept (t' := s1.toks) fun b o e => Heap.get?_push_of_some _ e, zkj a _, ⟨_, Heap.get?_push_size _ rfl, rfl, rfl⟩, fun b hb => ?_, q⟩
  rw [List.mem_singleton.mp hb]
  exact I1.fpOk (Nat.le_refl _) (I1.hok.fresh (Nat.le_refl _))
theorem ze1 (hc : X.calm = true) : zes X (.builtin "sum") (fun xs H Q => ∃ (p : Addr) (ns : List Int), xs = [.ref p] ∧ SqL X.K H p (ns.map V.int) ∧ Q (.int ns.sum) H) := by
 intro pins s σ H xs us Q I r h
 obtain ⟨p, ns, rfl, hq, q⟩ := h
 obtain ⟨u, rfl, rx⟩ := zgr r
 cases rx
 obtain ⟨its, rv, pl, hz'⟩ := I.list hq
 have ia := zgs rv
 obtain ⟨ps, hx⟩ := ia.allInts.items
 have hl' : s.heap.IsList p (intItems ps) := hx ▸ pl.isList
 refine sum_intListG (I.ok.hd hc) hl' fun g tk t' hk => ?_
 have e1 : ns = ps.toList.map (·.1) := by
  rw [← nums_intItems, ← hx]
  exact (show numsOf its.toArray.toList = ns from ia.numsOf).symm
 have e2 : preSum (numAt ps) ps.size = ns.sum := by
  rw [preSum_eq, List.take_of_length_le (by simp), e1]
 rw [e2]
 exact ⟨.int _, H, I.kept (t' := tk) hk, ⟨t', rfl⟩, q⟩
end
section
variable {X : Cx} {K : PySem.W.Frag}
theorem ixT (h : X.K = K := by rfl) : IxR X (zx4 K) := h ▸ zxg
theorem ixL (h : X.K = K := by rfl) : IxR X (zxt K) := h ▸ zvs
theorem zep (h : X.K = K := by rfl) : zes X (.builtin "len") (fun xs H Q => ∃ p ys, xs = [.ref p] ∧ (SqL K H p ys ∨ SqT K H p ys) ∧ Q (.int ys.length) H) := h ▸ zm1
theorem zyd (h : X.K = K := by rfl) : zes X (.builtin "isinstance") (fun xs H Q => ∃ (x : V) (T C : String) (b : Bool), xs = [x, .ty C] ∧ zha K H x (.type T) ∧ zln T C = some b ∧ Q (.bl b) H) := h ▸ zs2
end
mutual
def Dn (H : Hp) : PyData → V → Prop
 | .none, v => v = .non
 | .bool b, v => v = .bl b
 | .int i, v => v = .int i
 | .str x, v => v = .str x
 | .list ds, v => ∃ a xs, v = .ref a ∧ H a = some (.lst xs) ∧ DnL H ds xs
 | .tuple ds, v => ∃ a xs, v = .ref a ∧ H a = some (.tup xs) ∧ DnL H ds xs
 | .dict kvs, v => kvs = [] ∧ ∃ a, v = .ref a ∧ H a = some (.dK [])
def DnL (H : Hp) : List PyData → List V → Prop
 | [], xs => xs = []
 | d :: ds, xs => ∃ x r, xs = x :: r ∧ Dn H d x ∧ DnL H ds r
end
mutual
theorem Dn.same {H H' : Hp} (h : Same H H') : ∀ (d : PyData) (v : V), Dn H d v → Dn H' d v
 | .none, _, q => q
 | .bool _, _, q => q
 | .int _, _, q => q
 | .str _, _, q => q
 | .list ds, _, ⟨a, xs, e, q, r⟩ => ⟨a, xs, e, h _ _ q, DnL.same h ds xs r⟩
 | .tuple ds, _, ⟨a, xs, e, q, r⟩ => ⟨a, xs, e, h _ _ q, DnL.same h ds xs r⟩
 | .dict _, _, ⟨e, a, q, r⟩ => ⟨e, a, q, h _ _ r⟩
theorem DnL.same {H H' : Hp} (h : Same H H') : ∀ (ds : List PyData) (xs : List V), DnL H ds xs → DnL H' ds xs
 | [], _, q => q
 | d :: ds, _, ⟨x, r, e, q, z⟩ => ⟨x, r, e, Dn.same h d x q, DnL.same h ds r z⟩
end
theorem DnL.length {H : Hp} : ∀ {ds : List PyData} {xs : List V}, DnL H ds xs → ds.length = xs.length
 | [], _, q => by cases (show _ = [] from q); rfl
 | d :: ds, _, ⟨x, r, e, _, z⟩ => by rw [e, List.length_cons, List.length_cons, DnL.length z]
theorem DnL.get {H : Hp} : ∀ {ds : List PyData} {xs : List V} {i : Nat} {x : V}, DnL H ds xs → xs[i]? = some x → ∃ d, ds[i]? = some d ∧ Dn H d x
 | [], _, i, x, q, e => by rw [(show _ = [] from q)] at e; simp at e
 | d :: ds, _, 0, x, ⟨y, r, e, q, z⟩, h => by rw [e] at h; cases h; exact ⟨d, rfl, q⟩
 | d :: ds, _, i + 1, x, ⟨y, r, e, q, z⟩, h => by
  rw [e] at h
  obtain ⟨d', h1, h2⟩ := DnL.get (i := i) z (by simpa using h)
  exact ⟨d', by simpa using h1, h2⟩
theorem DnL.get' {H : Hp} : ∀ {ds : List PyData} {xs : List V} {i : Nat} {d : PyData}, DnL H ds xs → ds[i]? = some d → ∃ x, xs[i]? = some x ∧ Dn H d x
 | [], _, i, x, q, e => by simp at e
 | d :: ds, _, 0, x, ⟨y, r, e, q, z⟩, h => by cases h; exact ⟨y, by rw [e]; rfl, q⟩
 | d :: ds, _, i + 1, x, ⟨y, r, e, q, z⟩, h => by
  obtain ⟨d', h1, h2⟩ := DnL.get' (i := i) z (by simpa using h)
  exact ⟨d', by rw [e]; simpa using h1, h2⟩
theorem DnL.append {H : Hp} : ∀ {ds es : List PyData} {xs ys : List V}, DnL H ds xs → DnL H es ys → DnL H (ds ++ es) (xs ++ ys)
 | [], es, xs, ys, q, r => by rw [(show xs = [] from q)]; exact r
 | d :: ds, es, _, ys, ⟨x, t, e, q, z⟩, r => ⟨x, t ++ ys, by rw [e]; rfl, q, DnL.append z r⟩
mutual
theorem Dn.reads {X : Cx} {pins : List (Addr × Obj)} {σ : St} {H : Hp} {s : Shared} (I : Inv X pins σ H s) : ∀ (d : PyData) (v : V) (u : Value), Dn H d v → d.canLay0 = true → RelV v u → ∃ as, Reads s.heap u d as
 | .none, v, u, q, _, r => by cases (show v = .non from q); cases (show u = Value.none from r); exact ⟨_, .none⟩
 | .bool b, v, u, q, _, r => by cases (show v = .bl b from q); cases (show u = Value.bool b from r); exact ⟨_, .bool b⟩
 | .int i, v, u, q, _, r => by cases (show v = .int i from q); obtain ⟨t, rfl⟩ := (show ∃ t, u = Value.int i t from r); exact ⟨_, .int i t⟩
 | .str x, v, u, q, _, r => by cases (show v = .str x from q); obtain ⟨t, rfl⟩ := (show ∃ t, u = Value.str x t from r); exact ⟨_, .str x t⟩
 | .list ds, _, u, ⟨a, xs, rfl, q, z⟩, c, r => by
  cases (show u = Value.ref a from r)
  obtain ⟨_, its, n, rv, e⟩ := (show ObjOk X.prog X.w H s.heap a (.lst xs) from I.hok a _ q)
  obtain ⟨as, ra⟩ := DnL.reads I ds xs its z (by simpa [PyData.canLay0] using c) rv
  exact ⟨_, .list e rfl rfl (by simpa using ra)⟩
 | .tuple ds, _, u, ⟨a, xs, rfl, q, z⟩, c, r => by
  cases (show u = Value.ref a from r)
  obtain ⟨_, its, rv, o, e, hc, n, hd⟩ := (show ObjOk X.prog X.w H s.heap a (.tup xs) from I.hok a _ q)
  obtain ⟨as, ra⟩ := DnL.reads I ds xs its z (by simpa [PyData.canLay0] using c) rv
  exact ⟨_, .tuple e hc hd (by simpa using ra)⟩
 | .dict k, v, u, _, c, _ => by simp [PyData.canLay0] at c
theorem DnL.reads {X : Cx} {pins : List (Addr × Obj)} {σ : St} {H : Hp} {s : Shared} (I : Inv X pins σ H s) : ∀ (ds : List PyData) (xs : List V) (us : List Value), DnL H ds xs → PyData.canLayAll0 ds = true → Vals xs us → ∃ as, ReadsAll s.heap us ds as
 | [], xs, us, q, _, r => by
  cases (show xs = [] from q)
  cases r
  exact ⟨_, .nil⟩
 | d :: ds, _, us, ⟨x, t, rfl, q, z⟩, c, r => by
  cases r with
  | cons rx rt =>
   have c' : PyData.canLay0 d = true ∧ PyData.canLayAll0 ds = true := by simpa [PyData.canLayAll0] using c
   obtain ⟨a1, r1⟩ := Dn.reads I d x _ q c'.1 rx
   obtain ⟨a2, r2⟩ := DnL.reads I ds t _ z c'.2 rt
   exact ⟨_, .cons r1 r2⟩
end
theorem zdd {X : Cx} (hu : X.A.units + 64 < cLine) : OpR X (compareOp .NotEq) (fun x y H Q => ∃ d e : PyData, Dn H d x ∧ Dn H e y ∧ SeqAt.shaped d = true ∧ SeqAt.shaped e = true ∧ Q (.bl (!PyData.eqv d e)) H) := by
 intro pins s σ H x y v u Q I rx ry h
 obtain ⟨d, e, hd, he, sd, se, q⟩ := h
 obtain ⟨as, ra⟩ := Dn.reads I d x v hd (SeqAt.canLay_of_shaped sd) rx
 obtain ⟨bs, rb⟩ := Dn.reads I e y u he (SeqAt.canLay_of_shaped se) ry
 exact ne_dataH ra rb sd se hu ⟨.bl _, H, I, rfl, q⟩
mutual
theorem zg9 : ∀ d : PyData, d.canLay0 = true → PyData.eqv d d = true
 | .none, _ => by simp [PyData.eqv]
 | .bool _, _ => by simp [PyData.eqv]
 | .int _, _ => by simp [PyData.eqv]
 | .str _, _ => by simp [PyData.eqv]
 | .list ds, c => by simpa [PyData.eqv] using zf0 ds (by simpa [PyData.canLay0] using c)
 | .tuple ds, c => by simpa [PyData.eqv] using zf0 ds (by simpa [PyData.canLay0] using c)
 | .dict _, c => by simp [PyData.canLay0] at c
theorem zf0 : ∀ ds : List PyData, PyData.canLayAll0 ds = true → PyData.eqvAll ds ds = true
 | [], _ => by simp [PyData.eqvAll]
 | d :: ds, c => by
  have c' : PyData.canLay0 d = true ∧ PyData.canLayAll0 ds = true := by simpa [PyData.canLayAll0] using c
  simp [PyData.eqvAll, zg9 d c'.1, zf0 ds c'.2]
end
end L2
set_option maxRecDepth 100000
set_option maxHeartbeats 4000000
namespace Wd
open PySem L2
def isW : PyData → Bool
 | .int _ => true
 | _ => false
def zc8 (d : PyData) (lo hi : Int) : Bool := match d with
 | .int i => decide (lo ≤ i) && decide (i ≤ hi)
 | _ => false
def zjc (d : PyData) : Bool := match d with
 | .tuple ds => decide (0 < ds.length)
 | _ => false
def zbh (many : Int) : List PyData → Int → Bool
 | [], _ => true
 | .int i :: ds, last => decide (last + 1 ≤ i) && decide (i ≤ many - 1) && zbh many ds i
 | _ :: _, _ => false
def zyl (many : Int) : PyData → PyData → Bool
 | .int up, .tuple ks => zbh many ks up
 | _, _ => false
def zx9 (h : PyData) : PyData → Bool
 | .tuple ks => zc8 h 1 ks.length
 | _ => false
def zy3 (l : PyData) : PyData → Bool
 | .int hi => zc8 l 0 hi
 | _ => false
def zfh (many : Int) (d : PyData) : Bool := match d with
 | .tuple [u, l, h, k] => zc8 u 0 (many - 1) && (zjc k && (zyl many u k && (zx9 h k && zy3 l h)))
 | _ => false
def zpu : PyData → PyData
 | .tuple (x :: _) => x
 | _ => .none
def zga : PyData → Bool
 | .tuple [_, n] => isW n
 | _ => false
def znk (many : Int) (d : PyData) : Bool := match d with
 | .tuple ds => decide (0 < ds.length) && ds.all zga && zbh many (ds.map zpu) (-1)
 | _ => false
def neI : PyData → PyData → Bool
 | .int i, .int j => !decide (i = j)
 | _, _ => false
def zsh (many : Int) (s : Str) (x y : PyData) : Bool := if s = ("most" : Str) then isW x && znk many y else if s = ("needs" : Str) ∨ s = ("bans" : Str) then zc8 x 0 (many - 1) && (zc8 y 0 (many - 1) && neI x y) else false
def zx8 (many : Int) (x y : PyData) : PyData → Bool
 | .str s => zsh many s x y
 | _ => false
def zil (many : Int) (d : PyData) : Bool := match d with
 | .tuple [k, x, y] => zx8 many x y k
 | _ => false
def toI : PyData → Int
 | .int i => i
 | _ => 0
def zjy : PyData → List Int
 | .tuple [_, _, _, .tuple ks] => ks.map toI
 | _ => []
structure zwb (many : Int) (bs : List PyData) : Prop where
 each : ∀ b ∈ bs, zfh many b = true
 kids : (bs.flatMap zjy).Perm ((List.range' 0 (many - 1).toNat).map fun i : Nat => (1 : Int) + i)
theorem zad {H : Hp} {p : Addr} (h : H p = none) (o : HO) : Same H (upd H p o) := zmh fun b u q => by rw [zak (zas q h)]; exact q
theorem zam {n : Nat} (h : n ≤ 1000) : n ≤ sizeLine := Nat.le_of_lt (zbd h)
theorem zex {H : Hp} {i : Int} {v : V} (h : Dn H (.int i) v) : v = .int i := h
theorem zgz {H : Hp} {ds : List PyData} {v : V} (h : Dn H (.tuple ds) v) : ∃ a xs, v = .ref a ∧ H a = some (.tup xs) ∧ DnL H ds xs := h
theorem zme {d : PyData} (h : isW d = true) : ∃ i, d = .int i := by
 cases d <;> first | exact ⟨_, rfl⟩ | cases h
theorem sqT {K : PySem.W.Frag} {H : Hp} {a : Addr} {xs : List V} (h : H a = some (.tup xs)) : SqT K H a xs := .inl (.inl h)
theorem at0 {x : V} {r : List V} : atI (x :: r) 0 = some x := zdj (j := 0) rfl
theorem at1 {x y : V} {r : List V} : atI (x :: y :: r) 1 = some y := zdj (j := 1) rfl
theorem at2 {x y z : V} {r : List V} : atI (x :: y :: z :: r) 2 = some z := zdj (j := 2) rfl
theorem at3 {x y z w : V} {r : List V} : atI (x :: y :: z :: w :: r) 3 = some w := zdj (j := 3) rfl
theorem zeh {d : PyData} {lo hi : Int} (h : zc8 d lo hi = true) : ∃ i, d = .int i ∧ lo ≤ i ∧ i ≤ hi := by
 cases d with
 | int i =>
  have z : (decide (lo ≤ i) && decide (i ≤ hi)) = true := h
  simp only [Bool.and_eq_true, decide_eq_true_eq] at z
  exact ⟨i, rfl, z.1, z.2⟩
 | _ => cases h
theorem zn6 {d : PyData} (h : zjc d = true) : ∃ ds, d = .tuple ds ∧ 0 < ds.length := by
 cases d with
 | tuple ds => exact ⟨ds, rfl, of_decide_eq_true h⟩
 | _ => cases h
theorem zox {H : Hp} : ∀ {ns : List Int} {xs : List V}, DnL H (ns.map PyData.int) xs → xs = ns.map V.int
 | [], xs, h => h
 | n :: r, _, ⟨x, t, rfl, hx, ht⟩ => by rw [zox ht, zex hx]; rfl
theorem zoz {H : Hp} : ∀ (ns : List Int), DnL H (ns.map PyData.int) (ns.map V.int)
 | [] => rfl
 | n :: r => ⟨_, _, rfl, rfl, zoz r⟩
end Wd
set_option maxRecDepth 100000
set_option maxHeartbeats 4000000
namespace Ow
open PySem L2 Wd
structure WoodAt (H : Hp) (wd : Addr) (many : Int) (xs ys : List V) : Prop where
 ex : ∃ tb tc, H wd = some (.tup [.int many, .ref tb, .ref tc]) ∧ H tb = some (.tup xs) ∧ H tc = some (.tup ys)
def zwn : Sp := fun vs H Q _ => ∃ (wd : Addr) (many : Int) (xs ys : List V), vs = [.ref wd] ∧ WoodAt H wd many xs ys ∧ Q (.int ((xs.length : Int) + (ys.length : Int))) H
def zu3 : Sp := fun vs H Q _ => ∃ (wd : Addr) (many : Int) (xs ys : List V) (t : Nat) (v : V), vs = [.ref wd, .int t] ∧ WoodAt H wd many xs ys ∧ (xs ++ ys)[t]? = some v ∧ Q v H
theorem zmi {α β : Type} {f : α → List β} {ds : List α} {i : Nat} {d : α} (h : ds[i]? = some d) : (ds.take (i + 1)).flatMap f = (ds.take i).flatMap f ++ f d := by
 obtain ⟨hi, e⟩ := List.getElem?_eq_some_iff.mp h
 rw [List.take_succ_eq_append_getElem hi, List.flatMap_append, e]
 simp
def zbr : Nat → PyData → Bool
 | _, .int _ => true
 | _, .str s => PyData.strOk s
 | n + 1, .tuple ds => decide (ds.length ≤ 1000) && ds.all (zbr n)
 | _, _ => false
theorem zsu {many one x : Int} (h1 : 1 < many) (h9 : many ≤ 9) (o0 : 0 ≤ one) (o1 : one < many) (x0 : 0 ≤ x) (x1 : x < many - 1) : 0 ≤ (one + 1 + x) % many ∧ (one + 1 + x) % many < many ∧ one ≠ (one + 1 + x) % many := by
 have e : many = 2 ∨ many = 3 ∨ many = 4 ∨ many = 5 ∨ many = 6 ∨ many = 7 ∨ many = 8 ∨ many = 9 := by omega
 rcases e with rfl | rfl | rfl | rfl | rfl | rfl | rfl | rfl <;> omega
theorem zpt : PyData.strOk ("most" : Str) = true := by decide +kernel
theorem zot : PyData.strOk ("needs" : Str) = true := by decide +kernel
theorem zp8 : PyData.strOk ("bans" : Str) = true := by decide +kernel
theorem zh6 {m : Nat} (h : m ≤ 9) : 2 ^ m ≤ 512 := Nat.pow_le_pow_right (by decide) h
structure zje (H : Hp) (i : Nat) (ps : List PyData) (xs : List V) : Prop where
 dn : DnL H ps xs
 ok : ps.all zga = true
 flat : ps.all (zbr 1) = true
 ris : zbh (i : Int) (ps.map zpu) (-1) = true
 few : ps.length ≤ i
theorem zeu {m m' : Int} (h : m ≤ m') : ∀ {ks : List PyData} {u : Int}, zbh m ks u = true → zbh m' ks u = true
 | [], _, _ => rfl
 | .int i :: ks, u, z => by
  have z' : (decide (u + 1 ≤ i) && decide (i ≤ m - 1) && zbh m ks i) = true := z
  show (decide (u + 1 ≤ i) && decide (i ≤ m' - 1) && zbh m' ks i) = true
  simp only [Bool.and_eq_true, decide_eq_true_eq] at z' ⊢
  exact ⟨⟨z'.1.1, by omega⟩, zeu h z'.2⟩
 | .none :: _, _, z => by cases z
 | .bool _ :: _, _, z => by cases z
 | .str _ :: _, _, z => by cases z
 | .list _ :: _, _, z => by cases z
 | .tuple _ :: _, _, z => by cases z
 | .dict _ :: _, _, z => by cases z
theorem zfz {m j : Int} (h : j < m) : ∀ {ks : List PyData} {u : Int}, zbh j ks u = true → u < j → zbh m (ks ++ [.int j]) u = true
 | [], u, _, hu => by
  show (decide (u + 1 ≤ j) && decide (j ≤ m - 1) && true) = true
  rw [decide_eq_true (by omega), decide_eq_true (by omega)]
  rfl
 | .int i :: ks, u, z, hu => by
  have z' : (decide (u + 1 ≤ i) && decide (i ≤ j - 1) && zbh j ks i) = true := z
  show (decide (u + 1 ≤ i) && decide (i ≤ m - 1) && zbh m (ks ++ [.int j]) i) = true
  simp only [Bool.and_eq_true, decide_eq_true_eq] at z' ⊢
  exact ⟨⟨z'.1.1, by omega⟩, zfz h z'.2 (by omega)⟩
 | .none :: _, _, z, _ => by cases z
 | .bool _ :: _, _, z, _ => by cases z
 | .str _ :: _, _, z, _ => by cases z
 | .list _ :: _, _, z, _ => by cases z
 | .tuple _ :: _, _, z, _ => by cases z
 | .dict _ :: _, _, z, _ => by cases z
theorem DnL.keepT {H H' : Hp} {f : PyData → Bool} (k : ∀ d v, f d = true → Dn H d v → Dn H' d v) : ∀ (ds : List PyData) (xs : List V), ds.all f = true → DnL H ds xs → DnL H' ds xs
 | [], _, _, q => q
 | d :: ds, _, c, ⟨x, r, e, q, z⟩ => by
  rw [List.all_cons, Bool.and_eq_true] at c
  exact ⟨x, r, e, k d x c.1 q, DnL.keepT k ds r c.2 z⟩
theorem Dn.keepT {H H' : Hp} (h : ∀ b xs, H b = some (.tup xs) → H' b = some (.tup xs)) : ∀ (n : Nat) (d : PyData) (v : V), zbr n d = true → Dn H d v → Dn H' d v
 | _, .int _, _, _, q => q
 | _, .str _, _, _, q => q
 | n + 1, .tuple ds, _, c, ⟨p, xs, e, q, z⟩ => ⟨p, xs, e, h _ _ q, DnL.keepT (Dn.keepT h n) ds xs ((Bool.and_eq_true _ _).mp c).2 z⟩
 | 0, .tuple ds, _, c, _ => by cases c
 | 0, .none, _, c, _ => by cases c
 | n + 1, .none, _, c, _ => by cases c
 | 0, .bool _, _, c, _ => by cases c
 | n + 1, .bool _, _, c, _ => by cases c
 | 0, .list _, _, c, _ => by cases c
 | n + 1, .list _, _, c, _ => by cases c
 | 0, .dict _, _, c, _ => by cases c
 | n + 1, .dict _, _, c, _ => by cases c
theorem zow {H : Hp} {p : Addr} {xs ys : List V} (h : H p = some (.lst xs)) : ∀ b zs, H b = some (.tup zs) → upd H p (.lst ys) b = some (.tup zs) := fun b zs q => by
 rw [zak (zof q h (by intro z; cases z))]
 exact q
structure Grp where
 t : Addr
 up : Int
 l : Addr
 kids : List Int
structure GAt (H0 H : Hp) (g : Addr) (gs : List Grp) : Prop where
 at_ : H g = some (.lst (gs.map fun x => V.ref x.t))
 new : H0 g = none
 tup : ∀ x ∈ gs, H x.t = some (.tup [.int x.up, .ref x.l])
 lst : ∀ x ∈ gs, H x.l = some (.lst (x.kids.map V.int)) ∧ H0 x.l = none ∧ g ≠ x.l
 nd : (gs.map (·.l)).Nodup
structure GOk (k : Int) (gs : List Grp) : Prop where
 each : ∀ x ∈ gs, 0 ≤ x.up ∧ x.kids ≠ [] ∧ zbh k (x.kids.map PyData.int) x.up = true
 perm : (gs.flatMap (·.kids)).Perm ((List.range' 0 (k - 1).toNat).map fun i : Nat => (1 : Int) + i)
theorem GOk.few {k : Int} {gs : List Grp} (G : GOk k gs) : gs.length ≤ (k - 1).toNat := by
 have e := G.perm.length_eq
 rw [List.length_map, List.length_range'] at e
 rw [← e]
 have go : ∀ l : List Grp, (∀ x ∈ l, x.kids ≠ []) → l.length ≤ (l.flatMap (·.kids)).length := by
  intro l
  induction l with
  | nil => intro _; exact Nat.le_refl _
  | cons x r ih =>
   intro h
   rw [List.flatMap_cons, List.length_append, List.length_cons]
   have h1 := List.length_pos_iff.mpr (h x List.mem_cons_self)
   have h2 := ih fun y hy => h y (List.mem_cons_of_mem _ hy)
   omega
 exact go gs fun x hx => (G.each x hx).2.1
theorem zj1 (k : Nat) : ((List.range' 0 k).map fun i : Nat => (1 : Int) + i) ++ [((k : Int) + 1)] = (List.range' 0 (k + 1)).map fun i : Nat => (1 : Int) + i := by
 rw [List.range'_concat, List.map_append]
 simp
 omega
theorem GOk.new {k : Nat} {gs : List Grp} {t l : Addr} {u : Int} (G : GOk ((k : Int) + 1) gs) (u0 : 0 ≤ u) (u1 : u < (k : Int) + 1) : GOk ((k : Int) + 2) (gs ++ [⟨t, u, l, [(k : Int) + 1]⟩]) where
 each := fun x hx => by
  rcases List.mem_append.mp hx with z | z
  ·obtain ⟨a, b, c⟩ := G.each x z
   exact ⟨a, b, zeu (by omega) c⟩
  ·rw [List.mem_singleton.mp z]
   refine ⟨u0, by simp, ?_⟩
   show (decide (u + 1 ≤ (k : Int) + 1) && decide ((k : Int) + 1 ≤ (k : Int) + 2 - 1) && true) = true
   rw [decide_eq_true (by omega), decide_eq_true (by omega)]
   rfl
 perm := by
  rw [List.flatMap_append]
  have e : ((k : Int) + 2 - 1).toNat = k + 1 := by omega
  have e' : ((k : Int) + 1 - 1).toNat = k := by omega
  have p := G.perm
  rw [e'] at p
  rw [e, ← zj1]
  exact p.append (by simp)
theorem GOk.put {k : Nat} {pre post : List Grp} {x : Grp} (G : GOk ((k : Int) + 1) (pre ++ x :: post)) : GOk ((k : Int) + 2) (pre ++ ⟨x.t, x.up, x.l, x.kids ++ [(k : Int) + 1]⟩ :: post) where
 each := fun y hy => by
  have old : ∀ z ∈ pre ++ x :: post, 0 ≤ z.up ∧ z.kids ≠ [] ∧ zbh ((k : Int) + 2) (z.kids.map PyData.int) z.up = true := fun z hz => by
   obtain ⟨a, b, c⟩ := G.each z hz
   exact ⟨a, b, zeu (by omega) c⟩
  rcases List.mem_append.mp hy with z | z
  ·exact old y (List.mem_append_left _ z)
  ·rcases List.mem_cons.mp z with z | z
   ·subst z
    obtain ⟨a, b, c⟩ := G.each x (by simp)
    refine ⟨a, by simp, ?_⟩
    show zbh ((k : Int) + 2) ((x.kids ++ [(k : Int) + 1]).map PyData.int) x.up = true
    rw [List.map_append]
    refine zfz (by omega) c ?_
    cases hk : x.kids with
    | nil => exact absurd hk b
    | cons n r =>
     rw [hk] at c
     have c' : (decide (x.up + 1 ≤ n) && decide (n ≤ (k : Int) + 1 - 1) && zbh ((k : Int) + 1) (r.map PyData.int) n) = true := c
     simp only [Bool.and_eq_true, decide_eq_true_eq] at c'
     omega
   ·exact old y (by simp [z])
 perm := by
  have e : ((k : Int) + 2 - 1).toNat = k + 1 := by omega
  have e' : ((k : Int) + 1 - 1).toNat = k := by omega
  have p := G.perm
  rw [e'] at p
  rw [e, ← zj1]
  refine List.Perm.trans ?_ (p.append (List.Perm.refl [((k : Int) + 1)]))
  rw [List.flatMap_append, List.flatMap_append, List.flatMap_cons, List.flatMap_cons, List.append_assoc, List.append_assoc, List.append_assoc]
  exact (List.Perm.refl _).append ((List.Perm.refl _).append List.perm_append_comm)
theorem GAt.put {H0 H : Hp} {g : Addr} {pre post : List Grp} {x : Grp} {k : Int} (G : GAt H0 H g (pre ++ x :: post)) : GAt H0 (upd H x.l (.lst (x.kids.map V.int ++ [.int k]))) g (pre ++ ⟨x.t, x.up, x.l, x.kids ++ [k]⟩ :: post) := by
 have hx : x ∈ pre ++ x :: post := by simp
 obtain ⟨a, b, c⟩ := G.lst x hx
 have nd := G.nd
 rw [List.map_append, List.map_cons] at nd
 obtain ⟨_, n2, n3⟩ := List.nodup_append.mp nd
 have oth : ∀ y, y ∈ pre ∨ y ∈ post → y.l ≠ x.l := fun y hy e => by
  rcases hy with hy | hy
  ·exact n3 y.l (List.mem_map.mpr ⟨y, hy, rfl⟩) x.l (by simp) e
  ·exact (List.nodup_cons.mp n2).1 (by rw [← e]; exact List.mem_map.mpr ⟨y, hy, rfl⟩)
 have mem : ∀ y ∈ pre ++ (⟨x.t, x.up, x.l, x.kids ++ [k]⟩ : Grp) :: post, (y ∈ pre ∨ y ∈ post) ∨ y = ⟨x.t, x.up, x.l, x.kids ++ [k]⟩ := fun y hy => by
  rcases List.mem_append.mp hy with z | z
  ·exact .inl (.inl z)
  ·rcases List.mem_cons.mp z with z | z
   ·exact .inr z
   ·exact .inl (.inr z)
 have old : ∀ y, y ∈ pre ∨ y ∈ post → y ∈ pre ++ x :: post := fun y hy => by
  rcases hy with z | z <;> simp [z]
 refine ⟨?_, G.new, fun y hy => ?_, fun y hy => ?_, ?_⟩
 ·rw [zak c, G.at_, List.map_append, List.map_append, List.map_cons, List.map_cons]
 ·rcases mem y hy with z | rfl
  ·rw [zak (zof (G.tup y (old y z)) a (by intro q; cases q))]
   exact G.tup y (old y z)
  ·show upd H x.l _ x.t = _
   rw [zak (zof (G.tup x hx) a (by intro q; cases q))]
   exact G.tup x hx
 ·rcases mem y hy with z | rfl
  ·obtain ⟨a', b', c'⟩ := G.lst y (old y z)
   refine ⟨?_, b', c'⟩
   rw [zak (oth y z)]
   exact a'
  ·refine ⟨?_, b, c⟩
   show upd H x.l _ x.l = _
   rw [zab, List.map_append]
   rfl
 ·have e : (pre ++ (⟨x.t, x.up, x.l, x.kids ++ [k]⟩ : Grp) :: post).map (·.l) = (pre ++ x :: post).map (·.l) := by
   rw [List.map_append, List.map_append, List.map_cons, List.map_cons]
  rw [e]
  exact G.nd
theorem GAt.same {H0 H H' : Hp} {g : Addr} {gs : List Grp} (G : GAt H0 H g gs) (s : Same H H') : GAt H0 H' g gs :=
 ⟨s _ _ G.at_, G.new, fun x hx => s _ _ (G.tup x hx), fun x hx => ⟨s _ _ (G.lst x hx).1, (G.lst x hx).2⟩, G.nd⟩
def zrh (u lo hi : Int) (kids : List Int) : PyData := .tuple [.int u, .int lo, .int hi, .tuple (kids.map PyData.int)]
theorem zwi {m u lo hi : Int} {kids : List Int} (u0 : 0 ≤ u) (ne : kids ≠ []) (r : zbh m (kids.map PyData.int) u = true) (l0 : 0 ≤ lo) (l1 : lo ≤ hi) (h0 : 1 ≤ hi) (h1 : hi ≤ kids.length) : zfh m (zrh u lo hi kids) = true := by
 have u1 : u ≤ m - 1 := by
  cases hk : kids with
  | nil => exact absurd hk ne
  | cons n t =>
   rw [hk] at r
   have c' : (decide (u + 1 ≤ n) && decide (n ≤ m - 1) && zbh m (t.map PyData.int) n) = true := r
   simp only [Bool.and_eq_true, decide_eq_true_eq] at c'
   omega
 show (zc8 (.int u) 0 (m - 1) && (zjc (.tuple (kids.map PyData.int)) && (zbh m (kids.map PyData.int) u && (zc8 (.int hi) 1 ((kids.map PyData.int).length : Nat) && zc8 (.int lo) 0 hi)))) = true
 have e1 : zc8 (.int u) 0 (m - 1) = true := by
  show (decide (0 ≤ u) && decide (u ≤ m - 1)) = true
  rw [decide_eq_true u0, decide_eq_true u1]
  rfl
 have e2 : zjc (.tuple (kids.map PyData.int)) = true := by
  refine decide_eq_true ?_
  rw [List.length_map]
  exact List.length_pos_iff.mpr ne
 have e3 : zc8 (.int hi) 1 ((kids.map PyData.int).length : Nat) = true := by
  show (decide (1 ≤ hi) && decide (hi ≤ ((kids.map PyData.int).length : Nat))) = true
  rw [List.length_map, decide_eq_true h0, decide_eq_true h1]
  rfl
 have e4 : zc8 (.int lo) 0 hi = true := by
  show (decide (0 ≤ lo) && decide (lo ≤ hi)) = true
  rw [decide_eq_true l0, decide_eq_true l1]
  rfl
 rw [e1, e2, r, e3, e4]
 rfl
theorem zp7 (kids : List Int) : (kids.map PyData.int).all (zbr 1) = true := by
 rw [List.all_eq_true]
 intro x hx
 obtain ⟨i, _, rfl⟩ := List.mem_map.mp hx
 rfl
theorem zsj (u lo hi : Int) (kids : List Int) (h : kids.length ≤ 1000) : zbr 3 (zrh u lo hi kids) = true := by
 show (true && (true && (true && (true && ((decide ((kids.map PyData.int).length ≤ 1000) && (kids.map PyData.int).all (zbr 1)) && true))))) = true
 rw [zp7, List.length_map, decide_eq_true h]
 rfl
theorem zt8 (u lo hi : Int) (kids : List Int) : zjy (zrh u lo hi kids) = kids := by
 show (kids.map PyData.int).map toI = kids
 rw [List.map_map]
 have : (toI ∘ PyData.int) = id := rfl
 rw [this, List.map_id]
end Ow
namespace Wd
inductive Tie where
 | bough (u : Nat) (lo hi : Int) (ks : List Nat)
 | needs (a b : Nat)
 | bans (a b : Nat)
 | most (top : Int) (ps : List (Nat × Int))
def cnt (ks : List Nat) (s : Nat) : Nat := (ks.filter fun k => s.testBit k).length
def zh3 (ps : List (Nat × Int)) (f : Nat × Int → Bool) : Int := ((ps.filter f).map (·.2)).sum
def Tie.keep : Tie → Nat → Bool
 | .bough u lo hi ks, s => if s.testBit u = true then decide (lo ≤ (cnt ks s : Int)) && decide ((cnt ks s : Int) ≤ hi) else decide (cnt ks s = 0)
 | .needs a b, s => !s.testBit a || s.testBit b
 | .bans a b, s => !s.testBit a || !s.testBit b
 | .most top ps, s => decide (zh3 ps (fun p => s.testBit p.1) ≤ top)
structure Tie.BoughOkW (m u : Nat) (lo hi : Int) (ks : List Nat) : Prop where
 um : u < m
 ks0 : ks ≠ []
 up : ∀ k ∈ ks, u < k ∧ k < m
 ris : ks.Pairwise (· < ·)
 few : ks.length ≤ m
 lo0 : 0 ≤ lo
 lohi : lo ≤ hi
structure Tie.BoughOk (m u : Nat) (lo hi : Int) (ks : List Nat) : Prop extends Tie.BoughOkW m u lo hi ks where
 hi1 : 1 ≤ hi
 hik : hi ≤ ks.length
theorem Tie.BoughOkW.nd {m u : Nat} {lo hi : Int} {ks : List Nat} (h : Tie.BoughOkW m u lo hi ks) : ks.Nodup := h.ris.imp fun a => Nat.ne_of_lt a
def Tie.Ok (m : Nat) : Tie → Prop
 | .bough u lo hi ks => Tie.BoughOkW m u lo hi ks
 | .needs a b => a < m ∧ b < m ∧ a ≠ b
 | .bans a b => a < m ∧ b < m ∧ a ≠ b
 | .most _ ps => ps ≠ [] ∧ (∀ p ∈ ps, p.1 < m) ∧ (ps.map (·.1)).Pairwise (· < ·) ∧ ps.length ≤ m
def InS (y n s : Nat) : Prop := (∀ k, y.testBit k = true → s.testBit k = true) ∧ ∀ k, n.testBit k = true → s.testBit k = false
def zej (ps : List (Nat × Int)) (y n : Nat) : Int := zh3 ps fun p => y.testBit p.1 || (decide (p.2 < 0) && !n.testBit p.1)
def Tie.sb : Tie → Nat → Nat → Bool
 | .needs a b, y, n => y.testBit a && n.testBit b
 | .bans a b, y, n => y.testBit a && y.testBit b
 | .most top ps, y, n => decide (top < zej ps y n)
 | .bough u lo hi ks, y, n => !(!n.testBit u && (decide ((cnt ks y : Int) ≤ hi) && decide (lo ≤ (ks.length : Int) - cnt ks n))) && !(!y.testBit u && decide (cnt ks y = 0))
theorem zut {u : Nat} {lo hi : Int} {ks : List Nat} {s : Nat} (h : s.testBit u = true) : (Tie.bough u lo hi ks).keep s = (decide (lo ≤ (cnt ks s : Int)) && decide ((cnt ks s : Int) ≤ hi)) := by
 simp only [Tie.keep, h, if_true]
theorem zvk {u : Nat} {lo hi : Int} {ks : List Nat} {s : Nat} (h : ¬ s.testBit u = true) : (Tie.bough u lo hi ks).keep s = decide (cnt ks s = 0) := by
 simp only [Tie.keep, if_neg h]
theorem zl2 (p : Nat × Int) (r : List (Nat × Int)) (f : Nat × Int → Bool) : zh3 (p :: r) f = (if f p = true then p.2 else 0) + zh3 r f := by
 unfold zh3
 by_cases h : f p = true
 ·rw [List.filter_cons_of_pos h, if_pos h]; simp
 ·rw [List.filter_cons_of_neg h, if_neg h]; simp
theorem zp9 {f g : Nat × Int → Bool} : ∀ {ps : List (Nat × Int)}, (∀ p ∈ ps, (if f p = true then p.2 else 0) ≤ (if g p = true then p.2 else 0)) → zh3 ps f ≤ zh3 ps g
 | [], _ => Int.le_refl _
 | p :: r, h => by
  rw [zl2, zl2]
  have h1 := h p List.mem_cons_self
  have h2 := zp9 (ps := r) fun q hq => h q (List.mem_cons_of_mem _ hq)
  omega
theorem zq2 {f g : Nat × Int → Bool} {ps : List (Nat × Int)} (h : ∀ p ∈ ps, f p = g p) : zh3 ps f = zh3 ps g := by
 unfold zh3
 rw [List.filter_congr h]
theorem zci (k : Nat) (r : List Nat) (s : Nat) : cnt (k :: r) s = (if s.testBit k = true then 1 else 0) + cnt r s := by
 unfold cnt
 by_cases h : s.testBit k = true
 ·rw [List.filter_cons_of_pos (p := fun k => s.testBit k) h, if_pos h, List.length_cons]; omega
 ·rw [List.filter_cons_of_neg (p := fun k => s.testBit k) h, if_neg h]; omega
theorem zgj {ks : List Nat} {s t : Nat} (h : ∀ k ∈ ks, s.testBit k = t.testBit k) : cnt ks s = cnt ks t := by
 unfold cnt
 rw [List.filter_congr h]
theorem znq {s t : Nat} : ∀ {ks : List Nat}, (∀ k ∈ ks, s.testBit k = true → t.testBit k = true) → cnt ks s ≤ cnt ks t
 | [], _ => Nat.le_refl _
 | k :: r, h => by
  rw [zci, zci]
  have h2 := znq (ks := r) fun q hq => h q (List.mem_cons_of_mem _ hq)
  have h1 := h k List.mem_cons_self
  by_cases c : s.testBit k = true
  ·rw [if_pos c, if_pos (h1 c)]; omega
  ·rw [if_neg c]; omega
theorem zi9 {s n : Nat} : ∀ {ks : List Nat}, (∀ k ∈ ks, n.testBit k = true → s.testBit k = false) → cnt ks s + cnt ks n ≤ ks.length
 | [], _ => Nat.le_refl _
 | k :: r, h => by
  rw [zci, zci, List.length_cons]
  have h2 := zi9 (ks := r) fun q hq => h q (List.mem_cons_of_mem _ hq)
  have h1 := h k List.mem_cons_self
  by_cases c : n.testBit k = true
  ·rw [h1 c, if_pos c]; simp; omega
  ·rw [if_neg c]; split <;> omega
def zdn : List Nat → Nat
 | [] => 0
 | k :: r => zdn r ||| 2 ^ k
theorem zie (j : Nat) : ∀ l : List Nat, (zdn l).testBit j = decide (j ∈ l)
 | [] => by simp [zdn]
 | k :: r => by
  rw [zdn, Nat.testBit_or, zie j r, Nat.testBit_two_pow]
  by_cases h : k = j
  ·subst h; simp
  ·have h' : j ≠ k := fun z => h z.symm
   simp [h, h']
theorem zr9 {ps : List (Nat × Int)} (h : (ps.map (·.1)).Nodup) {p q : Nat × Int} (hp : p ∈ ps) (hq : q ∈ ps) (e : p.1 = q.1) : p = q := by
 induction ps with
 | nil => cases hp
 | cons x r ih =>
  rw [List.map_cons, List.nodup_cons] at h
  rcases List.mem_cons.mp hp with e1 | hp
  ·rcases List.mem_cons.mp hq with e2 | hq
   ·rw [e1, e2]
   ·exact absurd (show x.1 ∈ r.map (·.1) from List.mem_map.mpr ⟨q, hq, by rw [← e1, e]⟩) h.1
  ·rcases List.mem_cons.mp hq with e2 | hq
   ·exact absurd (show x.1 ∈ r.map (·.1) from List.mem_map.mpr ⟨p, hp, by rw [← e2, e]⟩) h.1
   ·exact ih h.2 hp hq
theorem zjk {m : Nat} {t : Tie} (ok : t.Ok m) {s s' : Nat} (h : ∀ k, k < m → s.testBit k = s'.testBit k) : t.keep s = t.keep s' := by
 cases t with
 | bough u lo hi ks =>
  have e : cnt ks s = cnt ks s' := zgj fun k hk => h k (ok.up k hk).2
  simp only [Tie.keep]
  rw [e, h u ok.um]
 | needs a b => simp only [Tie.keep]; rw [h a ok.1, h b ok.2.1]
 | bans a b => simp only [Tie.keep]; rw [h a ok.1, h b ok.2.1]
 | most top ps =>
  simp only [Tie.keep]
  rw [zq2 fun p hp => h p.1 (ok.2.1 p hp)]
theorem zjq {y n : Nat} {l : List Nat} (d : ∀ k, y.testBit k = true → n.testBit k = false) (h : ∀ k ∈ l, n.testBit k = false) : InS y n (y ||| zdn l) := by
 refine ⟨fun k hk => ?_, fun k hk => ?_⟩
 ·rw [Nat.testBit_or, hk, Bool.true_or]
 ·rw [Nat.testBit_or, zie]
  have h1 : y.testBit k = false := by
   cases e : y.testBit k with
   | false => rfl
   | true => rw [d k e] at hk; cases hk
  have h2 : ¬ k ∈ l := fun z => by rw [h k z] at hk; cases hk
  rw [h1, decide_eq_false h2]; rfl
theorem zcg (y : Nat) (l : List Nat) (k : Nat) : (y ||| zdn l).testBit k = (y.testBit k || decide (k ∈ l)) := by
 rw [Nat.testBit_or, zie]
theorem zhn {y : Nat} : ∀ {ks : List Nat}, ks.Nodup → ∀ c : Nat, cnt ks y ≤ c → ∀ n : Nat, (∀ k, y.testBit k = true → n.testBit k = false) → c + cnt ks n ≤ ks.length →
  ∃ l : List Nat, (∀ k ∈ l, k ∈ ks ∧ n.testBit k = false) ∧ cnt ks (y ||| zdn l) = c
 | [], _, c, h1, n, _, h2 => ⟨[], (fun _ z => nomatch z), by simp [cnt] at h2 ⊢; omega⟩
 | k :: r, nd, c, h1, n, d, h2 => by
  obtain ⟨nk, nr⟩ := List.nodup_cons.mp nd
  rw [zci] at h1 h2
  rw [List.length_cons] at h2
  by_cases hy : y.testBit k = true
  ·rw [if_pos hy] at h1
   have hn := d k hy
   rw [hn] at h2
   obtain ⟨l, hl, e⟩ := zhn nr (c - 1) (by omega) n d (by simp at h2; omega)
   refine ⟨l, fun j hj => ⟨List.mem_cons_of_mem _ (hl j hj).1, (hl j hj).2⟩, ?_⟩
   rw [zci, e, zcg, hy, Bool.true_or, if_pos rfl]
   omega
  ·rw [if_neg hy] at h1
   by_cases hn : n.testBit k = true
   ·rw [if_pos hn] at h2
    obtain ⟨l, hl, e⟩ := zhn nr c (by omega) n d (by omega)
    refine ⟨l, fun j hj => ⟨List.mem_cons_of_mem _ (hl j hj).1, (hl j hj).2⟩, ?_⟩
    have : ¬ k ∈ l := fun z => nk (hl k z).1
    rw [zci, e, zcg, Bool.eq_false_iff.mpr hy, decide_eq_false this]
    simp
   ·rw [if_neg hn] at h2
    by_cases full : c + cnt r n ≤ r.length
    ·obtain ⟨l, hl, e⟩ := zhn nr c (by omega) n d full
     refine ⟨l, fun j hj => ⟨List.mem_cons_of_mem _ (hl j hj).1, (hl j hj).2⟩, ?_⟩
     have : ¬ k ∈ l := fun z => nk (hl k z).1
     rw [zci, e, zcg, Bool.eq_false_iff.mpr hy, decide_eq_false this]
     simp
    ·have hc : cnt r y + cnt r n ≤ r.length := zi9 fun j _ hj => by
      cases e : y.testBit j with
      | false => rfl
      | true => rw [d j e] at hj; cases hj
     obtain ⟨l, hl, e⟩ := zhn nr (c - 1) (by omega) n d (by omega)
     refine ⟨k :: l, fun j hj => ?_, ?_⟩
     ·rcases List.mem_cons.mp hj with rfl | z
      ·exact ⟨List.mem_cons_self, Bool.eq_false_iff.mpr hn⟩
      ·exact ⟨List.mem_cons_of_mem _ (hl j z).1, (hl j z).2⟩
     ·have e2 : cnt r (y ||| zdn (k :: l)) = cnt r (y ||| zdn l) := zgj fun j hj => by
       have : j ≠ k := fun z => nk (z ▸ hj)
       rw [zcg, zcg]
       simp [this]
      rw [zci, e2, e, zcg, decide_eq_true List.mem_cons_self, Bool.or_true, if_pos rfl]
      omega
theorem zp4 {m : Nat} {t : Tie} (ok : t.Ok m) {y n : Nat} (d : ∀ k, y.testBit k = true → n.testBit k = false) : t.sb y n = true ↔ ∀ s, InS y n s → t.keep s = false := by
 have dn : ∀ k, n.testBit k = true → y.testBit k = false := fun k hk => by
  cases e : y.testBit k with
  | false => rfl
  | true => rw [d k e] at hk; cases hk
 cases t with
 | needs a b =>
  constructor
  ·intro h s hs
   have h' : (y.testBit a && n.testBit b) = true := h
   rw [Bool.and_eq_true] at h'
   show (!s.testBit a || s.testBit b) = false
   rw [hs.1 a h'.1, hs.2 b h'.2]; rfl
  ·intro h
   show (y.testBit a && n.testBit b) = true
   cases e1 : y.testBit a with
   | false =>
    have hh := h y ⟨fun _ z => z, dn⟩
    have h2 : (!y.testBit a || y.testBit b) = false := hh
    rw [e1] at h2; cases h2
   | true =>
    cases e2 : n.testBit b with
    | true => rfl
    | false =>
     have h2 : (!(y ||| zdn [b]).testBit a || (y ||| zdn [b]).testBit b) = false := h _ (zjq d fun k hk => by rw [List.mem_singleton.mp hk]; exact e2)
     rw [zcg y [b] b, decide_eq_true (List.mem_singleton.mpr rfl), Bool.or_true, Bool.or_true] at h2
     cases h2
 | bans a b =>
  constructor
  ·intro h s hs
   have h' : (y.testBit a && y.testBit b) = true := h
   rw [Bool.and_eq_true] at h'
   show (!s.testBit a || !s.testBit b) = false
   rw [hs.1 a h'.1, hs.1 b h'.2]; rfl
  ·intro h
   have h2 : (!y.testBit a || !y.testBit b) = false := h y ⟨fun _ z => z, dn⟩
   show (y.testBit a && y.testBit b) = true
   cases e1 : y.testBit a <;> cases e2 : y.testBit b <;> rw [e1, e2] at h2 <;> simp_all
 | most top ps =>
  constructor
  ·intro h s hs
   have h' : top < zej ps y n := of_decide_eq_true h
   refine decide_eq_false fun z => ?_
   have le : zej ps y n ≤ zh3 ps (fun p => s.testBit p.1) := zp9 fun p _ => by
    cases e1 : y.testBit p.1 with
    | true => rw [hs.1 _ e1]; simp
    | false =>
     cases e2 : n.testBit p.1 with
     | true => rw [hs.2 _ e2]; simp
     | false =>
      by_cases c : p.2 < 0
      ·simp [c]; split <;> omega
      ·simp [c]; split <;> omega
   omega
  ·intro h
   refine decide_eq_true ?_
   let l := (ps.filter fun p => decide (p.2 < 0) && !n.testBit p.1).map (·.1)
   have hl : ∀ k ∈ l, n.testBit k = false := fun k hk => by
    obtain ⟨p, hp, rfl⟩ := List.mem_map.mp hk
    have := (List.mem_filter.mp hp).2
    simp at this
    exact this.2
   have h2 : decide (zh3 ps (fun p => (y ||| zdn l).testBit p.1) ≤ top) = false := h _ (zjq d hl)
   have e : zh3 ps (fun p => (y ||| zdn l).testBit p.1) = zej ps y n := zq2 fun p hp => by
    show (y ||| zdn l).testBit p.1 = (y.testBit p.1 || (decide (p.2 < 0) && !n.testBit p.1))
    rw [zcg]
    congr 1
    by_cases c : (decide (p.2 < 0) && !n.testBit p.1) = true
    ·rw [c]
     exact decide_eq_true (List.mem_map.mpr ⟨p, List.mem_filter.mpr ⟨hp, c⟩, rfl⟩)
    ·rw [Bool.eq_false_iff.mpr c]
     refine decide_eq_false fun z => ?_
     obtain ⟨q, hq, e⟩ := List.mem_map.mp z
     have hq' := List.mem_filter.mp hq
     have : q = p := zr9 (ok.2.2.1.imp fun a => Nat.ne_of_lt a) hq'.1 hp e
     rw [this] at hq'
     exact c hq'.2
   rw [e] at h2
   have := of_decide_eq_false h2
   omega
 | bough u lo hi ks =>
  have c2 : cnt ks y + cnt ks n ≤ ks.length := zi9 fun j _ hj => dn j hj
  have uk : ¬ u ∈ ks := fun z => Nat.lt_irrefl _ (ok.up u z).1
  constructor
  ·intro h s hs
   have h' : (!(!n.testBit u && (decide ((cnt ks y : Int) ≤ hi) && decide (lo ≤ (ks.length : Int) - cnt ks n))) && !(!y.testBit u && decide (cnt ks y = 0))) = true := h
   have g1 : cnt ks y ≤ cnt ks s := znq fun k _ hk => hs.1 k hk
   have g2 : cnt ks s + cnt ks n ≤ ks.length := zi9 fun k _ hk => hs.2 k hk
   show (if s.testBit u = true then decide (lo ≤ (cnt ks s : Int)) && decide ((cnt ks s : Int) ≤ hi) else decide (cnt ks s = 0)) = false
   rw [Bool.and_eq_true] at h'
   by_cases su : s.testBit u = true
   ·rw [if_pos su]
    have nu : n.testBit u = false := by
     cases e : n.testBit u with
     | false => rfl
     | true => rw [hs.2 u e] at su; cases su
    have h1 := h'.1
    rw [nu] at h1
    simp at h1
    by_cases z : (cnt ks y : Int) ≤ hi
    ·rw [decide_eq_false (show ¬ lo ≤ (cnt ks s : Int) by omega), Bool.false_and]
    ·rw [decide_eq_false (show ¬ (cnt ks s : Int) ≤ hi by omega), Bool.and_false]
   ·rw [if_neg su]
    have yu : y.testBit u = false := by
     cases e : y.testBit u with
     | false => rfl
     | true => exact absurd (hs.1 u e) su
    have h2 := h'.2
    rw [yu] at h2
    simp at h2
    exact decide_eq_false (by omega)
  ·intro h
   show (!(!n.testBit u && (decide ((cnt ks y : Int) ≤ hi) && decide (lo ≤ (ks.length : Int) - cnt ks n))) && !(!y.testBit u && decide (cnt ks y = 0))) = true
   rw [Bool.and_eq_true]
   constructor
   ·cases e : (!n.testBit u && (decide ((cnt ks y : Int) ≤ hi) && decide (lo ≤ (ks.length : Int) - cnt ks n))) with
    | false => rfl
    | true =>
     exfalso
     simp only [Bool.and_eq_true, decide_eq_true_eq, Bool.not_eq_true'] at e
     obtain ⟨nu, e1, e2⟩ := e
     have hl0 := ok.lo0
     have hlh := ok.lohi
     obtain ⟨l, hl, ec⟩ := zhn (Tie.BoughOkW.nd ok) (max (cnt ks y) lo.toNat) (Nat.le_max_left _ _) n d (by omega)
     have hk := h (y ||| zdn (u :: l)) (zjq d fun k hk => by
      rcases List.mem_cons.mp hk with rfl | z
      ·exact nu
      ·exact (hl k z).2)
     have hb : (y ||| zdn (u :: l)).testBit u = true := by rw [zcg, decide_eq_true List.mem_cons_self, Bool.or_true]
     have ec2 : cnt ks (y ||| zdn (u :: l)) = max (cnt ks y) lo.toNat := by
      rw [← ec]
      refine zgj fun j hj => ?_
      have : j ≠ u := fun z => uk (z ▸ hj)
      rw [zcg, zcg]
      simp [this]
     simp only [Tie.keep, hb, if_true, ec2] at hk
     rw [decide_eq_true (by omega), decide_eq_true (by omega)] at hk
     cases hk
   ·cases e : (!y.testBit u && decide (cnt ks y = 0)) with
    | false => rfl
    | true =>
     exfalso
     simp only [Bool.and_eq_true, decide_eq_true_eq, Bool.not_eq_true'] at e
     have hk := h y ⟨fun _ z => z, dn⟩
     simp [Tie.keep, e.1, e.2] at hk
end Wd
set_option maxRecDepth 100000
set_option maxHeartbeats 4000000
namespace Wd
open PySem L2
def zlg (p : Nat × Int) : PyData := .tuple [.int (p.1 : Int), .int p.2]
def Tie.toD : Tie → PyData
 | .bough u lo hi ks => .tuple [.int (u : Int), .int lo, .int hi, .tuple (ks.map fun k : Nat => PyData.int (k : Int))]
 | .needs a b => .tuple [.str ("needs" : Str), .int (a : Int), .int (b : Int)]
 | .bans a b => .tuple [.str ("bans" : Str), .int (a : Int), .int (b : Int)]
 | .most top ps => .tuple [.str ("most" : Str), .int top, .tuple (ps.map zlg)]
theorem zgb {m : Nat} : ∀ {ks : List PyData} {last : Int}, -1 ≤ last → last < m → zbh m ks last = true →
  ∃ ns : List Nat, ks = ns.map (fun k : Nat => PyData.int (k : Int)) ∧ ns.Pairwise (· < ·) ∧ (∀ k ∈ ns, last < (k : Int) ∧ k < m) ∧ (ns.length : Int) + last + 1 ≤ m
 | [], last, h0, h1, _ => ⟨[], rfl, List.Pairwise.nil, (fun _ z => nomatch z), by simp; omega⟩
 | .int i :: ks, last, h0, h1, h => by
  have z : (decide (last + 1 ≤ i) && decide (i ≤ (m : Int) - 1) && zbh m ks i) = true := h
  simp only [Bool.and_eq_true, decide_eq_true_eq] at z
  obtain ⟨ns, e, pw, ab, ln⟩ := zgb (by omega) (by omega) z.2
  obtain ⟨j, rfl⟩ : ∃ j : Nat, i = (j : Int) := ⟨i.toNat, by omega⟩
  refine ⟨j :: ns, by rw [e]; rfl, List.Pairwise.cons (fun k hk => ?_) pw, fun k hk => ?_, ?_⟩
  ·have := (ab k hk).1; omega
  ·rcases List.mem_cons.mp hk with rfl | hk
   ·omega
   ·have := ab k hk; omega
  ·rw [List.length_cons]; omega
 | .none :: _, _, _, _, h => by cases h
 | .bool _ :: _, _, _, _, h => by cases h
 | .str _ :: _, _, _, _, h => by cases h
 | .list _ :: _, _, _, _, h => by cases h
 | .tuple _ :: _, _, _, _, h => by cases h
 | .dict _ :: _, _, _, _, h => by cases h
theorem zhj {m : Nat} {d : PyData} (h : zfh m d = true) : ∃ u lo hi ks, d = (Tie.bough u lo hi ks).toD ∧ Tie.BoughOk m u lo hi ks := by
 unfold zfh at h
 split at h
 next u l hd k =>
  simp only [Bool.and_eq_true] at h
  obtain ⟨hu, hk, hr, hh, hl⟩ := h
  obtain ⟨ui, rfl, u0, u1⟩ := zeh hu
  obtain ⟨kd, rfl, k0⟩ := zn6 hk
  obtain ⟨hi, rfl, h0, h1⟩ := zeh (show zc8 hd 1 kd.length = true from hh)
  obtain ⟨lo, rfl, l0, l1⟩ := zeh (show zc8 l 0 hi = true from hl)
  obtain ⟨un, rfl⟩ : ∃ j : Nat, ui = (j : Int) := ⟨ui.toNat, by omega⟩
  obtain ⟨ns, rfl, pw, ab, ln⟩ := zgb (by omega) (by omega) (show zbh m kd un = true from hr)
  rw [List.length_map] at k0 h1
  exact ⟨un, lo, hi, ns, rfl, ⟨⟨by omega, fun z => by rw [z] at k0; simp at k0, fun k hk => by have := ab k hk; omega, pw, by omega, l0, l1⟩, h0, h1⟩⟩
 next => cases h
theorem zkc {m : Nat} : ∀ {ds : List PyData} {ns : List Nat}, ds.all zga = true → ds.map zpu = ns.map (fun k : Nat => PyData.int (k : Int)) → ∃ ps : List (Nat × Int), ds = ps.map zlg ∧ ps.map (·.1) = ns
 | [], [], _, _ => ⟨[], rfl, rfl⟩
 | [], _ :: _, _, e => by cases e
 | _ :: _, [], _, e => by cases e
 | d :: ds, n :: ns, h, e => by
  rw [List.all_cons, Bool.and_eq_true] at h
  rw [List.map_cons, List.map_cons] at e
  injection e with e1 e2
  obtain ⟨ps, rfl, rfl⟩ := zkc (m := m) h.2 e2
  have h1 := h.1
  unfold zga at h1
  split at h1
  next x y =>
   obtain ⟨i, rfl⟩ := zme h1
   refine ⟨(n, i) :: ps, ?_, rfl⟩
   have e3 : x = PyData.int (n : Int) := e1
   rw [e3]
   rfl
  next => cases h1
theorem zm5 {m : Nat} {d : PyData} (h : zil m d = true) : ∃ t : Tie, d = t.toD ∧ t.Ok m ∧ ∀ u lo hi ks, t ≠ .bough u lo hi ks := by
 unfold zil at h
 split at h
 next k x y =>
  unfold zx8 at h
  split at h
  next s =>
   unfold zsh at h
   split at h
   next hs =>
    rw [Bool.and_eq_true] at h
    obtain ⟨top, rfl⟩ := zme h.1
    have h2 := h.2
    unfold znk at h2
    split at h2
    next ds =>
     simp only [Bool.and_eq_true, decide_eq_true_eq] at h2
     obtain ⟨⟨d0, dp⟩, dr⟩ := h2
     obtain ⟨ns, e, pw, ab, ln⟩ := zgb (by omega) (by omega) dr
     obtain ⟨ps, rfl, rfl⟩ := zkc (m := m) dp e
     rw [List.length_map] at d0 ln
     refine ⟨.most top ps, by rw [hs]; rfl, ⟨fun z => by rw [z] at d0; simp at d0, fun p hp => (ab p.1 (List.mem_map.mpr ⟨p, hp, rfl⟩)).2, pw, by omega⟩, by intro _ _ _ _ z; cases z⟩
    next => cases h2
   next hs =>
    split at h
    next hn =>
     simp only [Bool.and_eq_true] at h
     obtain ⟨ha, hb, hne⟩ := h
     obtain ⟨a, rfl, a0, a1⟩ := zeh ha
     obtain ⟨b, rfl, b0, b1⟩ := zeh hb
     have ne : ¬ a = b := by
      have z : (!decide (a = b)) = true := hne
      simpa using z
     obtain ⟨an, rfl⟩ : ∃ j : Nat, a = (j : Int) := ⟨a.toNat, by omega⟩
     obtain ⟨bn, rfl⟩ : ∃ j : Nat, b = (j : Int) := ⟨b.toNat, by omega⟩
     rcases hn with rfl | rfl
     ·exact ⟨.needs an bn, rfl, ⟨by omega, by omega, by omega⟩, by intro _ _ _ _ z; cases z⟩
     ·exact ⟨.bans an bn, rfl, ⟨by omega, by omega, by omega⟩, by intro _ _ _ _ z; cases z⟩
    next => cases h
  next => cases h
 next => cases h
theorem zx7 (ks : List Nat) : (ks.map fun k : Nat => PyData.int (k : Int)) = (ks.map fun k : Nat => (k : Int)).map PyData.int := by rw [List.map_map]; rfl
theorem zlu (ks : List Nat) : (ks.map fun k : Nat => (k : Int)).map V.int = ks.map fun k : Nat => V.int (k : Int) := by rw [List.map_map]; rfl
theorem zjn {H : Hp} {u : Nat} {lo hi : Int} {ks : List Nat} {v : V} (h : Dn H (Tie.bough u lo hi ks).toD v) : ∃ p pk, v = .ref p ∧ H p = some (.tup [.int (u : Int), .int lo, .int hi, .ref pk]) ∧ H pk = some (.tup (ks.map fun k : Nat => V.int (k : Int))) := by
 obtain ⟨p, xs, rfl, hp, xu, r1, rfl, hu, xl, r2, rfl, hlo, xh, r3, rfl, hh, xk, r4, rfl, hk, hnil⟩ := zgz h
 cases (show r4 = [] from hnil)
 cases zex hu
 cases zex hlo
 cases zex hh
 obtain ⟨pk, ys, rfl, hpk, hks⟩ := zgz hk
 rw [zx7] at hks
 rw [zox hks, zlu] at hpk
 exact ⟨p, pk, rfl, hp, hpk⟩
theorem zja {H : Hp} {w : Str} {a b : Int} {v : V} (h : Dn H (.tuple [.str w, .int a, .int b]) v) : ∃ p, v = .ref p ∧ H p = some (.tup [.str w, .int a, .int b]) := by
 obtain ⟨p, xs, rfl, hp, xu, r1, rfl, hu, xl, r2, rfl, hlo, xh, r3, rfl, hh, hnil⟩ := zgz h
 cases (show r3 = [] from hnil)
 cases (show xu = .str w from hu)
 cases zex hlo
 cases zex hh
 exact ⟨p, rfl, hp⟩
theorem zql {H : Hp} {top : Int} {ps : List (Nat × Int)} {v : V} (h : Dn H (Tie.most top ps).toD v) : ∃ p q xs, v = .ref p ∧ H p = some (.tup [.str ("most" : Str), .int top, .ref q]) ∧ H q = some (.tup xs) ∧ DnL H (ps.map zlg) xs := by
 obtain ⟨p, xs, rfl, hp, xu, r1, rfl, hu, xl, r2, rfl, hlo, xh, r3, rfl, hh, hnil⟩ := zgz h
 cases (show r3 = [] from hnil)
 cases (show xu = .str ("most" : Str) from hu)
 cases zex hlo
 obtain ⟨q, ys, rfl, hq, hks⟩ := zgz hh
 exact ⟨p, q, ys, rfl, hp, hq, hks⟩
theorem zqw {H : Hp} {ps : List (Nat × Int)} {xs : List V} (h : DnL H (ps.map zlg) xs) {i : Nat} {x : V} (hx : xs[i]? = some x) : ∃ p r, ps[i]? = some p ∧ x = .ref r ∧ H r = some (.tup [.int (p.1 : Int), .int p.2]) := by
 obtain ⟨d, hd, hx'⟩ := h.get hx
 rw [List.getElem?_map] at hd
 obtain ⟨p, hp, rfl⟩ := Option.map_eq_some_iff.mp hd
 obtain ⟨r, ys, rfl, hr, xa, r1, rfl, ha, xb, r2, rfl, hb, hnil⟩ := zgz (show Dn H (.tuple [.int (p.1 : Int), .int p.2]) x from hx')
 cases (show r2 = [] from hnil)
 cases zex ha
 cases zex hb
 exact ⟨p, r, hp, rfl, hr⟩
def zn7 (n k : Int) : Bool := decide (0 ≤ k) && decide (n / 2 ^ k.toNat % 2 = 1)
theorem zcl (s u : Nat) : zn7 (s : Int) (u : Int) = s.testBit u := by
 unfold zn7
 rw [decide_eq_true (by omega), Bool.true_and, Nat.testBit_eq_decide_div_mod_eq, Int.toNat_natCast]
 have e : ((s : Int) / 2 ^ u % 2 = 1) ↔ (s / 2 ^ u % 2 = 1) := by
  have e3 : (2 : Int) ^ u = ((2 ^ u : Nat) : Int) := by rw [Int.natCast_pow]; rfl
  rw [e3]
  omega
 by_cases z : s / 2 ^ u % 2 = 1
 ·rw [decide_eq_true z, decide_eq_true (e.mpr z)]
 ·rw [decide_eq_false z, decide_eq_false (fun y => z (e.mp y))]
theorem zx0 (n : Int) (k : Nat) : Builtin.bitAnd (n / 2 ^ k) 1 = n / 2 ^ k % 2 := PySem.W.kbt_mask (n / 2 ^ k) 1
theorem zjb (s k : Nat) : Builtin.bitAnd ((s : Int) / 2 ^ ((k : Nat) : Int).toNat) 1 = if s.testBit k = true then 1 else 0 := by
 rw [zx0, Int.toNat_natCast, Nat.testBit_eq_decide_div_mod_eq]
 have e3 : (2 : Int) ^ k = ((2 ^ k : Nat) : Int) := by rw [Int.natCast_pow]; rfl
 rw [e3]
 by_cases z : s / 2 ^ k % 2 = 1
 ·rw [decide_eq_true z, if_pos rfl]
  omega
 ·rw [decide_eq_false z, if_neg (by decide)]
  omega
theorem ze9 (s k : Nat) : decide (V.int (Builtin.bitAnd ((s : Int) / 2 ^ ((k : Nat) : Int).toNat) 1) = V.int 1) = s.testBit k := by
 rw [zjb]
 cases s.testBit k <;> rfl
theorem zte (s k : Nat) : decide (V.int (Builtin.bitAnd ((s : Int) / 2 ^ ((k : Nat) : Int).toNat) 1) = V.int 0) = !s.testBit k := by
 rw [zjb]
 cases s.testBit k <;> rfl
end Wd
set_option maxRecDepth 100000
set_option maxHeartbeats 4000000
namespace L2
open PySem PySem.Spec PyProof.Rows
theorem zug {X : Cx} {st : List Stmt} {t : TS} (h : PSs X st t) : ∃ t', PSs X st t' ∧ ∀ D σ H, t D σ H → t' D σ H := ⟨t, h, fun _ _ _ x => x⟩
section
variable {X : Cx} {o e : Expr} {es : List Expr} {to : TE} {t : TA} {name : Str} {apos cpos : Pos} {T id : String} {r : V → List V → Hp → VK → Prop}
theorem zdx {K : PySem.W.Frag} (pa : PlainAttrs T) (slot : Slot T name id) (hty : typeOf (.builtin id) = pure (.type "method_descriptor")) (hm : MtR X id r) (ho : PE X o to) (ha : PA X (e :: es) t) (hK : X.K = K := by rfl)
  (hbase : attributeBase o name X.env (eval o X.env) = eval o X.env := by rfl)
  (hfew : ((backTo cpos (starEach (e :: es) X.env)).all (fun x => !x.1) && (backToKw cpos (keywordEach [] X.env)).all (fun x => x.1.isSome) && decide ((e :: es).length + ([] : List Keyword).length + (if ([] : List Keyword).isEmpty then 0 else 1) < 30)) = true := by rfl)
  (hline : (apos.endLine == cpos.line) = true := by rfl) (hs : starEach (e :: es) X.env = (false, eval e X.env) :: starEach es X.env := by rfl) (hplain : (backTo cpos (starEach es X.env)).any (·.1) = false := by rfl) :
  PE X (.Call (.Attribute o name apos) (e :: es) [] cpos) (tBM K T r to t) := hK ▸ zx5 pa slot hty hm ho ha hbase hfew hline hs hplain
end
end L2
set_option maxRecDepth 100000
set_option maxHeartbeats 4000000
namespace L2
open PySem PySem.Spec PyProof.Rows
theorem Room.lv {A : Around} {j k : Nat} (hr : Room k A) (h : j ≤ k := by first | decide | omega) : Room j A := hr.mono h
structure Df (K : PySem.W.Frag) (mg : Str → Option Value) (x : Str) (st : Stmt) (f : Addr) (fd : FuncData) (ps : List Str) : Prop extends Fun K x x st f fd where
 g : mg x = some (.ref f)
 B : Binds K fd ps []
structure Dm (K : PySem.W.Frag) (x q : Str) (st : Stmt) (f : Addr) (fd : FuncData) (ps : List Str) : Prop extends Fun K x q st f fd where
 B : Binds K fd ps []
theorem zag {X : Cx} {k : Nat} {f : Addr} {fd : FuncData} {ps : List Str} {sp : Sp} {x : Str} {p pos : Pos} {e : Expr} {es : List Expr} {t : TA} {st : Stmt} (F : FnOk X.prog X.w X.K X.mg X.base CX0 k f fd ps sp) (hr : Room k X.A) (hg : Gl X x) (D : Df X.K X.mg x st f fd ps)
  (ha : PA X (e :: es) t) (hdb : (x == ("__debug__" : Str)) = false := by decide) (he : starEach (e :: es) X.env = (false, eval e X.env) :: starEach es X.env := by rfl) (hpl : (backTo pos (starEach es X.env)).any (·.1) = false := by rfl) :
  PE X (.Call (.Name x p) (e :: es) [] pos) (zv3 sp [] E0 t) := zqm F hr hg D.g D.kp D.B .nil zhg ha hdb he hpl
theorem scm {N P : List Str} {sc : Scope} (a : sc.kind = .function) (b : sc.isCoroutine = false) (c : sc.isGenerator = false) (e : N.take P.length = P) (h : (decide N.Nodup && (decide (∀ x ∈ P, sc.names.lookup x = some .local ∨ sc.names.lookup x = some .cell) && decide (∀ y ∈ sc.names, y.2 ≠ .free))) = true) : zav N P sc := by
 rw [Bool.and_eq_true, Bool.and_eq_true] at h
 exact ⟨a, b, c, of_decide_eq_true h.1, e, of_decide_eq_true h.2.1, of_decide_eq_true h.2.2⟩
def Dk (K : PySem.W.Frag) (x : Str) (st : Stmt) (f : Addr) (fd : FuncData) : Prop := PySem.W.nsIn K mainGlobals x = some (some (.ref f)) ∧ Fun K x x st f fd
def Dq (K : PySem.W.Frag) (C : Addr) (x q : Str) (st : Stmt) (f : Addr) (fd : FuncData) : Prop := PySem.W.findIn K (.ref C) x = some (some (.ref f)) ∧ PySem.W.isFn K (.ref f) = true ∧ Fun K x q st f fd
section
variable {K : PySem.W.Frag} {x q : Str} {st : Stmt} {f C : Addr} {oc : Value} {od an : Option Addr} {osl : Array (Option Value)} {kV doc pm cdv ct : Value}
theorem dk (a : PySem.W.nsIn K mainGlobals x = some (some (.ref f))) (l : K.lookup f = some ⟨oc, od, .func (PySem.W.fnOf x x (zd5 st) (zba st) (zai st) .none kV doc pm an cdv ct), osl⟩) (c : PySem.W.codeIn K cdv x = true) (k : PySem.W.keepIn K (.ref f) = true) :
  Dk K x st f (PySem.W.fnOf x x (zd5 st) (zba st) (zai st) .none kV doc pm an cdv ct) := ⟨a, ztj l c k⟩
theorem dq (a : PySem.W.findIn K (.ref C) x = some (some (.ref f))) (l : K.lookup f = some ⟨oc, od, .func (PySem.W.fnOf x q (zd5 st) (zba st) (zai st) .none kV doc pm an cdv ct), osl⟩) (c : PySem.W.codeIn K cdv q = true) (k : PySem.W.keepIn K (.ref f) = true) (i : PySem.W.isFn K (.ref f) = true) :
  Dq K C x q st f (PySem.W.fnOf x q (zd5 st) (zba st) (zai st) .none kV doc pm an cdv ct) := ⟨a, i, ztj l c k⟩
abbrev Bd (x q : Str) (st : Stmt) (us : List Value) (ps : List Str) : Prop := ∀ (kV doc pm : Value) (an : Option Addr) (cdv ct : Value), bindArgs (PySem.W.fnOf x q (zd5 st) (zba st) (zai st) .none kV doc pm an cdv ct) ⟨us, []⟩ = pure (ps.zip us)
theorem Dk.df {h : Heap} {mg : Str → Option Value} {fd : FuncData} {ps : List Str} (X : K.In h) (G : h.Ns mainGlobals mg) (D : Dk K x st f fd) (b : ∀ us, us.length = ps.length → Bd x x st us ps) : Df K mg x st f fd ps :=
 ⟨D.2, PySem.W.mg_of X G D.1, D.2.binds fun kV doc pm an cdv ct us hl => b us hl kV doc pm an cdv ct⟩
theorem Dq.dm {fd : FuncData} {ps : List Str} (D : Dq K C x q st f fd) (b : ∀ us, us.length = ps.length → Bd x q st us ps) : Dm K x q st f fd ps := ⟨D.2.2, D.2.2.binds fun kV doc pm an cdv ct us hl => b us hl kV doc pm an cdv ct⟩
theorem bd1 {p : List Str} (h : ∀ a, Bd x q st [a] p) : ∀ us : List Value, us.length = 1 → Bd x q st us p | [a], _ => h a
theorem bd2 {p : List Str} (h : ∀ a b, Bd x q st [a, b] p) : ∀ us : List Value, us.length = 2 → Bd x q st us p | [a, b], _ => h a b
theorem bd3 {p : List Str} (h : ∀ a b c, Bd x q st [a, b, c] p) : ∀ us : List Value, us.length = 3 → Bd x q st us p | [a, b, c], _ => h a b c
theorem bd4 {p : List Str} (h : ∀ a b c d, Bd x q st [a, b, c, d] p) : ∀ us : List Value, us.length = 4 → Bd x q st us p | [a, b, c, d], _ => h a b c d
theorem bd5 {p : List Str} (h : ∀ a b c d e, Bd x q st [a, b, c, d, e] p) : ∀ us : List Value, us.length = 5 → Bd x q st us p | [a, b, c, d, e], _ => h a b c d e
theorem zyi {fd : FuncData} {y : Str} (F : Fun K x q st f fd) (h : ∀ v, Bd x q st [v] [y]) (s : Shared) (v : Value) : BindsTo s fd ⟨[v], []⟩ [(y, v)] := by
 obtain ⟨oc, od, kV, doc, pm, an, cdv, ct, osl, rfl, lk, hcd⟩ := F.ex
 exact .of_eq (h v kV doc pm an cdv ct)
end
end L2
set_option maxRecDepth 100000
set_option maxHeartbeats 4000000
namespace L2
open PySem PySem.Spec PyProof.Rows
section
variable {X : Cx}
theorem pgT {K : PySem.W.Frag} {pos : Pos} {es : List Expr} {k : Nat} {t : TGs} {n : Nat} (hc : X.calm = true) (h : PGs X es t) (hn : (assignEach es X.env).length = n := by rfl) (hst : (assignEach es X.env).findIdx? (·.1) = none := by rfl) (hK : X.K = K := by rfl) : PG X (.Tuple es k pos) (zx2 K n t) := hK ▸ zxf hc h hn hst
theorem zrj : zes X (.type "range") (fun xs H Q => ∃ j : Int, xs = [.int j] ∧ ∀ p, H p = none → Q (.ref p) (upd H p (.rng 0 j))) := by
 intro pins s σ H xs us Q I r h
 obtain ⟨j, rfl, q⟩ := h
 obtain ⟨u, rfl, ⟨t, rfl⟩⟩ := zgr r
 refine call_range_1 ⟨.ref s.heap.objs.size, _, I.laid (fun b o e => Heap.get?_push_of_some _ e) (Nat.le_refl _) (show ObjOk X.prog X.w _ _ _ (.rng 0 j) from ⟨_, _, _, Heap.get?_push_size _ rfl⟩), rfl, q _ (I.hok.fresh (Nat.le_refl _))⟩
end
end L2
namespace Wd
open PySem L2
def zvu : Sp := fun vs H Q _ => ∃ (t : Tie) (m n : Nat) (v : V), vs = [v, .int n] ∧ Dn H t.toD v ∧ t.Ok m ∧ m ≤ 1000 ∧ ∀ H', Same H H' → Q (.bl (t.keep n)) H'
def zqa (K : PySem.W.Frag) : Sp := fun vs H Q _ => ∃ (p : Addr) (ns : List Int), vs = [.ref p] ∧ SqL K H p (ns.map V.int) ∧ ns.length ≤ 63 ∧ ∀ H', Q (.bl true) H'
theorem zhh (k : Nat) : decide (V.int (k : Int) = V.int 0) = decide (k = 0) := by
 rw [zi8]
 by_cases z : k = 0
 ·rw [z]; rfl
 ·rw [decide_eq_false z]
  simpa using z
def zw0 (f : Tie → Nat → Nat → Bool) : Sp := fun vs H Q _ => ∃ (t : Tie) (m y n : Nat) (v : V), vs = [v, .int y, .int n] ∧ Dn H t.toD v ∧ t.Ok m ∧ m ≤ 1000 ∧ ∀ H', Same H H' → Q (.bl (f t y n)) H'
def zvz (f : Tie → Nat → Nat → Bool) : Sp := fun vs H Q _ => ∃ (u : Nat) (lo hi : Int) (ks : List Nat) (m y n : Nat) (v : V), vs = [v, .int y, .int n] ∧ Dn H (Tie.bough u lo hi ks).toD v ∧ Tie.BoughOkW m u lo hi ks ∧ m ≤ 1000 ∧ ∀ H', Same H H' → Q (.bl (f (Tie.bough u lo hi ks) y n)) H'
def zwc (f : List (Nat × Int) → Nat → Nat → Int) : Sp := fun vs H Q _ => ∃ (q : Addr) (xs : List V) (ps : List (Nat × Int)) (y n : Nat), vs = [.ref q, .int y, .int n] ∧ H q = some (.tup xs) ∧ DnL H (ps.map zlg) xs ∧ ps.length ≤ 1000 ∧ ∀ H', Same H H' → Q (.int (f ps y n)) H'
theorem zle {P : Tie → Prop} : ∀ {l : List PyData}, (∀ d ∈ l, ∃ t : Tie, d = t.toD ∧ P t) → ∃ ts : List Tie, l = ts.map Tie.toD ∧ ∀ t ∈ ts, P t
 | [], _ => ⟨[], rfl, (fun _ z => nomatch z)⟩
 | d :: r, h => by
  obtain ⟨t, e, p⟩ := h d List.mem_cons_self
  obtain ⟨ts, e2, p2⟩ := zle fun x hx => h x (List.mem_cons_of_mem _ hx)
  refine ⟨t :: ts, by rw [e, e2]; rfl, fun x hx => ?_⟩
  rcases List.mem_cons.mp hx with rfl | z
  ·exact p
  ·exact p2 x z
theorem zrg {m : Nat} {d : PyData} (h : zfh m d = true) : ∃ t : Tie, d = t.toD ∧ t.Ok m := by
 obtain ⟨u, lo, hi, ks, e, ok⟩ := zhj h
 exact ⟨.bough u lo hi ks, e, ok.toBoughOkW⟩
theorem zr5 {m : Nat} {d : PyData} (h : zil m d = true) : ∃ t : Tie, d = t.toD ∧ t.Ok m := by
 obtain ⟨t, e, ok, _⟩ := zm5 h
 exact ⟨t, e, ok⟩
theorem zwm {H : Hp} {ts : List Tie} {xs : List V} (h : DnL H (ts.map Tie.toD) xs) {i : Nat} {x : V} (hx : xs[i]? = some x) : ∃ t, ts[i]? = some t ∧ Dn H t.toD x := by
 obtain ⟨d, hd, q⟩ := h.get hx
 rw [List.getElem?_map] at hd
 obtain ⟨t, ht, rfl⟩ := Option.map_eq_some_iff.mp hd
 exact ⟨t, ht, q⟩
theorem zfa {c A B : Prop} [Decidable c] (hc : c) (h : A) : if decide c = true then A else B := by
 rw [decide_eq_true hc]
 exact zl9 h
theorem zb1 {c A B : Prop} [Decidable c] (hc : ¬ c) (h : B) : if decide c = true then A else B := by
 rw [decide_eq_false hc]
 exact zek h
theorem ziq {c A B : Prop} [Decidable c] (hc : ¬ c) (h : A) : if (!decide c) = true then A else B := by
 rw [decide_eq_false hc]
 exact zl9 h
theorem zi2 {b : Bool} {A B : Prop} (hc : b = true) (h : A) : if b = true then A else B := by
 rw [if_pos hc]; exact h
theorem zhf {b : Bool} {A B : Prop} (hc : b = false) (h : B) : if b = true then A else B := by
 rw [hc]; exact zek h
theorem zss {x y : Str} (h : ¬ x = y) : ¬ V.str x = V.str y := fun z => by injection z with z; exact h z
theorem zkn : ¬ V.str ("bans" : Str) = V.str ("needs" : Str) := zss (by decide +kernel)
theorem zj3 : ¬ V.str ("most" : Str) = V.str ("needs" : Str) := zss (by decide +kernel)
theorem zl1 : ¬ V.str ("most" : Str) = V.str ("bans" : Str) := zss (by decide +kernel)
theorem int_str {i : Int} {x : Str} : ¬ V.int i = V.str x := fun z => by cases z
end Wd
set_option maxRecDepth 100000
set_option maxHeartbeats 4000000
namespace Wd
open PySem L2 Ow
structure WoodT (H : Hp) (wd : Addr) (m : Nat) (ts : List Tie) : Prop where
 ex : ∃ xs ys, WoodAt H wd m xs ys ∧ DnL H (ts.map Tie.toD) (xs ++ ys)
 ok : ∀ t ∈ ts, t.Ok m
 few : ts.length ≤ 900
 m9 : m ≤ 900
theorem WoodAt.same {H H' : Hp} {wd : Addr} {m : Int} {xs ys : List V} (s : Same H H') (h : WoodAt H wd m xs ys) : WoodAt H' wd m xs ys := by
 obtain ⟨tb, tc, h1, h2, h3⟩ := h.ex
 exact ⟨tb, tc, s _ _ h1, s _ _ h2, s _ _ h3⟩
theorem WoodT.same {H H' : Hp} {wd : Addr} {m : Nat} {ts : List Tie} (s : Same H H') (h : WoodT H wd m ts) : WoodT H' wd m ts := by
 obtain ⟨xs, ys, h1, h2⟩ := h.ex
 exact ⟨⟨xs, ys, WoodAt.same s h1, DnL.same s _ _ h2⟩, h.ok, h.few, h.m9⟩
def zgn : Option Nat → V
 | none => .non
 | some i => .int (i : Int)
def zbg (ts : List Tie) (n : Nat) : Bool := n.testBit 0 && ts.all fun t => t.keep n
theorem zub (o : Option Nat) : decide (zgn o = V.non) = decide (o = none) := by
 cases o <;> rfl
def zvi : Sp := fun vs H Q _ => ∃ (wd : Addr) (m : Nat) (ts : List Tie), vs = [.ref wd] ∧ WoodT H wd m ts ∧ ∀ (l : Addr) (H' : Hp), Same H H' → H l = none → H' l = some (.lst ((List.range ts.length).map fun i : Nat => V.int (i : Int))) → Q (.ref l) H'
end Wd
namespace Wd
theorem zok : ∀ (k a b : Nat), (∀ j, a.testBit j = true → b.testBit j = false) → (a + b).testBit k = (a.testBit k || b.testBit k)
 | k, a, b, h => by
  have h0 := h 0
  rw [Nat.testBit_zero, Nat.testBit_zero] at h0
  have p : a % 2 + b % 2 ≤ 1 := by
   by_cases z : a % 2 = 1
   ·have := h0 (decide_eq_true z)
    have := of_decide_eq_false this
    omega
   ·omega
  cases k with
  | zero =>
   rw [Nat.testBit_zero, Nat.testBit_zero, Nat.testBit_zero]
   by_cases z : a % 2 = 1
   ·rw [decide_eq_true z, decide_eq_true (by omega), Bool.true_or]
   ·rw [decide_eq_false z, Bool.false_or]
    by_cases y : b % 2 = 1
    ·rw [decide_eq_true y, decide_eq_true (by omega)]
    ·rw [decide_eq_false y, decide_eq_false (by omega)]
  | succ k =>
   rw [Nat.testBit_add_one, Nat.testBit_add_one, Nat.testBit_add_one]
   have e : (a + b) / 2 = a / 2 + b / 2 := by omega
   rw [e]
   refine zok k (a / 2) (b / 2) fun j hj => ?_
   have := h (j + 1)
   rw [Nat.testBit_add_one, Nat.testBit_add_one] at this
   exact this hj
theorem zxm {a b : Nat} (h : ∀ j, a.testBit j = true → b.testBit j = false) : a + b = a ||| b :=
 Nat.eq_of_testBit_eq fun k => by rw [zok k a b h, Nat.testBit_or]
theorem zou : ∀ (k y a : Nat), (∀ j, a.testBit j = true → y.testBit j = true) → (y - a).testBit k = (y.testBit k && !a.testBit k)
 | k, y, a, h => by
  have le : a ≤ y := by
   have e : a = a &&& y := Nat.eq_of_testBit_eq fun j => by
    rw [Nat.testBit_and]
    cases e : a.testBit j with
    | false => rfl
    | true => rw [h j e]; rfl
   rw [e]
   exact Nat.and_le_right
  have h0 := h 0
  rw [Nat.testBit_zero, Nat.testBit_zero] at h0
  have p : a % 2 ≤ y % 2 := by
   by_cases z : a % 2 = 1
   ·have := of_decide_eq_true (h0 (decide_eq_true z))
    omega
   ·omega
  cases k with
  | zero =>
   rw [Nat.testBit_zero, Nat.testBit_zero, Nat.testBit_zero]
   by_cases z : a % 2 = 1
   ·rw [decide_eq_true z, decide_eq_false (by omega)]; simp
   ·rw [decide_eq_false z]
    by_cases x : y % 2 = 1
    ·rw [decide_eq_true x, decide_eq_true (by omega)]; rfl
    ·rw [decide_eq_false x, decide_eq_false (by omega)]; rfl
  | succ k =>
   rw [Nat.testBit_add_one, Nat.testBit_add_one, Nat.testBit_add_one]
   have e : (y - a) / 2 = y / 2 - a / 2 := by omega
   rw [e]
   refine zou k (y / 2) (a / 2) fun j hj => ?_
   have := h (j + 1)
   rw [Nat.testBit_add_one, Nat.testBit_add_one] at this
   exact this hj
theorem zq6 (a b : Nat) : a ||| b = a + (b - (a &&& b)) := by
 have hb : ∀ j, (b - (a &&& b)).testBit j = (b.testBit j && !(a &&& b).testBit j) := fun j => zou j b (a &&& b) fun i hi => by
  rw [Nat.testBit_and, Bool.and_eq_true] at hi
  exact hi.2
 rw [zxm fun j hj => by rw [hb, Nat.testBit_and, hj]; cases b.testBit j <;> rfl]
 refine Nat.eq_of_testBit_eq fun j => ?_
 rw [Nat.testBit_or, Nat.testBit_or, hb, Nat.testBit_and]
 cases a.testBit j <;> cases b.testBit j <;> rfl
theorem zp6 {s n k : Nat} (h : s < 2 ^ n) (hk : s.testBit k = true) : k < n := by
 by_cases z : k < n
 ·exact z
 ·have := Nat.testBit_lt_two_pow (Nat.lt_of_lt_of_le h (Nat.pow_le_pow_right (by decide) (Nat.le_of_not_lt z)))
  rw [this] at hk
  cases hk
theorem zhb (p : Nat → Bool) (i : Nat) : (List.range (i + 1)).filter p = (List.range i).filter p ++ (if p i = true then [i] else []) := by
 rw [List.range_succ, List.filter_append]
 congr 1
 by_cases h : p i = true <;> simp [h]
theorem zca (y k j : Nat) : (y ||| 2 ^ k).testBit j = (y.testBit j || decide (k = j)) := by rw [Nat.testBit_or, Nat.testBit_two_pow]
theorem inS_split {y n k s : Nat} : InS y n s ↔ InS (y ||| 2 ^ k) n s ∨ InS y (n ||| 2 ^ k) s := by
 constructor
 ·rintro ⟨h1, h2⟩
  cases e : s.testBit k with
  | true =>
   refine .inl ⟨fun j hj => ?_, h2⟩
   rw [zca, Bool.or_eq_true, decide_eq_true_eq] at hj
   rcases hj with z | rfl
   ·exact h1 j z
   ·exact e
  | false =>
   refine .inr ⟨h1, fun j hj => ?_⟩
   rw [zca, Bool.or_eq_true, decide_eq_true_eq] at hj
   rcases hj with z | rfl
   ·exact h2 j z
   ·exact e
 ·rintro (⟨h1, h2⟩ | ⟨h1, h2⟩)
  ·exact ⟨fun j hj => h1 j (by rw [zca, hj, Bool.true_or]), h2⟩
  ·exact ⟨h1, fun j hj => h2 j (by rw [zca, hj, Bool.true_or])⟩
theorem zt9 {y n k : Nat} (d : ∀ j, y.testBit j = true → n.testBit j = false) (hn : n.testBit k = false) : ∀ j, (y ||| 2 ^ k).testBit j = true → n.testBit j = false := fun j hj => by
 rw [zca, Bool.or_eq_true, decide_eq_true_eq] at hj
 rcases hj with z | rfl
 ·exact d j z
 ·exact hn
theorem ztt {y n k : Nat} (d : ∀ j, y.testBit j = true → n.testBit j = false) (hy : y.testBit k = false) : ∀ j, y.testBit j = true → (n ||| 2 ^ k).testBit j = false := fun j hj => by
 rw [zca, d j hj, Bool.false_or]
 exact decide_eq_false fun z => by rw [← z, hy] at hj; cases hj
theorem zka {y n : Nat} (d : ∀ j, y.testBit j = true → n.testBit j = false) : InS y n y := ⟨fun _ z => z, fun k hk => by
 cases e : y.testBit k with
 | false => rfl
 | true => rw [d k e] at hk; cases hk⟩
theorem znn {m y n s : Nat} (full : ∀ k, k < m → (y ||| n).testBit k = true) (hs : InS y n s) (d : ∀ j, y.testBit j = true → n.testBit j = false) : ∀ k, k < m → s.testBit k = y.testBit k := fun k hk => by
 have h := full k hk
 rw [Nat.testBit_or, Bool.or_eq_true] at h
 rcases h with z | z
 ·rw [z, hs.1 k z]
 ·rw [hs.2 k z, (zka d).2 k z]
theorem zu0 {m : Nat} {t : Tie} (ok : t.Ok m) {y n : Nat} (d : ∀ j, y.testBit j = true → n.testBit j = false) (full : ∀ k, k < m → (y ||| n).testBit k = true) : t.sb y n = !t.keep y := by
 rw [Bool.eq_iff_iff, zp4 ok d, Bool.not_eq_true']
 constructor
 ·intro h
  exact h y (zka d)
 ·intro h s hs
  rw [zjk ok (znn full hs d)]
  exact h
end Wd
set_option maxRecDepth 100000
set_option maxHeartbeats 4000000
namespace L2
open PySem
theorem zdb {X : Cx} (hu : X.A.units + 64 < cLine) : OpR X (compareOp .Eq) (fun x y H Q => ∃ (a b : Addr) (ns ms : List Int), x = .ref a ∧ y = .ref b ∧ SqL X.K H a (ns.map V.int) ∧ SqL X.K H b (ms.map V.int) ∧ Q (.bl (decide (ns = ms))) H) := by
 intro pins s σ H x y v u Q I rx ry h
 obtain ⟨a, b, ns, ms, rfl, rfl, ha, hb, q⟩ := h
 cases rx
 cases ry
 obtain ⟨xs, rv, p, _⟩ := I.list ha
 obtain ⟨ys, rv', p', _⟩ := I.list hb
 exact PySem.W.ke_eq_ints p.isList p'.isList (zgs rv) (zgs rv') hu ⟨.bl _, H, I, rfl, q⟩
theorem zeb {k : Nat} {σ0 : St} {H : Hp} {g : TG} {tc : TT} {te : TE} {Q : VK} (Pv : Nat → List V → St → Hp → Prop) (h0 : Pv 0 [] σ0 H) (hz : ∀ i ys σ H, i ≤ k → Pv i ys σ H → ys.length ≤ sizeLine)
  (hs : ∀ i ys σ H, i < k → Pv i ys σ H → g (.int (i : Int)) σ H fun σ3 H3 => tc σ3 H3 fun b H4 => if b = true then te σ3 H4 fun v H5 => Pv (i + 1) (ys ++ [v]) σ3 H5 else Pv (i + 1) ys σ3 H4)
  (hd : ∀ ys σ H, Pv k ys σ H → ∀ p, H p = none → Q (.ref p) (upd H p (.lst ys))) :
  zma (Itr 0 k) g tc te σ0 H Q :=
 zt5 (lo := 0) Pv h0 hz (fun i ys σ H hi p => by rw [Int.zero_add]; exact hs i ys σ H hi p) hd
theorem zb5 {n : Nat} {g : TG} {tb : TS} {D : zh7} {σ : St} {H : Hp} (Pv : Nat → St → Hp → Prop) (h0 : Pv 0 σ H)
  (hs : ∀ i σ H, i < n → Pv i σ H → g (.int (i : Int)) σ H fun σ2 H2 => tb { D with nx := Pv (i + 1), ct := Pv (i + 1), bk := D.nx } σ2 H2) (hd : ∀ σ H, Pv n σ H → D.nx σ H) :
  ∃ W : Nat → Nat → St → Hp → Prop, (∃ m, W 0 m σ H) ∧ ∀ i m σ H, W i m σ H →
   ((Itr 0 n).stop i H ∧ D.nx σ H) ∨ ((Itr 0 n).go i H ∧ ∃ N : St → Hp → Prop, (∀ σ' H', N σ' H' → ∃ m', m' < m ∧ W (i + 1) m' σ' H') ∧ ∀ x H', (Itr 0 n).yld i H x H' → g x σ H' fun σ2 H2 => tb { D with nx := N, ct := N, bk := D.nx } σ2 H2) :=
 zhz (lo := 0) Pv h0 (fun i σ H hi p => by rw [Int.zero_add]; exact hs i σ H hi p) hd
end L2
namespace Wd
open PySem L2 Ow
theorem zdv (a b : Nat) : Builtin.bitAnd (a : Int) (b : Int) = ((a &&& b : Nat) : Int) := by
 rw [PyProof.Rows.bitAnd_pp (by omega) (by omega), Int.toNat_natCast, Int.toNat_natCast]
theorem zhp (a b : Nat) : Builtin.bitOr (a : Int) (b : Int) = ((a ||| b : Nat) : Int) := by
 have le : a &&& b ≤ b := Nat.and_le_right
 rw [PyProof.Rows.bitOr_and, PyProof.Rows.bitAnd_pp (by omega) (by omega), Int.toNat_natCast, Int.toNat_natCast, zq6]
 omega
theorem zhx (k : Nat) : 1 * (2 : Int) ^ ((k : Nat) : Int).toNat = ((2 ^ k : Nat) : Int) := by
 rw [Int.one_mul, Int.toNat_natCast, Int.natCast_pow]
 rfl
theorem zsz (k : Nat) : 0 < 2 ^ k := Nat.pow_pos (by decide)
def zqn (l : List Stmt) (i : Nat) : List Stmt :=
 match l[i]? with
 | some (Stmt.For _ _ b _ _) => b
 | _ => []
end Wd
set_option maxRecDepth 100000
set_option maxHeartbeats 4000000
namespace L2
open PySem PySem.Spec PyProof.Rows
section
variable {X : Cx} {tg : Expr}
end
end L2
namespace Wd
open PySem L2
end Wd
set_option maxRecDepth 100000
set_option maxHeartbeats 4000000
namespace Wd
open PySem L2 Ow
def KpX (pen : Addr) (H H' : Hp) (b : Addr) : HO → Prop
 | .tbl _ => (∃ ps, H' b = some (.tbl ps)) ∧ (zcw H b → (∃ ys, H pen = some (.lst ys)) → zcw H' b ∧ ∃ ys, H' pen = some (.lst ys))
 | o => H' b = some o
def SameX (pen : Addr) (H H' : Hp) : Prop := ∀ b o, b ≠ pen → H b = some o → KpX pen H H' b o
theorem KpX.some {pen : Addr} {H H' : Hp} {b : Addr} {o : HO} (k : KpX pen H H' b o) : ∃ u, H' b = some u := by
 cases o
 case tbl ps => exact ⟨_, k.1.choose_spec⟩
 all_goals exact ⟨_, k⟩
theorem SameX.refl (pen : Addr) (H : Hp) : SameX pen H H := fun _ o _ h => by
 cases o
 case tbl ps => exact ⟨⟨_, h⟩, fun a b => ⟨a, b⟩⟩
 all_goals exact h
theorem SameX.trans {pen : Addr} {H H1 H2 : Hp} (a : SameX pen H H1) (b : SameX pen H1 H2) : SameX pen H H2 := fun c o n h => by
 have z := a c o n h
 cases o
 case tbl ps =>
  obtain ⟨⟨qs, hq⟩, k⟩ := z
  obtain ⟨q2, k2⟩ := b c _ n hq
  exact ⟨q2, fun t y => k2 (k t y).1 (k t y).2⟩
 all_goals exact b c _ n z
theorem Same.x {pen : Addr} {H H' : Hp} (s : Same H H') : SameX pen H H' := fun b o _ h => by
 have z := s b o h
 cases o
 case tbl ps => exact ⟨z.1, fun t ⟨ys, y⟩ => ⟨z.2 t, ys, s pen _ y⟩⟩
 all_goals exact z
theorem za2 {pen : Addr} {H : Hp} (o : HO) (ho : ∃ ys, o = .lst ys := by exact ⟨_, rfl⟩) : SameX pen H (upd H pen o) := fun b u n h => by
 cases u
 case tbl ps =>
  refine ⟨⟨ps, by rw [zak n]; exact h⟩, ?_⟩
  rintro ⟨qs, hq, tr, hp⟩ ⟨ys, hy⟩
  obtain ⟨zs, rfl⟩ := ho
  refine ⟨⟨qs, by rw [zak n]; exact hq, tr, fun pos => ?_⟩, ⟨zs, zab⟩⟩
  rcases hp pos with z | ⟨c, z1, z2⟩
  ·exact .inl z
  ·refine .inr ⟨c, z1, ?_⟩
   rw [zak fun z => by rw [z, hy] at z2; cases z2]
   exact z2
 all_goals (show upd H pen o b = _; rw [zak n]; exact h)
theorem Same.put {H H1 : Hp} {p : Addr} {xs : List V} {o : HO} (s : Same H H1) (n : H p = none) (e : H1 p = some (.lst xs)) : Same H (upd H1 p o) := fun b u hb => by
 have ne : b ≠ p := zas hb n
 have z := s b u hb
 cases u
 case tbl ps =>
  refine ⟨⟨z.1.choose, by rw [zak ne]; exact z.1.choose_spec⟩, fun t => ?_⟩
  obtain ⟨qs, hq, tr, hp⟩ := z.2 t
  refine ⟨qs, by rw [zak ne]; exact hq, tr, fun pos => ?_⟩
  rcases hp pos with y | ⟨c, y1, y2⟩
  ·exact .inl y
  ·refine .inr ⟨c, y1, ?_⟩
   rw [zak fun z => by rw [z, e] at y2; cases y2]
   exact y2
 all_goals (show upd H1 p o b = _; rw [zak ne]; exact z)
theorem SameX.put {pen : Addr} {H H1 : Hp} {p : Addr} {xs : List V} {o : HO} (s : SameX pen H H1) (n : H p = none) (np : p ≠ pen) (e : H1 p = some (.lst xs)) : SameX pen H (upd H1 p o) := fun b u nb hb => by
 have ne : b ≠ p := zas hb n
 have z := s b u nb hb
 cases u
 case tbl ps =>
  refine ⟨⟨z.1.choose, by rw [zak ne]; exact z.1.choose_spec⟩, fun t y => ?_⟩
  obtain ⟨⟨qs, hq, tr, hp⟩, ys, hy⟩ := z.2 t y
  refine ⟨⟨qs, by rw [zak ne]; exact hq, tr, fun pos => ?_⟩, ys, by rw [zak (Ne.symm np)]; exact hy⟩
  rcases hp pos with y | ⟨c, y1, y2⟩
  ·exact .inl y
  ·refine .inr ⟨c, y1, ?_⟩
   rw [zak fun z => by rw [z, e] at y2; cases y2]
   exact y2
 all_goals (show upd H1 p o b = _; rw [zak ne]; exact z)
theorem SameX.tab {pen P : Addr} {H H' : Hp} {ys : List V} (s : SameX pen H H') (hp : H pen = some (.lst ys)) (t : zcw H P) : zcw H' P := by
 obtain ⟨ps, h, _⟩ := id t
 exact ((s P _ (fun z => by rw [z, hp] at h; cases h) h).2 t ⟨ys, hp⟩).1
theorem SameX.free {pen l : Addr} {H H' : Hp} (s : SameX pen H H') (hp : ∃ o, H' pen = some o) (h : H' l = none) : H l = none := by
 cases q : H l with
 | none => rfl
 | some o =>
  obtain ⟨o', e⟩ := hp
  have n : l ≠ pen := fun z => by rw [z, e] at h; cases h
  obtain ⟨u, z⟩ := (s l o n q).some
  rw [z] at h
  cases h
structure Pen (K : PySem.W.Frag) (H : Hp) (pen sp : Addr) (ns : List Int) (k : Int) : Prop where
 at_ : H pen = some (.lst [.ref sp, .int k])
 len : ns.length ≤ 63
 scr : ∀ H', SameX pen H H' → SqL K H' sp (ns.map V.int)
theorem Pen.to {K : PySem.W.Frag} {H H' : Hp} {pen sp : Addr} {ns : List Int} {k k' : Int} (p : Pen K H pen sp ns k) (s : SameX pen H H') (e : H' pen = some (.lst [.ref sp, .int k'])) : Pen K H' pen sp ns k' :=
 ⟨e, p.len, fun H2 s2 => p.scr H2 (s.trans s2)⟩
theorem Dn.pen {H : Hp} {p : Addr} {xs ys : List V} (h : H p = some (.lst xs)) {n : Nat} {d : PyData} {v : V} (f : zbr n d = true) (q : Dn H d v) : Dn (upd H p (.lst ys)) d v := Dn.keepT (zow h) n d v f q
theorem DnL.pen {H : Hp} {p : Addr} {xs ys : List V} (h : H p = some (.lst xs)) {n : Nat} {ds : List PyData} {vs : List V} (f : ds.all (zbr n) = true) (q : DnL H ds vs) : DnL (upd H p (.lst ys)) ds vs := DnL.keepT (Dn.keepT (zow h) n) ds vs f q
def zc5 (H H' : Hp) : Prop := ∀ b xs, H b = some (.tup xs) → H' b = some (.tup xs)
theorem SameX.tup {pen : Addr} {H H' : Hp} {ys : List V} (e : H pen = some (.lst ys)) (s : SameX pen H H') : zc5 H H' := fun b xs h => s b _ (fun z => by rw [z, e] at h; cases h) h
theorem DnL.tupS {H H' : Hp} (t : zc5 H H') {n : Nat} {ds : List PyData} {vs : List V} (f : ds.all (zbr n) = true) (q : DnL H ds vs) : DnL H' ds vs := DnL.keepT (Dn.keepT t n) ds vs f q
def zxa (K : PySem.W.Frag) : Sp := fun vs H Q _ => ∃ (pen sp : Addr) (ns : List Int) (most k : Int), vs = [.ref pen, .int most] ∧ Pen K H pen sp ns k ∧ 0 ≤ k ∧ k ≤ 1000000 ∧ 0 < most ∧ ∀ c : Int, 0 ≤ c → c < most → Q (.int c) (L2.upd H pen (.lst [.ref sp, .int (k + 1)]))
structure WoodX (H : Hp) (wd : Addr) (m : Nat) (bs cs : List PyData) : Prop where
 ex : ∃ xs ys, WoodAt H wd m xs ys ∧ DnL H bs xs ∧ DnL H cs ys
 gb : zwb m bs
 gc : ∀ c ∈ cs, zil m c = true
 b8 : bs.length ≤ 9
 c8 : cs.length ≤ 20
 fb : bs.all (zbr 3) = true
 fc : cs.all (zbr 3) = true
 m1 : 1 ≤ m
 m9 : m ≤ 9
theorem WoodX.tupS {H H' : Hp} {wd : Addr} {m : Nat} {bs cs : List PyData} (t : zc5 H H') (h : WoodX H wd m bs cs) : WoodX H' wd m bs cs := by
 obtain ⟨xs, ys, ⟨tb, tc, h1, h2, h3⟩, db, dc⟩ := h.ex
 exact ⟨⟨xs, ys, ⟨tb, tc, t _ _ h1, t _ _ h2, t _ _ h3⟩, DnL.tupS t h.fb db, DnL.tupS t h.fc dc⟩, h.gb, h.gc, h.b8, h.c8, h.fb, h.fc, h.m1, h.m9⟩
theorem Same.tup {H H' : Hp} (s : Same H H') : zc5 H H' := fun b xs h => s b _ h
theorem WoodX.ties {H : Hp} {wd : Addr} {m : Nat} {bs cs : List PyData} (h : WoodX H wd m bs cs) : ∃ ts : List Tie, bs ++ cs = ts.map Tie.toD ∧ (∀ t ∈ ts, t.Ok m) ∧ ts.length ≤ 29 ∧ ∀ H', zc5 H H' → WoodT H' wd m ts := by
 obtain ⟨ts, ets, okt⟩ := zle (P := fun t => t.Ok m) (l := bs ++ cs) fun x hx => by
  rcases List.mem_append.mp hx with z | z
  ·exact zrg (h.gb.each x z)
  ·exact zr5 (h.gc x z)
 have lt : ts.length = bs.length + cs.length := by rw [← List.length_append, ets, List.length_map]
 have b8 := h.b8
 have c8 := h.c8
 have m9 := h.m9
 refine ⟨ts, ets, okt, by omega, fun H' t => ?_⟩
 obtain ⟨xs, ys, WA, db, dc⟩ := (h.tupS t).ex
 exact ⟨⟨xs, ys, WA, by rw [← ets]; exact db.append dc⟩, okt, by omega, by omega⟩
theorem _root_.Ow.GAt.add2 {H0 H : Hp} {g l t : Addr} {gs : List Grp} {u k : Int} (G : GAt H0 H g gs) (hf : H0 l = none) (hl : H l = none) (ht : upd H l (.lst [.int k]) t = none) :
  GAt H0 (upd (upd (upd H l (.lst [.int k])) t (.tup [.int u, .ref l])) g (.lst ((gs.map fun x => V.ref x.t) ++ [.ref t]))) g (gs ++ [⟨t, u, l, [k]⟩]) := by
 have ngl : g ≠ l := zas G.at_ hl
 have s1 := zad hl (.lst [.int k])
 have s2 := s1.trans (zad ht (.tup [.int u, .ref l]))
 have ntl : t ≠ l := fun z => by rw [z, zab] at ht; cases ht
 have ngt : g ≠ t := zas (s1 _ _ G.at_) ht
 refine ⟨?_, G.new, fun x hx => ?_, fun x hx => ?_, ?_⟩
 ·rw [zab, List.map_append]
  rfl
 ·rcases List.mem_append.mp hx with z | z
  ·rw [zak (zof (G.tup x z) G.at_ (by intro q; cases q))]
   exact s2 _ _ (G.tup x z)
  ·rw [List.mem_singleton.mp z]
   show L2.upd _ g _ t = _
   rw [zak (Ne.symm ngt), zab]
 ·rcases List.mem_append.mp hx with z | z
  ·obtain ⟨a, b, c⟩ := G.lst x z
   refine ⟨?_, b, c⟩
   rw [zak (Ne.symm c)]
   exact s2 _ _ a
  ·rw [List.mem_singleton.mp z]
   refine ⟨?_, hf, ngl⟩
   show L2.upd _ g _ l = _
   rw [zak (Ne.symm ngl), zak (Ne.symm ntl), zab]
   rfl
 ·rw [List.map_append]
  refine List.nodup_append.mpr ⟨G.nd, by simp, fun x hx y hy => ?_⟩
  obtain ⟨z, hz, rfl⟩ := List.mem_map.mp hx
  have e : y = l := by simpa using hy
  rw [e]
  exact zas (G.lst z hz).1 hl
theorem _root_.Ow.GAt.pen {H0 H : Hp} {g pen : Addr} {gs : List Grp} {xs ys : List V} (G : GAt H0 H g gs) (h0 : ∃ o, H0 pen = some o) (h : H pen = some (.lst xs)) : GAt H0 (L2.upd H pen (.lst ys)) g gs := by
 obtain ⟨o, e0⟩ := h0
 refine ⟨?_, G.new, fun x hx => ?_, fun x hx => ?_, G.nd⟩
 ·rw [zak (fun z => by rw [← z, G.new] at e0; cases e0)]
  exact G.at_
 ·rw [zak (zof (G.tup x hx) h (by intro q; cases q))]
  exact G.tup x hx
 ·obtain ⟨a, b, c⟩ := G.lst x hx
  refine ⟨?_, b, c⟩
  rw [zak (fun z => by rw [← z, b] at e0; cases e0)]
  exact a
end Wd
namespace Wd
def ze3 (ts : List Tie) (i s : Nat) : Bool := match ts[i]? with
 | some t => t.keep s
 | none => true
def zfs (ts : List Tie) (i y n : Nat) : Bool := match ts[i]? with
 | some t => t.sb y n
 | none => false
def za5 (ts : List Tie) (il : List Nat) (y n : Nat) : Option Nat := il.find? fun i => zfs ts i y n
def zay (m y n : Nat) : List Nat := (List.range m).filter fun k => !(y ||| n).testBit k
theorem mem_open {m y n k : Nat} : k ∈ zay m y n ↔ k < m ∧ y.testBit k = false ∧ n.testBit k = false := by
 unfold zay
 rw [List.mem_filter, List.mem_range, Bool.not_eq_true', Nat.testBit_or, Bool.or_eq_false_iff]
theorem zts (m y n k : Nat) : zay m (y ||| 2 ^ k) n = (zay m y n).filter fun j => !decide (k = j) := by
 unfold zay
 rw [List.filter_filter]
 refine List.filter_congr fun j _ => ?_
 rw [Nat.testBit_or, zca, Nat.testBit_or]
 cases y.testBit j <;> cases n.testBit j <;> cases decide (k = j) <;> rfl
theorem zpo (m y n k : Nat) : zay m y (n ||| 2 ^ k) = (zay m y n).filter fun j => !decide (k = j) := by
 unfold zay
 rw [List.filter_filter]
 refine List.filter_congr fun j _ => ?_
 rw [Nat.testBit_or, zca, Nat.testBit_or]
 cases y.testBit j <;> cases n.testBit j <;> cases decide (k = j) <;> rfl
theorem zio {l : List Nat} {k : Nat} (h : k ∈ l) : (l.filter fun j => !decide (k = j)).length < l.length := by
 refine Nat.lt_of_le_of_ne (List.length_filter_le _ _) fun e => ?_
 have := List.length_filter_eq_length_iff.mp e k h
 simp at this
theorem zei {m y n k : Nat} (h : k ∈ zay m y n) : (zay m (y ||| 2 ^ k) n).length < (zay m y n).length := by
 rw [zts]; exact zio h
theorem zen {m y n k : Nat} (h : k ∈ zay m y n) : (zay m y (n ||| 2 ^ k)).length < (zay m y n).length := by
 rw [zpo]; exact zio h
theorem zcj (m y n : Nat) : (zay m y n).length ≤ m := by
 refine Nat.le_trans (List.length_filter_le _ _) ?_
 rw [List.length_range]
 exact Nat.le_refl _
theorem zpk {m y k : Nat} (h : y < 2 ^ m) (hk : k < m) : y ||| 2 ^ k < 2 ^ m := by
 refine Nat.lt_pow_two_of_testBit _ fun i hi => ?_
 rw [zca, Nat.testBit_lt_two_pow (Nat.lt_of_lt_of_le h (Nat.pow_le_pow_right (by decide) hi)), Bool.false_or]
 exact decide_eq_false (by omega)
theorem zo4 {x y : Nat} (k : Nat) (hx : x.testBit k = false) (hy : y.testBit k = true) (h : ∀ j, k < j → x.testBit j = y.testBit j) : x < y := by
 have e : x / 2 ^ (k + 1) = y / 2 ^ (k + 1) := Nat.eq_of_testBit_eq fun j => by
  rw [← Nat.testBit_add, ← Nat.testBit_add]
  exact h _ (by omega)
 have r1 : x % 2 ^ (k + 1) < 2 ^ k := Nat.lt_pow_two_of_testBit _ fun i hi => by
  rw [Nat.testBit_mod_two_pow]
  by_cases z : i = k
  ·rw [z, hx, Bool.and_false]
  ·rw [decide_eq_false (by omega), Bool.false_and]
 have r2 : 2 ^ k ≤ y % 2 ^ (k + 1) := Nat.ge_two_pow_of_testBit (by
  rw [Nat.testBit_mod_two_pow, hy, decide_eq_true (by omega)]; rfl)
 have d1 := Nat.div_add_mod x (2 ^ (k + 1))
 have d2 := Nat.div_add_mod y (2 ^ (k + 1))
 rw [e] at d1
 omega
theorem zo8 {m a b : Nat} (ha : a < 2 ^ m) (hb : b < 2 ^ m) (h : ∀ k, k < m → a.testBit k = b.testBit k) : a = b := by
 refine Nat.eq_of_testBit_eq fun k => ?_
 by_cases z : k < m
 ·exact h k z
 ·have : 2 ^ m ≤ 2 ^ k := Nat.pow_le_pow_right (by decide) (by omega)
  rw [Nat.testBit_lt_two_pow (by omega), Nat.testBit_lt_two_pow (by omega)]
def zbn (ts : List Tie) (il : List Nat) (s : Nat) : Bool := il.all fun i => ze3 ts i s
structure Stand (m y n : Nat) : Prop where
 dj : ∀ k, y.testBit k = true → n.testBit k = false
 ym : y < 2 ^ m
 nm : n < 2 ^ m
theorem Stand.one {m y n k : Nat} (S : Stand m y n) (h : k ∈ zay m y n) : Stand m (y ||| 2 ^ k) n := by
 obtain ⟨km, ky, kn⟩ := mem_open.mp h
 exact ⟨zt9 S.dj kn, zpk S.ym km, S.nm⟩
theorem Stand.other {m y n k : Nat} (S : Stand m y n) (h : k ∈ zay m y n) : Stand m y (n ||| 2 ^ k) := by
 obtain ⟨km, ky, kn⟩ := mem_open.mp h
 exact ⟨ztt S.dj ky, S.ym, zpk S.nm km⟩
theorem zr6 {m : Nat} {ts : List Tie} (ok : ∀ t ∈ ts, t.Ok m) {i y n s : Nat} (dj : ∀ k, y.testBit k = true → n.testBit k = false) (h : zfs ts i y n = true) (hs : InS y n s) : ze3 ts i s = false := by
 unfold zfs at h
 unfold ze3
 cases e : ts[i]? with
 | none => rw [e] at h; cases h
 | some t =>
  rw [e] at h
  exact (zp4 (ok t (List.mem_of_getElem? e)) dj).mp h s hs
theorem zsf {m : Nat} {ts : List Tie} (ok : ∀ t ∈ ts, t.Ok m) {i y n : Nat} (dj : ∀ k, y.testBit k = true → n.testBit k = false) (full : zay m y n = []) (h : zfs ts i y n = false) : ze3 ts i y = true := by
 have hf : ∀ k, k < m → (y ||| n).testBit k = true := fun k hk => by
  cases e : (y ||| n).testBit k with
  | true => rfl
  | false =>
   rw [Nat.testBit_or, Bool.or_eq_false_iff] at e
   have := mem_open.mpr ⟨hk, e.1, e.2⟩
   rw [full] at this
   cases this
 unfold zfs at h
 unfold ze3
 cases e : ts[i]? with
 | none => rfl
 | some t =>
  rw [e] at h
  have h' : t.sb y n = false := h
  rw [zu0 (ok t (List.mem_of_getElem? e)) dj hf] at h'
  show t.keep y = true
  simpa using h'
theorem zo7 {m y n s : Nat} (S : Stand m y n) (full : zay m y n = []) (hs : InS y n s) (sm : s < 2 ^ m) : s = y := by
 refine zo8 sm S.ym fun k hk => ?_
 refine znn (m := m) (fun j hj => ?_) hs S.dj k hk
 cases e : (y ||| n).testBit j with
 | true => rfl
 | false =>
  rw [Nat.testBit_or, Bool.or_eq_false_iff] at e
  have := mem_open.mpr ⟨hj, e.1, e.2⟩
  rw [full] at this
  cases this
def zbc (ts : List Tie) (il : List Nat) (m : Nat) : Nat → Nat → Nat → Option Nat
 | f, y, n => if (za5 ts il y n).isSome = true then none else match (zay m y n).getLast?, f with
  | none, _ => some y
  | some _, 0 => none
  | some k, f + 1 => match zbc ts il m f y (n ||| 2 ^ k) with
   | some s => some s
   | none => zbc ts il m f (y ||| 2 ^ k) n
def ztx (ts : List Tie) (il : List Nat) (m y n : Nat) : Option Nat → Prop
 | some s => s < 2 ^ m ∧ InS y n s ∧ zbn ts il s = true ∧ ∀ s', s' < 2 ^ m → InS y n s' → zbn ts il s' = true → s ≤ s'
 | none => ∀ s', s' < 2 ^ m → InS y n s' → zbn ts il s' = false
theorem zmf {ts : List Tie} {il : List Nat} {y n i : Nat} (h : za5 ts il y n = some i) : i ∈ il ∧ zfs ts i y n = true :=
 ⟨List.mem_of_find?_eq_some h, List.find?_some (p := fun i => zfs ts i y n) h⟩
theorem zmd {ts : List Tie} {il : List Nat} {y n : Nat} (h : za5 ts il y n = none) : ∀ i ∈ il, zfs ts i y n = false := fun i hi => by
 have := List.find?_eq_none.mp h i hi
 simpa using this
theorem zlo {m y n k : Nat} (h : (zay m y n).getLast? = some k) : k ∈ zay m y n ∧ ∀ j ∈ zay m y n, j ≤ k := by
 have hp : (zay m y n).Pairwise (· < ·) := List.pairwise_lt_range.filter _
 refine ⟨List.mem_of_getLast? h, fun j hj => ?_⟩
 obtain ⟨l, e⟩ := List.getLast?_eq_some_iff.mp h
 rw [e] at hp hj
 rcases List.mem_append.mp hj with z | z
 ·exact Nat.le_of_lt ((List.pairwise_append.mp hp).2.2 j z k (List.mem_singleton.mpr rfl))
 ·exact Nat.le_of_eq (List.mem_singleton.mp z)
theorem zce {m : Nat} {ts : List Tie} {il : List Nat} (ok : ∀ t ∈ ts, t.Ok m) : ∀ (f y n : Nat), (zay m y n).length ≤ f → Stand m y n → ztx ts il m y n (zbc ts il m f y n)
 | f, y, n, hf, S => by
  unfold zbc
  cases hb : za5 ts il y n with
  | some i =>
   obtain ⟨hi, hsb⟩ := zmf hb
   intro s' sm hs
   cases e : zbn ts il s' with
   | false => rfl
   | true =>
    have := (List.all_eq_true.mp e) i hi
    rw [zr6 ok S.dj hsb hs] at this
    cases this
  | none =>
   have hn := zmd hb
   simp only [Option.isSome_none, Bool.false_eq_true, if_false]
   cases hl : (zay m y n).getLast? with
   | none =>
    have full : zay m y n = [] := List.getLast?_eq_none_iff.mp hl
    refine ⟨S.ym, zka S.dj, List.all_eq_true.mpr fun i hi => zsf ok S.dj full (hn i hi), fun s' sm hs _ => ?_⟩
    rw [zo7 S full hs sm]
    exact Nat.le_refl _
   | some k =>
    obtain ⟨hk, hmax⟩ := zlo hl
    cases f with
    | zero => rw [List.eq_nil_of_length_eq_zero (Nat.le_zero.mp hf)] at hk; cases hk
    | succ f =>
     have l1 := zei hk
     have l2 := zen hk
     have i1 := zce (il := il) ok f y (n ||| 2 ^ k) (by omega) (S.other hk)
     have i2 := zce (il := il) ok f (y ||| 2 ^ k) n (by omega) (S.one hk)
     dsimp only
     cases h1 : zbc ts il m f y (n ||| 2 ^ k) with
     | some s =>
      rw [h1] at i1
      obtain ⟨a1, a2, a3, a4⟩ := i1
      refine ⟨a1, inS_split.mpr (.inr a2), a3, fun s' sm hs hk' => ?_⟩
      rcases (inS_split (k := k)).mp hs with z | z
      ·have kt : s'.testBit k = true := z.1 k (by rw [zca, decide_eq_true rfl, Bool.or_true])
       have kf : s.testBit k = false := a2.2 k (by rw [zca, decide_eq_true rfl, Bool.or_true])
       refine Nat.le_of_lt (zo4 k kf kt fun j hj => ?_)
       by_cases jm : j < m
       ·have hno : ¬ j ∈ zay m y n := fun z => by have := hmax j z; omega
        have hyn : y.testBit j = true ∨ n.testBit j = true := by
         cases ey : y.testBit j with
         | true => exact .inl rfl
         | false =>
          cases en : n.testBit j with
          | true => exact .inr rfl
          | false => exact absurd (mem_open.mpr ⟨jm, ey, en⟩) hno
        have hs0 := inS_split.mpr (.inr a2)
        rcases hyn with e | e
        ·rw [hs0.1 j e, hs.1 j e]
        ·rw [hs0.2 j e, hs.2 j e]
       ·have : 2 ^ m ≤ 2 ^ j := Nat.pow_le_pow_right (by decide) (by omega)
        rw [Nat.testBit_lt_two_pow (by omega), Nat.testBit_lt_two_pow (by omega)]
      ·exact a4 s' sm z hk'
     | none =>
      rw [h1] at i1
      show ztx ts il m y n (zbc ts il m f (y ||| 2 ^ k) n)
      cases h2 : zbc ts il m f (y ||| 2 ^ k) n with
      | some s =>
       rw [h2] at i2
       obtain ⟨a1, a2, a3, a4⟩ := i2
       refine ⟨a1, inS_split.mpr (.inl a2), a3, fun s' sm hs hk' => ?_⟩
       rcases (inS_split (k := k)).mp hs with z | z
       ·exact a4 s' sm z hk'
       ·rw [i1 s' sm z] at hk'
        cases hk'
      | none =>
       rw [h2] at i2
       intro s' sm hs
       rcases (inS_split (k := k)).mp hs with z | z
       ·exact i2 s' sm z
       ·exact i1 s' sm z
theorem zop {ts : List Tie} {il : List Nat} {m f y n k : Nat} (hb : za5 ts il y n = none) (ho : (zay m y n).getLast? = some k) : zbc ts il m (f + 1) y n = (match zbc ts il m f y (n ||| 2 ^ k) with | some s => some s | none => zbc ts il m f (y ||| 2 ^ k) n) := by
 conv => lhs; unfold zbc
 simp only [hb, ho, Option.isSome_none, Bool.false_eq_true, if_false]
theorem zpa {ts : List Tie} {il : List Nat} {m f y n : Nat} (hb : za5 ts il y n = none) (ho : zay m y n = []) : zbc ts il m f y n = some y := by
 unfold zbc
 simp [hb, ho]
theorem znd {ts : List Tie} {il : List Nat} {m f y n i : Nat} (hb : za5 ts il y n = some i) : zbc ts il m f y n = none := by
 unfold zbc
 simp [hb]
inductive CT where
 | broken (t : Nat)
 | ware
 | split (k : Nat) (one other : CT)
def zb3 (ts : List Tie) (il : List Nat) (m : Nat) : Nat → Nat → Nat → CT
 | f, y, n => match za5 ts il y n with
  | some t => .broken t
  | none => match zay m y n, f with
   | [], _ => .ware
   | _ :: _, 0 => .ware
   | k :: _, f + 1 => .split k (zb3 ts il m f (y ||| 2 ^ k) n) (zb3 ts il m f y (n ||| 2 ^ k))
theorem zg7 {ts : List Tie} {il r : List Nat} {m f y n k : Nat} (hb : za5 ts il y n = none) (ho : zay m y n = k :: r) : zb3 ts il m (f + 1) y n = .split k (zb3 ts il m f (y ||| 2 ^ k) n) (zb3 ts il m f y (n ||| 2 ^ k)) := by
 conv => lhs; unfold zb3
 simp only [hb, ho]
theorem zim {ts : List Tie} {il : List Nat} {m f y n : Nat} (hb : za5 ts il y n = none) (ho : zay m y n = []) : zb3 ts il m f y n = .ware := by
 unfold zb3
 simp [hb, ho]
theorem zgo {ts : List Tie} {il : List Nat} {m f y n i : Nat} (hb : za5 ts il y n = some i) : zb3 ts il m f y n = .broken i := by
 unfold zb3
 simp [hb]
def CT.depth : CT → Nat
 | .broken _ => 0
 | .ware => 0
 | .split _ a b => max a.depth b.depth + 1
theorem zfm {ts : List Tie} {il : List Nat} {m : Nat} : ∀ (f y n : Nat), (zb3 ts il m f y n).depth ≤ f
 | f, y, n => by
  unfold zb3
  cases za5 ts il y n with
  | some t => exact Nat.zero_le _
  | none =>
   dsimp only
   cases zay m y n with
   | nil => exact Nat.zero_le _
   | cons k r =>
    cases f with
    | zero => exact Nat.zero_le _
    | succ f =>
     show max _ _ + 1 ≤ f + 1
     have h1 := zfm (ts := ts) (il := il) (m := m) f (y ||| 2 ^ k) n
     have h2 := zfm (ts := ts) (il := il) (m := m) f y (n ||| 2 ^ k)
     omega
end Wd
set_option maxRecDepth 100000
set_option maxHeartbeats 4000000
namespace L2
open PySem PySem.Spec PyProof.Rows
section
variable {X : Cx}
end
end L2
namespace Wd
open PySem L2 Ow
def CT.toD : CT → PyData
 | .broken t => .tuple [.str ("broken" : Str), .int (t : Int)]
 | .ware => .tuple [.str ("ware" : Str)]
 | .split k a b => .tuple [.str ("split" : Str), .int (k : Int), a.toD, b.toD]
abbrev zal (l : List Nat) : List V := l.map fun k : Nat => V.int (k : Int)
theorem zvc (l : List Nat) (k : Nat) : atI (zal (l ++ [k])) (-1) = some (.int (k : Int)) := by
 unfold atI ixN
 have e : (zal (l ++ [k])).length = l.length + 1 := by rw [List.length_map, List.length_append, List.length_singleton]
 rw [e, if_neg (by decide), if_pos (by omega)]
 show (zal (l ++ [k]))[((-1 : Int) + ((l.length + 1 : Nat) : Int)).toNat]? = _
 have e2 : ((-1 : Int) + ((l.length + 1 : Nat) : Int)).toNat = l.length := by omega
 rw [e2, zal, List.getElem?_map, List.getElem?_append_right (Nat.le_refl _), Nat.sub_self]
 rfl
def zvf : Sp := fun vs H Q _ => ∃ n k : Nat, vs = [.int n, .int k] ∧ k ≤ 1000 ∧ Q (.int ((n ||| 2 ^ k : Nat) : Int)) H
def zwt : Sp := fun vs H Q _ => ∃ m y n : Nat, vs = [.int m, .int y, .int n] ∧ m ≤ 900 ∧ ∀ (l : Addr) (H' : Hp), Same H H' → H l = none → H' l = some (.lst (zal (zay m y n))) → Q (.ref l) H'
def zra : Sp := fun vs H Q _ => ∃ (wd : Addr) (m : Nat) (ts : List Tie) (tl : Addr) (il : List Nat) (y n : Nat), vs = [.ref wd, .ref tl, .int y, .int n] ∧ WoodT H wd m ts ∧ H tl = some (.lst (zal il)) ∧ (∀ i ∈ il, i < ts.length) ∧ ∀ H', Same H H' → Q (zgn (za5 ts il y n)) H'
def ztd (f : Nat) : Sp := fun vs H Q _ => ∃ (wd : Addr) (m : Nat) (ts : List Tie) (tl : Addr) (il : List Nat) (y n : Nat), vs = [.ref wd, .ref tl, .int y, .int n] ∧ WoodT H wd m ts ∧ H tl = some (.lst (zal il)) ∧ (∀ i ∈ il, i < ts.length) ∧ (zay m y n).length ≤ f ∧ ∀ (v : V) (H' : Hp), Same H H' → Dn H' (zb3 ts il m f y n).toD v → Q v H'
def zna (f : Nat) : Sp := fun vs H Q _ => ∃ (wd : Addr) (m : Nat) (ts : List Tie) (tl : Addr) (il : List Nat) (y n : Nat), vs = [.ref wd, .ref tl, .int y, .int n] ∧ WoodT H wd m ts ∧ H tl = some (.lst (zal il)) ∧ (∀ i ∈ il, i < ts.length) ∧ (zay m y n).length ≤ f ∧ ∀ H', Same H H' → Q (zgn (zbc ts il m f y n)) H'
def zcd (ts : List Tie) : List Nat := List.range ts.length
theorem zik (ts : List Tie) (s : Nat) : zbn ts (zcd ts) s = ts.all fun t => t.keep s := by
 unfold zbn zcd
 rw [Bool.eq_iff_iff, List.all_eq_true, List.all_eq_true]
 constructor
 ·intro h t ht
  obtain ⟨i, hi, rfl⟩ := List.getElem_of_mem ht
  have := h i (List.mem_range.mpr hi)
  unfold ze3 at this
  rw [List.getElem?_eq_getElem hi] at this
  exact this
 ·intro h i hi
  unfold ze3
  rw [List.getElem?_eq_getElem (List.mem_range.mp hi)]
  exact h _ (List.getElem_mem _)
def zs4 : Sp := fun vs H Q _ => ∃ (wd : Addr) (m : Nat) (ts : List Tie) (y n : Nat), vs = [.ref wd, .int y, .int n] ∧ WoodT H wd m ts ∧ m ≤ 9 ∧ 1 ≤ m ∧ Stand m y n ∧ ∀ H' o, Same H H' → (match o with | none => ∀ s, s < 2 ^ m → InS y n s → zbg ts s = false | some s => s < 2 ^ m ∧ InS y n s ∧ zbg ts s = true ∧ ∀ s', s' < 2 ^ m → InS y n s' → zbg ts s' = true → s ≤ s') → Q (zgn o) H'
end Wd
set_option maxRecDepth 100000
set_option maxHeartbeats 4000000
namespace L2
open PySem PySem.Spec PyProof.Rows
theorem zw7 {K : PySem.W.Frag} {a : Addr} {xs : List V} {σ0 : St} {H : Hp} {g : TG} {tc : TT} {te : TE} {Q : VK} (hq : H a = some (.tup xs) ∨ H a = some (.lst xs)) (Pv : Nat → List V → St → Hp → Prop) (h0 : Pv 0 [] σ0 H) (hz : ∀ i ys σ H, i ≤ xs.length → Pv i ys σ H → ys.length ≤ sizeLine)
  (hl : ∀ i ys σ H2, i ≤ xs.length → Pv i ys σ H2 → H2 a = H a)
  (hs : ∀ i x ys σ H, xs[i]? = some x → Pv i ys σ H → g x σ H fun σ3 H3 => tc σ3 H3 fun b H4 => if b = true then te σ3 H4 fun v H5 => Pv (i + 1) (ys ++ [v]) σ3 H5 else Pv (i + 1) ys σ3 H4)
  (hd : ∀ ys σ H, Pv xs.length ys σ H → ∀ p, H p = none → Q (.ref p) (upd H p (.lst ys))) :
  ((∃ xs, SqL K H a xs) ∧ zma (Itl K a) g tc te σ0 H Q) ∨ ((∃ xs, SqT K H a xs) ∧ zma (Itt K a) g tc te σ0 H Q) := by
 rcases hq with h | h
 ·exact .inr ⟨⟨_, Wd.sqT h⟩, zmx Pv h0 hz (fun i ys σ H2 hi pv => Wd.sqT ((hl i ys σ H2 hi pv).trans h)) hs hd⟩
 ·exact .inl ⟨⟨_, SqL.of h⟩, zco Pv h0 hz (fun i ys σ H2 hi pv => SqL.of ((hl i ys σ H2 hi pv).trans h)) hs hd⟩
end L2
namespace Wd
open PySem L2 Ow
def zsq (f : List (Nat × Int) → Nat → Nat → Int) : Sp := fun vs H Q _ => ∃ (q : Addr) (xs : List V) (ps : List (Nat × Int)) (y n : Nat), vs = [.ref q, .int y, .int n] ∧ (H q = some (.tup xs) ∨ H q = some (.lst xs)) ∧ DnL H (ps.map zlg) xs ∧ ps.length ≤ 1000 ∧ ∀ H', Same H H' → Q (.int (f ps y n)) H'
theorem zq8 {f : List (Nat × Int) → Nat → Nat → Int} {vs : List V} {H : Hp} {Q : VK} {E : XK} (h : zwc f vs H Q E) : zsq f vs H Q E := by
 obtain ⟨q, xs, ps, y, n, e, hq, r⟩ := h
 exact ⟨q, xs, ps, y, n, e, .inl hq, r⟩
end Wd
set_option maxRecDepth 100000
set_option maxHeartbeats 4000000
namespace L2
open PySem PySem.Spec PyProof.Rows
section
variable {X : Cx}
theorem zsc (hu : X.A.units + 64 < cLine) : OpR X (compareOp .Eq) (fun x y H Q => ∃ (a b : Addr) (xs : List V), x = .ref a ∧ y = .ref b ∧ H a = some (.lst xs) ∧ H b = some (.lst []) ∧ Q (.bl (decide (xs = []))) H) := by
 intro pins s σ H x y v u Q I rx ry h
 obtain ⟨a, b, xs, rfl, rfl, ha, hb, q⟩ := h
 by_cases hx : xs = []
 ·subst hx
  refine zdb hu pins s σ H _ _ v u Q I rx ry ⟨a, b, [], [], rfl, rfl, SqL.of ha, SqL.of hb, ?_⟩
  exact q
 ·cases rx
  cases ry
  obtain ⟨its, n, r1, e1, _⟩ := I.lst ha
  obtain ⟨its2, n2, r2, e2, _⟩ := I.lst hb
  cases r2
  have hl := r1.length
  rw [decide_eq_false hx] at q
  refine PySem.P.eq_list_lengths e1 e2 ?_ (by omega) ⟨.bl false, H, I, rfl, q⟩
  cases its with
  | nil => cases r1; exact absurd rfl hx
  | cons c r => simp
end
end L2
namespace Wd
open PySem L2 Ow
theorem zwo {K : PySem.W.Frag} {H : Hp} {pen a : Addr} {xs : List V} {o : HO} (h : SqL K H a xs) (hp : H pen = none) : ∀ H', SameX pen (L2.upd H pen o) H' → SqL K H' a xs := fun H' s => by
 have keep : ∀ u, H a = some u → KpX pen (L2.upd H pen o) H' a u := fun u e => s a u (zas e hp) (by rw [zak (zas e hp)]; exact e)
 rcases h with (h | ⟨u, h⟩) | h
 ·exact .inl (.inl (keep _ h))
 ·exact .inl (.inr ⟨u, keep _ h⟩)
 ·exact .inr h
theorem zvp {K : PySem.W.Frag} {H : Hp} {pen sp : Addr} {ns : List Int} (h : SqL K H sp (ns.map V.int)) (hl : ns.length ≤ 63) (hp : H pen = none) : Pen K (L2.upd H pen (.lst [.ref sp, .int 0])) pen sp ns 0 := ⟨zab, hl, zwo h hp⟩
theorem land_yes {s y : Nat} : (s &&& y = y) ↔ ∀ k, y.testBit k = true → s.testBit k = true := by
 constructor
 ·intro h k hk
  have : (s &&& y).testBit k = true := by rw [h]; exact hk
  rw [Nat.testBit_and, Bool.and_eq_true] at this
  exact this.1
 ·intro h
  refine Nat.eq_of_testBit_eq fun k => ?_
  rw [Nat.testBit_and]
  cases e : y.testBit k with
  | false => rw [Bool.and_false]
  | true => rw [h k e]; rfl
theorem land_no {s n : Nat} : (s &&& n = 0) ↔ ∀ k, n.testBit k = true → s.testBit k = false := by
 constructor
 ·intro h k hk
  cases e : s.testBit k with
  | false => rfl
  | true =>
   have : (s &&& n).testBit k = true := by rw [Nat.testBit_and, e, hk]; rfl
   rw [h, Nat.zero_testBit] at this
   cases this
 ·intro h
  refine Nat.eq_of_testBit_eq fun k => ?_
  rw [Nat.testBit_and, Nat.zero_testBit]
  cases e : n.testBit k with
  | false => rw [Bool.and_false]
  | true => rw [h k e]; rfl
end Wd
set_option maxRecDepth 100000
set_option maxHeartbeats 4000000
namespace L2
open PySem PySem.Spec PyProof.Rows
def zxs : Option Stmt → Expr
 | some (Stmt.Return (some e) _) => e
 | _ => .Constant .none 0 ⟨0, 0, 0, 0⟩
section
variable {X : Cx} {tg iter elt : Expr} {cs : List Expr} {sc sc0 : Scope} {pos : Pos} {wi : TI} {g : TG} {tc : TT} {te : TE} {XN N' : List Str} {n : Nat} {kp : List Nat}
theorem piL {K : PySem.W.Frag} {l : Expr} {tl : TE} (hl : PE X l tl) (h : X.K = K := by rfl) : PI X tg l (zwa K tl) := h ▸ zuq hl
theorem piT {K : PySem.W.Frag} {l : Expr} {tl : TE} (hl : PE X l tl) (h : X.K = K := by rfl) : PI X tg l (zxr K tl) := h ▸ zxl hl
end
end L2
set_option maxRecDepth 100000
set_option maxHeartbeats 4000000
namespace Wd
open PySem L2 Ow
def zcn (ts : List Tie) (il : List Nat) (m y n : Nat) : Bool := decide (zbc ts il m 9 y n = none)
theorem zel {ts : List Tie} {il : List Nat} {m y n : Nat} (ok : ∀ t ∈ ts, t.Ok m) (m9 : m ≤ 9) (S : Stand m y n) : zcn ts il m y n = true ↔ ∀ s, s < 2 ^ m → InS y n s → zbn ts il s = false := by
 have of := zcj m y n
 have F := zce (il := il) ok 9 y n (by omega) S
 unfold zcn
 rw [decide_eq_true_eq]
 cases h : zbc ts il m 9 y n with
 | none =>
  rw [h] at F
  exact ⟨fun _ => F, fun _ => rfl⟩
 | some g =>
  rw [h] at F
  refine ⟨(fun z => by cases z), fun z => ?_⟩
  have := z g F.1 F.2.1
  rw [F.2.2.1] at this
  cases this
def zw4 : Sp := fun vs H Q _ => ∃ (wd : Addr) (m : Nat) (ts : List Tie) (tl : Addr) (il : List Nat) (y n : Nat), vs = [.ref wd, .ref tl, .int y, .int n] ∧ WoodT H wd m ts ∧ m ≤ 9 ∧ H tl = some (.lst (zal il)) ∧ (∀ i ∈ il, i < ts.length) ∧ ∀ H', Same H H' → Q (.bl (zcn ts il m y n)) H'
end Wd
set_option maxRecDepth 100000
set_option maxHeartbeats 4000000
namespace Wd
open PySem L2 Ow
def zpp : Sp := fun vs H Q _ => ∃ (l : Addr) (il : List Nat) (t : Nat), vs = [.ref l, .int t] ∧ H l = some (.lst (zal il)) ∧ il.length ≤ 1000 ∧ ∀ (p : Addr) (H' : Hp), Same H H' → H p = none → H' p = some (.lst (zal (il.filter fun i => !decide (i = t)))) → Q (.ref p) H'
abbrev zbq (il : List Nat) (t : Nat) : List Nat := il.filter fun i => !decide (i = t)
def za1 (ts : List Tie) (m y n : Nat) (left : List Nat) (t : Nat) : List Nat := if zcn ts (zbq left t) m y n = true then zbq left t else left
def zbf (ts : List Tie) (m y n : Nat) : List Nat := (zcd ts).foldl (za1 ts m y n) (zcd ts)
theorem leastStep_sub {ts : List Tie} {m y n : Nat} {left : List Nat} {t : Nat} : (za1 ts m y n left t).Sublist left := by
 unfold za1
 split
 ·exact List.filter_sublist
 ·exact List.Sublist.refl _
theorem zea {ts : List Tie} {m y n : Nat} : ∀ (l left : List Nat), (l.foldl (za1 ts m y n) left).Sublist left
 | [], left => List.Sublist.refl _
 | t :: l, left => (zea l (za1 ts m y n left t)).trans leastStep_sub
structure zpx (H : Hp) (ol : Addr) (ts : List Tie) (m y n : Nat) (left : List Nat) : Prop where
 ex : ∃ xs, H ol = some (.lst xs) ∧ xs.length = left.length ∧ ∀ (j t : Nat), left[j]? = some t → ∃ q, xs[j]? = some (.ref q) ∧ H q = some (.tup [.int (t : Int), zgn (zbc ts (zbq left t) m 9 y n)])
theorem mem_without {il : List Nat} {t i : Nat} : i ∈ zbq il t ↔ i ∈ il ∧ i ≠ t := by
 rw [List.mem_filter]
 simp
theorem zr2 {ts : List Tie} {il jl : List Nat} {m y n : Nat} (ok : ∀ t ∈ ts, t.Ok m) (m9 : m ≤ 9) (S : Stand m y n) (sub : ∀ i ∈ il, i ∈ jl) (h : zcn ts il m y n = true) : zcn ts jl m y n = true := by
 rw [zel ok m9 S] at h ⊢
 intro s sm hs
 have := h s sm hs
 cases e : zbn ts jl s with
 | false => rfl
 | true =>
  have z : zbn ts il s = true := List.all_eq_true.mpr fun i hi => List.all_eq_true.mp e i (sub i hi)
  rw [z] at this
  cases this
theorem zkb {ts : List Tie} {m y n : Nat} {left : List Nat} {t : Nat} (h : zcn ts left m y n = true) : zcn ts (za1 ts m y n left t) m y n = true := by
 unfold za1
 split
 ·next c => exact c
 ·exact h
theorem zjh {ts : List Tie} {m y n : Nat} : ∀ (l left : List Nat), zcn ts left m y n = true → zcn ts (l.foldl (za1 ts m y n) left) m y n = true
 | [], _, h => h
 | t :: l, left, h => zjh l _ (zkb h)
theorem zht {ts : List Tie} {m y n : Nat} (ok : ∀ t ∈ ts, t.Ok m) (m9 : m ≤ 9) (S : Stand m y n) : ∀ (l left : List Nat) (t : Nat), t ∈ l → t ∈ l.foldl (za1 ts m y n) left → zcn ts (zbq (l.foldl (za1 ts m y n) left) t) m y n = false
 | [], _, _, h, _ => nomatch h
 | u :: l, left, t, h, hm => by
  by_cases tl : t ∈ l
  ·exact zht ok m9 S l (za1 ts m y n left u) t tl hm
  ·have e : t = u := by
    rcases List.mem_cons.mp h with z | z
    ·exact z
    ·exact absurd z tl
   subst e
   have sub := zea (ts := ts) (m := m) (y := y) (n := n) l (za1 ts m y n left t)
   have hm2 : t ∈ za1 ts m y n left t := sub.subset hm
   have c : ¬ zcn ts (zbq left t) m y n = true := fun c => by
    unfold za1 at hm2
    rw [if_pos c] at hm2
    exact (mem_without.mp hm2).2 rfl
   refine Bool.eq_false_iff.mpr fun z => c (zr2 ok m9 S (fun i hi => ?_) z)
   obtain ⟨a, b⟩ := mem_without.mp hi
   exact mem_without.mpr ⟨leastStep_sub.subset (sub.subset a), b⟩
theorem leastL_sub {ts : List Tie} {m y n : Nat} : (zbf ts m y n).Sublist (zcd ts) := zea _ _
theorem zn3 {ts : List Tie} {m y n : Nat} (h : zcn ts (zcd ts) m y n = true) : zcn ts (zbf ts m y n) m y n = true := zjh _ _ h
theorem zkv {ts : List Tie} {m y n : Nat} (ok : ∀ t ∈ ts, t.Ok m) (m9 : m ≤ 9) (S : Stand m y n) {t : Nat} (h : t ∈ zbf ts m y n) : zcn ts (zbq (zbf ts m y n) t) m y n = false :=
 zht ok m9 S _ _ t (leastL_sub.subset h) h
theorem zf2 (k : Nat) (op : List Nat) : inV (.int (k : Int)) (zal op) = decide (k ∈ op) := by
 induction op with
 | nil => rfl
 | cons a r ih =>
  have e : inV (.int (k : Int)) (zal (a :: r)) = (eqV (.int (a : Int)) (.int (k : Int)) || inV (.int (k : Int)) (zal r)) := rfl
  rw [e, ih]
  have e2 : eqV (.int (a : Int)) (.int (k : Int)) = decide (k = a) := by
   show ((a : Int) == (k : Int)) = _
   by_cases z : k = a
   ·subst z; simp
   ·rw [decide_eq_false z]
    simpa using fun h => z (by omega)
  rw [e2]
  simp [List.mem_cons, Bool.decide_or]
theorem zgf (op : List Nat) : (zal op).all zho = true := by
 rw [List.all_eq_true]
 intro x hx
 obtain ⟨i, _, rfl⟩ := List.mem_map.mp hx
 rfl
end Wd
set_option maxRecDepth 100000
set_option maxHeartbeats 4000000
namespace L2
open PySem PySem.Spec PyProof.Rows
def zom (f : Addr) (qual : Str) (params : Arguments) (body : Expr) (scope : Scope) (cl : List (Str × Addr)) (c : Addr) : Heap → Prop :=
 fun h => ∃ (pm ctv : Value), h.get? f = some (PySem.W.kla_obj "<lambda>" qual params body scope cl pm c ctv)
structure zi4 (mg : Str → Option Value) (base : Heap) (c P : Addr) : Prop where
 code : PySem.W.CodeHd base c P
 blt : ∃ bm ob, mg "__builtins__" = some (.ref bm) ∧ bm ≠ builtinsNs ∧ base.get? bm = some ob ∧ ob.cls = .type "module" ∧ ob.dict = some builtinsNs ∧ ob.data = .plain
theorem zpv {P : Program} {w : World} {H : Hp} {h : Heap} {a : Addr} {φ : Heap → Prop} (hH : H a = some (.ext φ)) (ok : HOk P w H h) : φ h := (ok a _ hH).1
section
variable {X : Cx} {params : Arguments} {body : Expr} {scope : Scope} {pos : Pos} {c P : Addr}
theorem zwj (hc : X.env.code = .ref c) (B : zi4 X.mg X.base c P) (hdef : defaultsOf params X.env = ([], [])) (hfr : ∀ y ∈ scope.names, y.2 = .free → ∃ c, X.env.cells.lookup y.1 = some c) :
  PE X (.Lambda params body scope pos) (fun σ H Q => zcw H P ∧ ∀ (f c' : Addr) (H1 : Hp), H f = none → Same H H1 →
   H1 f = some (.ext (zom f (X.env.qual ++ "<lambda>") params body scope (zf4 scope X.env) c')) → H1 c' = some (.ext (zgq c')) → Q (.ref f) H1) := by
 intro pins s σ H Q I hq
 obtain ⟨⟨ps, hP, tr, hps⟩, q⟩ := hq
 refine PySem.W.kla_eval hdef ?_
 have hP' : s.heap.get? P = some (PySem.W.tabObj ps) := I.hok P _ hP
 have hg : s.heap.Ns mainGlobals X.mg := I.mod.glob.keeps I.bk
 have C : PySem.W.CodeHd s.heap c P := B.code.keeps I.bk
 have hgP : mainGlobals ≠ P := fun z => by
  obtain ⟨o, es, ep, e, hd, _⟩ := hg
  rw [z, hP'] at e; cases e; cases hd
 have hb : s.heap.BuiltinsAt X.mg P := by
  obtain ⟨bm, ob, b1, b2, b3, b4, b5, b6⟩ := B.blt
  have b3' := I.bk _ _ b3
  refine ⟨bm, ob, b1, b2, fun z => ?_, fun z => ?_, b3', b4, b5, b6⟩
  ·obtain ⟨o, es, ep, e, hd, _⟩ := hg
   rw [z, e] at b3'; cases b3'; rw [hd] at b6; cases b6
  ·rw [z, hP'] at b3'; cases b3'; cases b4
 have hcl : closureFor scope X.env = pure (zf4 scope X.env) := zqc hfr
 rcases hps pos with hnf | ⟨c', hf, hc'⟩
 ·refine PySem.W.kla_makeFunction hcl I.ok.glob hg hc C hP' tr hnf hgP hb fun c' ctv h' tk hx hge hlt hrec htb => ?_
  have szP : P < s.heap.objs.size := Heap.lt_size hP'
  have hcn : H c' = none := I.hok.fresh hge
  have hfn : H h'.objs.size = none := I.hok.fresh (Nat.le_trans hge (Nat.le_of_lt hlt))
  have cf : c' ≠ h'.objs.size := Nat.ne_of_lt hlt
  have cP : c' ≠ P := Nat.ne_of_gt (Nat.lt_of_lt_of_le szP hge)
  have fP : h'.objs.size ≠ P := Nat.ne_of_gt (Nat.lt_of_lt_of_le szP (Nat.le_trans hge (Nat.le_of_lt hlt)))
  have keep : ∀ b o, b ≠ P → s.heap.get? b = some o → (h'.push (PySem.W.kla_obj "<lambda>" (X.env.qual ++ "<lambda>") params body scope (zf4 scope X.env) ((X.mg "__name__").getD .none) c' ctv)).get? b = some o := fun b o hb e => Heap.get?_push_of_some _ (hx b o hb e)
  obtain ⟨c2, oc, vs, t, e2, hoc, hd, hv⟩ := hrec
  cases e2
  let H1 : Hp := upd (upd (upd H P (.tbl (ps ++ #[rawInt pos.line, rawInt pos.col, .ref c']))) c' (.ext (zgq c'))) h'.objs.size (.ext (zom h'.objs.size (X.env.qual ++ "<lambda>") params body scope (zf4 scope X.env) c'))
  have H1f : H1 h'.objs.size = some (.ext (zom h'.objs.size (X.env.qual ++ "<lambda>") params body scope (zf4 scope X.env) c')) := zab
  have H1c : H1 c' = some (.ext (zgq c')) := by show upd _ _ _ c' = _; rw [zak cf, zab]
  have H1P : H1 P = some (.tbl (ps ++ #[rawInt pos.line, rawInt pos.col, .ref c'])) := by show upd _ _ _ P = _; rw [zak (Ne.symm fP), zak (Ne.symm cP), zab]
  have H1o : ∀ b, b ≠ h'.objs.size → b ≠ c' → b ≠ P → H1 b = H b := fun b n1 n2 n3 => by show upd _ _ _ b = _; rw [zak n1, zak n2, zak n3]
  have old : ∀ b u, H b = some u → b ≠ h'.objs.size ∧ b ≠ c' := fun b u e => ⟨zas e hfn, zas e hcn⟩
  have oldE : ∀ b, H b = some (.ext (zgq b)) → H1 b = some (.ext (zgq b)) := fun b e => by rw [H1o b (old b _ e).1 (old b _ e).2 (fun z => by rw [z, hP] at e; cases e)]; exact e
  have tabs : zcw H1 P := ⟨_, H1P, by rw [Array.toList_append]; exact TriplesOk_snoc _ _ _ _ tr, fun p' => by
   rw [Array.toList_append]
   rcases zkg (pos := p') (pos' := pos) (c := .ref c') ps.toList tr with z | z
   ·rcases hps p' with y | ⟨d, y1, y2⟩
    ·exact .inl (z.trans y)
    ·exact .inr ⟨d, z.trans y1, oldE d y2⟩
   ·exact .inr ⟨c', z, H1c⟩⟩
  have same : Same H H1 := fun b o e => by
   by_cases hbP : b = P
   ·subst hbP
    rw [hP] at e
    cases e
    exact ⟨⟨_, H1P⟩, fun _ => tabs⟩
   ·exact Kp.of e (by rw [H1o b (old b _ e).1 (old b _ e).2 hbP]; exact e) oldE
  have un : Un X.fs [] H H1 s.heap (h'.push (PySem.W.kla_obj "<lambda>" (X.env.qual ++ "<lambda>") params body scope (zf4 scope X.env) ((X.mg "__name__").getD .none) c' ctv)) := by
   have np : ∀ b, H b = none → b ≠ P := fun b n z => by rw [z, hP] at n; cases n
   refine ⟨fun b o e n _ _ => keep b o (np b n) e, fun b o e n _ _ => ⟨o.slots, keep b o (np b n) e⟩, fun b o e n _ => ?_, fun b o e _ => ?_, fun b xs e => ?_, fun b o u e => ?_, fun b qs e => ?_⟩
   ·have l := Heap.lt_size e
    rw [H1o b (Nat.ne_of_lt (Nat.lt_trans (Nat.lt_of_lt_of_le l hge) hlt)) (Nat.ne_of_lt (Nat.lt_of_lt_of_le l hge)) (np b n)]
    exact n
   ·by_cases hbP : b = P
    ·subst hbP
     exact ⟨_, Heap.get?_push_of_some _ htb⟩
    ·exact ⟨o, keep b o hbP e⟩
   ·rw [H1o b (old b _ e).1 (old b _ e).2 (fun z => by rw [z, hP] at e; cases e)]
    exact e
   ·rw [H1o b (old b _ e).1 (old b _ e).2 (fun z => by rw [z, hP] at e; cases e)]
    exact e
   ·by_cases hbP : b = P
    ·subst hbP
     rw [hP] at e
     cases e
     exact ⟨_, H1P⟩
    ·exact ⟨#[], by rw [H1o b (old b _ e).1 (old b _ e).2 hbP, e]; simp⟩
  have hok : HOk X.prog X.w H1 (h'.push (PySem.W.kla_obj "<lambda>" (X.env.qual ++ "<lambda>") params body scope (zf4 scope X.env) ((X.mg "__name__").getD .none) c' ctv)) := fun b u e => by
   by_cases h1 : b = h'.objs.size
   ·subst h1
    rw [H1f] at e
    cases e
    exact ⟨⟨_, _, Heap.get?_push_size _ rfl⟩, ⟨_, Heap.get?_push_size _ rfl⟩, fun h1 h2 ⟨pm, cv, z⟩ k => ⟨pm, cv, k _ z⟩⟩
   ·by_cases h2 : b = c'
    ·subst h2
     rw [H1c] at e
     cases e
     exact ⟨⟨oc, vs, _, t, Heap.get?_push_of_some _ hoc, hd, hv⟩, ⟨_, Heap.get?_push_of_some _ hoc⟩, fun h1 h2 ⟨o, v, qq, tt, z1, z2, z3⟩ k => ⟨o, v, qq, tt, k _ z1, z2, z3⟩⟩
    ·by_cases h3 : b = P
     ·subst h3
      rw [H1P] at e
      cases e
      exact Heap.get?_push_of_some _ htb
     ·rw [H1o b h1 h2 h3] at e
      refine (I.hok b u e).stay (fun b' o' hb' e' => ?_) (fun b' e' => ?_) fun b' xs e' => ?_
      ·refine keep b' o' ?_ e'
       rcases hb' with z | z
       ·rw [z]; exact h3
       ·intro z2; rw [z2, hP] at z; cases z
      ·rw [H1o b' (old b' _ e').1 (old b' _ e').2 (fun z => by rw [z, hP] at e'; cases e')]; exact e'
      ·rw [H1o b' (old b' _ e').1 (old b' _ e').2 (fun z => by rw [z, hP] at e'; cases e')]; exact e'
  exact ⟨.ref h'.objs.size, H1, I.un un hok, rfl, q _ c' H1 hfn same H1f H1c⟩
 ·refine PySem.W.kla_makeFunctionHit hcl I.ok.glob hg hc C hP' tr hf hb fun ctv h' tk hk hsz => ?_
  have hfn : H h'.objs.size = none := I.hok.fresh hsz
  have keep : ∀ b o, s.heap.get? b = some o → (h'.push { cls := .type "function", data := .func (PySem.W.kla_fn "<lambda>" (X.env.qual ++ "<lambda>") params body scope (zf4 scope X.env) ((X.mg "__name__").getD .none) (.ref c') ctv) }).get? b = some o := fun b o e => Heap.get?_push_of_some _ (hk b o e)
  have same : Same H (upd H h'.objs.size (.ext (zom h'.objs.size (X.env.qual ++ "<lambda>") params body scope (zf4 scope X.env) c'))) := zmh fun b u e => by rw [zak (zas e hfn)]; exact e
  refine ⟨.ref h'.objs.size, _, I.un (Un.laid keep hsz hfn) (I.hok.laid keep hsz ?_), rfl, q _ c' _ hfn same zab (same c' _ hc')⟩
  exact ⟨⟨_, _, Heap.get?_push_size _ rfl⟩, ⟨_, Heap.get?_push_size _ rfl⟩, fun h1 h2 ⟨pm, cv, z⟩ k => ⟨pm, cv, k _ z⟩⟩
end
def zd4 (h : Heap) (H : Hp) (st : List Env) : Heap := PySem.W.hideAll h (trk h H ++ frs st)
section
variable {X : Cx} {pins : List (Addr × Obj)} {σ : St} {H : Hp} {s : Shared}
theorem zkt {h : Heap} {H : Hp} {st : List Env} {b : Addr} {o : Obj} (e : (zd4 h H st).get? b = some o) : h.get? b = some o ∧ H b = none ∧ b ∉ frs st := by
 have e' : h.get? b = some o := PySem.W.of_hideAll _ e
 refine ⟨e', ?_, fun z => ?_⟩
 ·cases q : H b with
  | none => rfl
  | some x =>
   have hm : b ∈ trk h H := List.mem_filter.mpr ⟨List.mem_range.mpr (Heap.lt_size e'), by simp [q]⟩
   have z : (zd4 h H st).get? b = none := PySem.W.hideAll_none _ (List.mem_append_left _ hm)
   rw [z] at e; cases e
 ·have y : (zd4 h H st).get? b = none := PySem.W.hideAll_none _ (List.mem_append_right _ z)
  rw [y] at e; cases e
theorem zit {h : Heap} {H : Hp} {st : List Env} {b : Addr} {o : Obj} (e : h.get? b = some o) (n : H b = none) (hf : b ∉ frs st) : (zd4 h H st).get? b = some o :=
 PySem.W.hideAll_get _ e fun hm => by
  rcases List.mem_append.mp hm with z | z
  ·have q : (H b).isSome = true := (List.mem_filter.mp z).2
   rw [n] at q; simp at q
  ·exact hf z
theorem Inv.noStk (I : Inv X pins σ H s) {b : Addr} {o : Obj} (e : X.base.get? b = some o) : b ∉ frs X.stack := fun hb => by
 have := (I.stack.mem hb).1
 rw [e] at this; cases this
theorem Inv.now (I : Inv X pins σ H s) : Env0 X.prog X.w X.K X.mg (zd4 s.heap H X.stack) X.A X.stack s H := by
 have up : ∀ b o, X.base.get? b = some o → (zd4 s.heap H X.stack).get? b = some o := fun b o e => zit (I.bs b o e).1 (I.bs b o e).2 (I.noStk e)
 obtain ⟨mb, h1, h2⟩ := I.mod.blt
 refine ⟨I.ok.frames, ⟨I.mod.kin.keeps up, I.mod.glob.keeps up, ⟨mb, h1.keeps up, h2⟩, I.mod.nolimit.keeps up⟩, fun b o e => ⟨(zkt e).1, (zkt e).2.1⟩, Nat.le_of_eq (PySem.W.hideAll_size _ _), ?_, I.stkFree, I.hok, I.bare⟩
 have go : ∀ l : List Env, (∀ b ∈ frs l, b ∈ frs X.stack) → s.heap.FunFrames X.base l → s.heap.FunFrames (zd4 s.heap H X.stack) l := by
  intro l
  induction l with
  | nil => intro _ _; trivial
  | cons env r ih =>
   intro hs hl
   obtain ⟨hk, ⟨L, o, hf, hn, ho, hd⟩, hr⟩ := hl
   have hL : L ∈ frs X.stack := hs L (by unfold frs; rw [List.filterMap_cons, hf]; exact List.mem_cons_self)
   refine ⟨hk, ⟨L, o, hf, ?_, ho, hd⟩, ih (fun b hb => hs b (by unfold frs; rw [List.filterMap_cons, hf]; exact List.mem_cons_of_mem _ hb)) hr⟩
   exact PySem.W.hideAll_none _ (List.mem_append_right _ hL)
 exact go X.stack (fun _ h => h) I.stack
theorem Inv.nowCell (I : Inv X pins σ H s) {x : Str} {c : Addr} {v : Option Value} (hf : X.fn x = true) (hc : X.env.cells.lookup x = some c) (h : s.heap.IsCell c v) : (zd4 s.heap H X.stack).IsCell c v := by
 obtain ⟨o, ho, hd⟩ := h
 refine ⟨o, zit ho (I.freeC x c hc) fun z => ?_, hd⟩
 rcases List.mem_cons.mp (I.stkSub c z) with e | e
 ·exact I.cne x c hc e
 ·obtain ⟨_, ob, e2, _⟩ := I.ok.funs.mem e
  exact absurd (Nat.lt_of_lt_of_le (Heap.lt_size e2) (I.ok.cab x c hf hc)) (Nat.lt_irrefl _)
end
section
variable {X : Cx} {k : Nat} {f : Addr} {fd : FuncData} {ps : List Str} {x : Str} {p pos : Pos} {e : Expr} {es : List Expr} {t : TA}
def zqp (X : Cx) (σ : St) (base : Heap) : Prop := ∀ (i : Nat) (y : Str) (v : V), X.N[i]? = some y → σ[i]? = some (some v) → X.env.kindOf y = some .cell → ∃ c u, X.env.cells.lookup y = some c ∧ RelV v u ∧ base.IsCell c (some u)
theorem zud (hr : Room k X.A) (hg : Gl X x) (hm : X.mg x = some (.ref f)) (hk : PySem.W.keepIn X.K (.ref f) = true) (hb : Binds X.K fd ps []) (hfn : ∀ y, X.fn y = true)
  (ha : PA X (e :: es) t) (hdb : (x == ("__debug__" : Str)) = false := by decide) (he : starEach (e :: es) X.env = (false, eval e X.env) :: starEach es X.env := by rfl) (hpl : (backTo pos (starEach es X.env)).any (·.1) = false := by rfl) :
  PE X (.Call (.Name x p) (e :: es) [] pos) (fun σ H Q => t σ H fun vs H1 => ∀ base : Heap, zqp X σ base → X.K.In base → base.Ns mainGlobals X.mg → ∃ sp : Sp, FnOk X.prog X.w X.K X.mg base CX0 k f fd ps sp ∧ sp vs H1 Q E0) := by
 intro pins s σ H Q I h
 refine wpAny_Call_Name_kw (zmr I hg hm ?_ hdb)
 refine PySem.W.callWith_K (h₀ := X.base) I.ok.mod.kin hk (thn (ha pos pins s σ H _ I h) fun us s1 ⟨vs, H1, I1, r, q⟩ => ⟨I1.kIn, ?_⟩) he hpl
 have e0 := I1.now
 have ci : zqp X σ (zd4 s1.heap H1 X.stack) := fun i y v hN hv hk => by
  obtain ⟨m, hn, hl⟩ := I1.loc
  obtain ⟨u, ru, l⟩ := hl i y v hN hv (.inr (.inl hk))
  rcases l with ⟨hk', _⟩ | ⟨_, c, hc, hcell⟩
  ·rw [hk] at hk'; cases hk'
  ·exact ⟨c, u, hc, ru, I1.nowCell (hfn y) hc hcell⟩
 obtain ⟨sp, F, hs⟩ := q _ ci e0.mod.kin e0.mod.glob
 have hl : us.length = ps.length := by rw [← r.length]; exact F.len _ _ _ _ hs
 have hbb := hb s1 us I1.kIn (by rw [List.append_nil]; exact hl)
 rw [List.append_nil] at hbb
 refine wpAny_call (codeAny_mono (F.run X.A X.stack s1 H1 ⟨us, []⟩ us vs Q E0 hr e0 hbb r hs) fun r s' hq => ?_)
 cases r with
 | error e => exact hq.elim
 | ok fl =>
  cases fl with
  | ret u => exact I1.after hq
  | next => exact False.elim hq
  | brk => exact False.elim hq
  | cont => exact False.elim hq
theorem zt7 {i : Nat} {φ : Heap → Prop} {sp : Sp} (F : FnOk X.prog X.w X.K X.mg X.base CX0 k f fd ps sp) (hr : Room k X.A) (hN : X.N[i]? = some x) (hv : Vis X.env.scope x) (hb : Binds X.K fd ps [])
  (hφ : ∀ h : Heap, φ h → ∃ o fd', h.get? f = some o ∧ o.data = .func fd') (ha : PA X (e :: es) t)
  (hdb : (x == ("__debug__" : Str)) = false := by decide) (hcd : (x == ("__classdict__" : Str)) = false := by decide) (he : starEach (e :: es) X.env = (false, eval e X.env) :: starEach es X.env := by rfl) (hpl : (backTo pos (starEach es X.env)).any (·.1) = false := by rfl) :
  PE X (.Call (.Name x p) (e :: es) [] pos) (fun σ H Q => σ[i]? = some (some (.ref f)) ∧ t σ H fun vs H1 => H1 f = some (.ext φ) ∧ sp vs H1 Q E0) := by
 intro pins s σ H Q I h
 obtain ⟨hσ, h⟩ := h
 refine wpAny_Call_Name_kw (wpAny_mono (zsl hN hv hdb hcd pins s σ H (fun v H' => v = .ref f ∧ H' = H) I ⟨_, hσ, rfl, rfl⟩) (fun u s1 hu => ?_) fun _ _ z => z)
 obtain ⟨v, H', I', rv, e1, e2⟩ := hu
 subst e1
 subst e2
 obtain rfl : u = Value.ref f := rv
 have h2 : wpAny (model X.prog X.w) X.A (spliced (backTo pos (starEach (e :: es) X.env))) (fun vs s₁ => (∃ o fd', s₁.heap.get? f = some o ∧ o.data = .func fd') ∧ wpAny (model X.prog X.w) X.A (call (.ref f) ([] ++ vs)) (EP X pins σ Q) X.xe s₁) X.xe s1 := by
  refine thn (ha pos pins s1 σ _ _ I' h) fun us s2 ⟨vs, H1, I1, r, e3, q⟩ => ⟨hφ _ (zpv e3 I1.hok), ?_⟩
  have hq := zmu (ds := []) (dvs := []) (E := E0) F hr hb .nil zhg I1 r (by rw [List.append_nil]; exact q)
  exact hq
 rw [he] at h2
 show wpAny _ _ (callWith pos (.ref f) [] (backTo pos (starEach (e :: es) X.env)) []) _ _ s1
 rw [he]
 refine PySem.W.callWith_of (by show ((false || (backTo pos (starEach es X.env)).any (·.1)) || false) = false; rw [hpl]; rfl) (P := fun h => ∃ o fd', h.get? f = some o ∧ o.data = .func fd') (fun h ⟨o, fd', e1, e2⟩ => ?_) (Calls.evalArgs_plain h2)
 obtain ⟨oc, od, od', os⟩ := o
 cases e2
 exact ⟨.frame, .inl rfl, (PySem.W.Looks.ld (part := none) e1).andThen .now⟩
end
structure zol (ps fr : List Str) (sc : Scope) : Prop where
 kind : sc.kind = .function
 co : sc.isCoroutine = false
 gen : sc.isGenerator = false
 nd : ps.Nodup
 par : ∀ x ∈ ps, sc.names.lookup x = some .local
 fre : ∀ x ∈ fr, sc.names.lookup x = some .free
 nocell : ∀ y ∈ sc.names, y.2 ≠ .cell
theorem zkk {ps : List Str} {us : List Value} {i : Nat} {x : Str} {u : Value} (nd : ps.Nodup) (h1 : ps[i]? = some x) (h2 : us[i]? = some u) : (ps.zip us).reverse.lookup x = some u := by
 have hm : (x, u) ∈ (ps.zip us).reverse := List.mem_reverse.mpr (List.mem_of_getElem? (i := i) (by rw [List.getElem?_zip_eq_some]; exact ⟨h1, h2⟩))
 obtain ⟨c, hc⟩ := zf5 hm
 have h3 := List.mem_reverse.mp (PySem.mem_of_lookup hc)
 obtain ⟨j, hj⟩ := List.getElem?_of_mem h3
 rw [List.getElem?_zip_eq_some] at hj
 have hij : j = i := by
  obtain ⟨l1, e1⟩ := List.getElem?_eq_some_iff.mp h1
  obtain ⟨l2, e2⟩ := List.getElem?_eq_some_iff.mp hj.1
  rw [List.nodup_iff_pairwise_ne, List.pairwise_iff_getElem] at nd
  rcases Nat.lt_trichotomy j i with z | z | z
  ·exact absurd (e2.trans e1.symm) (nd j i l2 l1 z)
  ·exact z
  ·exact absurd (e1.trans e2.symm) (nd i j l1 l2 z)
 rw [hij, h2] at hj
 rw [hc, hj.2]
def ztz (P : Program) (w : World) (K : PySem.W.Frag) (mg : Str → Option Value) (base : Heap) (N : List Str) (q : Str) (scope : Scope) (f c : Addr) (cl : List (Str × Addr)) (A : Around) (outer : List Env) (s : Shared) (H : Hp) : Cx where
 prog := P
 w := w
 K := K
 mg := mg
 base := base
 A := A.deeper (PySem.W.envX q scope s.heap.objs.size f (.ref c) cl)
 N := N
 s₀ := s
 H₀ := H
 env := PySem.W.envX q scope s.heap.objs.size f (.ref c) cl
 outer := outer
 stack := PySem.W.envX q scope s.heap.objs.size f (.ref c) cl :: outer
 ex := []
 calm := true
 fn := fun _ => false
 pn := []
 xe := fun _ _ => False
theorem zth {prog : Program} {w : World} {A : Around} {R : Result → Shared → Prop} {s : Shared} {a : Addr} {args : Args} {o : Obj} {fd : FuncData} {body : Expr} {q : Str} (hroom : A.depth < recursionLimit)
  (ho : s.heap.get? a = some o)
  (hd' : o.data = .func fd) (hco : fd.scope.isCoroutine = false) (hgen : fd.scope.isGenerator = false) (hbody : fd.body = .expr body) (hcd : ∃ c oc vs t, fd.code = .ref c ∧ s.heap.get? c = some oc ∧ oc.data = .fields vs ∧ vs[1]? = some (.str q t))
  (h : wpAny (model prog w) A.in1 (bindArgs fd args) (fun binds s₁ =>
   wpAny (model prog w) A.in1 (newFunctionEnv fd.scope fd.globals fd.closure binds (q ++ ".<locals>.") (some a) fd.code none fd.builtins)
    (fun env s₂ => s₂.heap.NoLimit ∧ codeAny (model prog w) A (.expr body env) R s₂) (fun e s' => R (.error e) s') s₁) (fun e s' => R (.error e) s') s) :
  codeAny (model prog w) A (.call (.ref a) args) R s := by
 refine codeAny_of_tree ?_
 show wpAny _ A.in1 (callAny (.ref a) args) _ _ s
 simp only [callAny]
 refine wpAny_bind (wpAny_load ho ?_)
 obtain ⟨c, oc, vs, tq, hc, hoc, hdc, hq⟩ := hcd
 simp only [hd', callFunction, hco, hgen, hbody, hc]
 rw [hc] at h
 refine wpAny_bind (m := field (.ref c) 1) (wpAny_field hoc hdc hq (wpAny_bind (wpAny_pure ?_)))
 exact wpAny_bind (wpAny_mono h (fun binds s₁ h₁ => wpAny_bind (wpAny_mono h₁ (fun env s₂ h₂ => wpAny_bind (wpAny_enterFrame h₂.1 hroom
  (wpAny_pure (And.intro rfl h₂.2)))) fun _ _ h' => h')) fun _ _ h' => h')
theorem zxj {P : Program} {w : World} {K : PySem.W.Frag} {mg : Str → Option Value} {base : Heap} {f c : Addr} {qual : Str} {params : Arguments} {body : Expr} {scope : Scope} {cl : List (Str × Addr)} {ps fr : List Str} {fv : List V} {k : Nat} {sp : Sp}
  (S : zol ps fr scope) (hcl : ∀ x cc, cl.lookup x = some cc → ∃ v, base.IsCell cc v) (inj : ∀ x y cc, cl.lookup x = some cc → cl.lookup y = some cc → x = y) (has : ∀ y ∈ scope.names, y.2 = .free → ∃ cc, cl.lookup y.1 = some cc)
  (hfv : ∀ (i : Nat) (x : Str) (v : V), fr[i]? = some x → fv[i]? = some v → ∃ cc u, cl.lookup x = some cc ∧ RelV v u ∧ base.IsCell cc (some u)) (hlen : fv.length = fr.length)
  (hsame : ∀ pm ctv args, bindArgs (PySem.W.kla_fn "<lambda>" qual params body scope cl pm (.ref c) ctv) args = bindArgs (PySem.W.kla_fn "<lambda>" qual params body scope cl .none (.ref c) .none) args)
  (len : ∀ vs H Q E, sp vs H Q E → vs.length = ps.length)
  (lam : ∀ vs H Q E, sp vs H Q E → H f = some (.ext (zom f qual params body scope cl c)) ∧ H c = some (.ext (zgq c)))
  (hbody : ∀ (q : Str) (A : Around) (outer : List Env) (s : Shared) (H : Hp) (vs : List V) (Q : VK) (E : XK), Room k (A.deeper (PySem.W.envX q scope s.heap.objs.size f (.ref c) cl)) → sp vs H Q E →
   ∃ t, PE (ztz P w K mg base (ps ++ fr) q scope f c cl A outer s H) body t ∧ t (vs.map some ++ fv.map some) H Q) :
  FnOk P w K mg base CX0 (k + 1) f (PySem.W.kla_fn "<lambda>" qual params body scope cl .none (.ref c) .none) ps sp := by
 refine ⟨len, fun A outer s H args us vs Q E hr e0 hb r hsp => ?_⟩
 have hl := len _ _ _ _ hsp
 obtain ⟨hf, hc⟩ := lam _ _ _ _ hsp
 obtain ⟨pm, ctv, ho⟩ := zpv hf e0.hok
 obtain ⟨oc, vsc, q, t, hoc, hdc, hqc⟩ := zpv hc e0.hok
 have lim : s.heap.NoLimit := e0.mod.nolimit.keeps fun b o e => (e0.bs b o e).1
 have toS : ∀ {cc v}, base.IsCell cc v → s.heap.IsCell cc v ∧ H cc = none := fun {cc v} ⟨o, e, d⟩ => ⟨⟨o, (e0.bs _ _ e).1, d⟩, (e0.bs _ _ e).2⟩
 refine zth hr.depth ho rfl S.co S.gen rfl ⟨c, oc, vsc, t, rfl, hoc, hdc, hqc⟩ ?_
 rw [hsame]
 refine hb _ _ _ _ ?_
 have hloc : ∀ y ∈ ps.zip us, scope.names.lookup y.1 = some .local := fun ⟨n, v⟩ hy => S.par n (List.of_mem_zip hy).1
 refine wpAny_newFunctionEnv S.nocell hloc (fun h₁ hns hsb => ?_) S.kind
 have hk₁ : ∀ b o, s.heap.get? b = some o → h₁.get? b = some o := fun b o e => hsb.extBut b o (Nat.ne_of_lt (Heap.lt_size e)) (Heap.get?_push_of_some _ e)
 refine ⟨lim.keeps hk₁, ?_⟩
 obtain ⟨tt, ht, hq⟩ := hbody q A outer s H vs Q E (hr.deeper _) hsp
 have noA : ∀ b : Addr, b ∉ ([] : List Addr) := fun b z => by simp at z
 have kinds : ∀ x, (scope.names.lookup x = some .cell ∨ scope.names.lookup x = some .free) → ∃ cc, cl.lookup x = some cc := fun x hx => by
  rcases hx with z | z
  ·exact absurd rfl (S.nocell _ (PySem.mem_of_lookup z))
  ·exact has _ (PySem.mem_of_lookup z) rfl
 have I : Inv (ztz P w K mg base (ps ++ fr) q scope f c cl A outer s H) [] (vs.map some ++ fv.map some) H { s with heap := h₁, toks := s.toks + (ps.zip us).length } := by
  refine ⟨⟨e0.mod, S.kind, rfl, rfl, Nat.le_refl _, inj, kinds, fun x cc z => (by cases z), fun _ => hr.hd, Around.frames_deeper e0.frames, .inr ⟨rfl, rfl⟩, fun b z => absurd z (noA b), e0.bs, e0.bsz, fun b _ _ => noA b, fun b z => absurd z (noA b), e0.funs, e0.frf⟩,
   rfl, e0.bare, Un.kept hk₁, ⟨_, hns, fun i x v h1 h2 h3 => ?_⟩, fun x cc e => ?_, e0.hok.fresh (Nat.le_refl _), fun x cc e => ?_, fun p hp => absurd (show p ∈ ([] : List (Addr × Obj)) from hp) (by simp), e0.hok.kept hk₁, ?_⟩
  ·have h1' : (ps ++ fr)[i]? = some x := h1
   by_cases hi : i < ps.length
   ·rw [List.getElem?_append_left hi] at h1'
    rw [List.getElem?_append_left (by rw [List.length_map, hl]; exact hi), List.getElem?_map] at h2
    obtain ⟨v', hv, e⟩ := Option.map_eq_some_iff.mp h2
    cases e
    obtain ⟨u, hu, rv⟩ := r.get hv
    exact ⟨u, rv, .inl ⟨S.par x (List.mem_of_getElem? h1'), zkk S.nd h1' hu⟩⟩
   ·rw [List.getElem?_append_right (by omega)] at h1'
    rw [List.getElem?_append_right (by rw [List.length_map, hl]; omega), List.getElem?_map, List.length_map, hl] at h2
    obtain ⟨v', hv, e⟩ := Option.map_eq_some_iff.mp h2
    cases e
    obtain ⟨cc, u, e1, ru, ic⟩ := hfv _ _ _ h1' hv
    exact ⟨u, ru, .inr ⟨.inr (S.fre x (List.mem_of_getElem? h1')), cc, e1, (toS ic).1.keeps hk₁⟩⟩
  ·obtain ⟨v, ic⟩ := hcl x cc e
   exact ⟨v, (toS ic).1.keeps hk₁⟩
  ·obtain ⟨v, ic⟩ := hcl x cc e
   exact (toS ic).2
  ·show (vs.map some ++ fv.map some).length = (ps ++ fr).length
   rw [List.length_append, List.length_append, List.length_map, List.length_map, hl, hlen]
 refine PySem.W.kla_codeExpr (wpAny_mono (ht [] _ _ H _ I hq) (fun u s' hs => ?_) fun e s' hs => hs.elim)
 obtain ⟨v, H', J, rv, qq⟩ := hs
 exact ⟨v, H', J.os, J.bare, J.base, J.hok, rv, qq⟩
theorem Fun.okC {P : Program} {w : World} {K : PySem.W.Frag} {mg : Str → Option Value} {base : Heap} {x qual : Str} {st : Stmt} {f : Addr} {fd : FuncData} {N ps : List Str} {k : Nat} {sp : Sp} (F : Fun K x qual st f fd) (S : zav N ps (zai st)) (len : ∀ vs H Q E, sp vs H Q E → vs.length = ps.length)
  (hbody : ∀ (cdv : Value) (A : Around) (outer : List Env) (s : Shared) (H : Hp) (vs : List V) (Q : VK) (E : XK), fd.code = cdv → Room k (A.deeper (envOfC qual (zai st) s.heap.objs.size f cdv)) → sp vs H Q E →
   ∃ t, PSs (zd0 CX0 P w K mg base N qual (zai st) f cdv A outer s H E).nox (zba st) t ∧ t { nx := fun _ H' => Q .non H', rt := Q } (zhr N vs) H) : FnOk P w K mg base CX0 (k + 1) f fd ps sp := by
 obtain ⟨oc, od, kV, doc, pm, an, cdv, ct, osl, rfl, lk, hcd⟩ := F.ex
 refine zv6 lk hcd S len fun A outer s H vs Q E hr hsp => ?_
 obtain ⟨t, h, q⟩ := hbody cdv A outer s H vs Q E rfl hr hsp
 exact ⟨t, h.nox, q⟩
theorem zrn {P : Program} {w : World} {K : PySem.W.Frag} {mg mb : Str → Option Value} {k : Nat} {fa a : Addr} {fd : FuncData} {x : Str} {sp : Sp} {s₁ : Shared} {vs : List Value} {ns : List Int} {tabs : List (Addr × Addr)}
  (KX : K.In s₁.heap) (hns : s₁.heap.Ns mainGlobals mg) (hb : s₁.heap.Ns builtinsNs mb) (hbb : ∀ x : Str, x ≠ "__name__" → mb x = bootBuiltins x) (hlim : s₁.heap.NoLimit) (hg : s₁.gens = #[])
  (hT : PySem.W.TabsAt tabs s₁.heap) (hK0 : PySem.W.noTabs K = true)
  (hbm : ∃ bm ob, mg "__builtins__" = some (.ref bm) ∧ bm ≠ builtinsNs ∧ s₁.heap.get? bm = some ob ∧ ob.cls = .type "module" ∧ ob.dict = some builtinsNs ∧ ob.data = .plain)
  (ha : s₁.heap.get? a = some { cls := .type "list", data := .seq vs.toArray }) (hi : IntsAre vs ns) (hl : ns.length ≤ sizeLine) (hr : Room k callerA)
  (F : ∀ base : Heap, K.In base → base.Ns mainGlobals mg → (∀ q ∈ tabs, zi4 mg base q.1 q.2) → FnOk P w K mg base CX0 k fa fd [x] sp) (hbind : ∀ (s : Shared) (u : Value), BindsTo s fd ⟨[u], []⟩ [(x, u)])
  (hsp : ∀ H : Hp, (∀ q ∈ tabs, zcw H q.2) → SqL K H a (ns.map V.int) → sp [.ref a] H (fun v _ => v = .bl true) fun _ _ _ => False) :
  codeAny (model P w) callerA (.call (.ref fa) ⟨[.ref a], []⟩) (fun r s' => r = .ok (.ret (.bool true)) ∧ OldK s₁.heap s'.heap ∧ s'.os = s₁.os ∧ AllBare s'.gens) s₁ := by
 have rv := zlf hi
 have lenV := hi.length
 have hPa : ∀ q ∈ tabs, q.2 ≠ a := fun q hq z => by
  have e := (hT q hq).2
  rw [z, ha] at e; cases e
 have hKP : ∀ q ∈ tabs, K.lookup q.2 = none := fun q hq => by
  cases e : K.lookup q.2 with
  | none => rfl
  | some o =>
   have e1 := KX _ _ e
   rw [(hT q hq).2] at e1
   cases e1
   have h2 := List.all_eq_true.mp hK0 (q.2, _) (PySem.W.mem_of_lookupK e)
   exact absurd (show false = true from h2) Bool.false_ne_true
 have core : ∀ H : Hp, (∀ b, H b = none ∨ (∃ o xs, H b = some (.frz o (.lst xs)) ∧ b = a ∧ K.lookup a = none) ∨ (H b = some (.tbl #[]) ∧ b ∈ tabs.map (·.2))) → (∀ q ∈ tabs, H q.2 = some (.tbl #[])) → SqL K H a (ns.map V.int) → HOk P w H s₁.heap →
   codeAny (model P w) callerA (.call (.ref fa) ⟨[.ref a], []⟩) (fun r s' => r = .ok (.ret (.bool true)) ∧ OldK s₁.heap s'.heap ∧ s'.os = s₁.os ∧ AllBare s'.gens) s₁ := by
  intro H hO hTb hS hok
  have noP : ∀ {b : Addr} {o : Obj}, s₁.heap.get? b = some o → o ≠ PySem.W.tabObj #[] → b ≠ a → H b = none := fun {b o} e hne hba => by
   rcases hO b with z | ⟨_, _, _, z, _⟩ | ⟨_, z⟩
   ·exact z
   ·exact absurd z hba
   ·obtain ⟨q, hq, rfl⟩ := List.mem_map.mp z
    rw [(hT q hq).2] at e
    exact absurd (Option.some.inj e).symm hne
  have base_of : ∀ {b : Addr} {o : Obj}, s₁.heap.get? b = some o → H b = none → (zk6 s₁.heap H).get? b = some o := fun e n => ztb e n
  have noA : ∀ {b : Addr} {o : Obj} {es : Array DictEntry} {ep : Nat}, s₁.heap.get? b = some o → o.data = .dict es ep → H b = none := fun {b o es ep} e d => by
   refine noP e (fun z => by rw [z] at d; cases d) fun z => ?_
   subst z
   rw [ha] at e; cases e; cases d
  have nsK : ∀ {b : Addr} {m : Str → Option Value}, s₁.heap.Ns b m → (zk6 s₁.heap H).Ns b m := fun {b m} ⟨o, es, ep, e, d, r⟩ => ⟨o, es, ep, base_of e (noA e d), d, r⟩
  have hKb : K.In (zk6 s₁.heap H) := fun b o e => base_of (KX b o e) (by
   rcases hO b with z | ⟨_, _, _, z, y⟩ | ⟨_, z⟩
   ·exact z
   ·rw [z, y] at e; cases e
   ·obtain ⟨q, hq, rfl⟩ := List.mem_map.mp z
    rw [hKP q hq] at e; cases e)
  have hM : Mod K mg (zk6 s₁.heap H) := ⟨hKb, nsK hns, ⟨mb, nsK hb, hbb⟩, let ⟨mc, h1, h2⟩ := hlim; ⟨mc, nsK h1, h2⟩⟩
  have hL : ∀ q ∈ tabs, zi4 mg (zk6 s₁.heap H) q.1 q.2 := fun q hq => by
   refine ⟨?_, ?_⟩
   ·obtain ⟨o, ws, file, tf, flags, tg, inF, text, tt, e, e1, r⟩ := (hT q hq).1
    refine ⟨o, ws, file, tf, flags, tg, inF, text, tt, base_of e (noP e (fun z => by rw [z] at e1; cases e1) fun z => ?_), e1, r⟩
    rw [z, ha] at e; cases e; exact absurd e1 (by simp)
   ·obtain ⟨bm, ob, b1, b2, b3, b4, b5⟩ := hbm
    refine ⟨bm, ob, b1, b2, base_of b3 (noP b3 (fun z => by rw [z] at b4; cases b4) fun z => ?_), b4, b5⟩
    rw [z, ha] at b3; cases b3; exact absurd b4 (by simp)
  have e0 : Env0 P w K mg (zk6 s₁.heap H) callerA [] s₁ H := ⟨rfl, hM, fun b o e => zvb e, Nat.le_of_eq (zr3 _ _), trivial, fun b hb => absurd (show b ∈ ([] : List Addr) from hb) (by simp), hok, .of_eq hg⟩
  have tk : ∀ q ∈ tabs, zcw H q.2 := fun q hq => ⟨#[], hTb q hq, trivial, fun _ => .inl rfl⟩
  refine codeAny_mono ((F _ hKb (nsK hns) hL).run callerA [] s₁ H ⟨[.ref a], []⟩ [.ref a] [.ref a] _ _ hr e0 (hbind s₁ (.ref a)) (.cons rfl .nil) (hsp H tk hS)) fun r s' h => ?_
  cases r with
  | error e => exact h.elim
  | ok fl =>
   cases fl with
   | next => exact False.elim h
   | brk => exact False.elim h
   | cont => exact False.elim h
   | ret u =>
    obtain ⟨v, H', os, bare, un, hok', r', q⟩ := h
    have q' : v = .bl true := q
    subst q'
    obtain rfl : u = Value.bool true := r'
    have cases3 : ∀ b o, s₁.heap.get? b = some o → s'.heap.get? b = some o ∨ (∃ q ∈ tabs, b = q.2 ∧ ∃ ps, s'.heap.get? b = some (PySem.W.tabObj ps)) := fun b o e => by
     rcases hO b with z | ⟨ob, xs, z, _⟩ | ⟨z, y⟩
     ·exact .inl (un.keep b o e z (by intro z; exact absurd (show b ∈ ([] : List Addr) from z) (by simp)) (by simp))
     ·have z2 := un.frzs b ob _ z
      obtain ⟨e1, _⟩ := hok b _ z
      obtain ⟨e2, _⟩ := hok' b _ z2
      rw [e] at e1; cases e1
      exact .inl e2
     ·obtain ⟨q, hq, rfl⟩ := List.mem_map.mp y
      obtain ⟨more, z2⟩ := un.tbls _ _ z
      exact .inr ⟨q, hq, rfl, _, hok' _ _ z2⟩
    refine ⟨rfl, ⟨fun b o e => ?_, fun b o e => ?_⟩, os, bare⟩
    ·rcases cases3 b o e with z | ⟨q, hq, rfl, ps, z⟩
     ·exact .inl z
     ·have e2 := (hT q hq).2
      rw [e] at e2
      cases e2
      exact .inr (.inl ⟨((hT q hq).1.tab (hT q hq).2).isCodeTable, rfl, #[], ps, rfl, by rw [Array.empty_append]; exact z⟩)
    ·rcases cases3 b o e with z | ⟨q, hq, rfl, ps, z⟩
     ·exact ⟨_, z⟩
     ·exact ⟨_, z⟩
 have memT : ∀ b, b ∈ tabs.map (·.2) → s₁.heap.get? b = some (PySem.W.tabObj #[]) := fun b hb => by
  obtain ⟨q, hq, rfl⟩ := List.mem_map.mp hb
  exact (hT q hq).2
 cases hk : K.lookup a with
 | some o =>
  have e := KX a o hk
  rw [ha] at e
  cases e
  refine core (fun b => if b ∈ tabs.map (·.2) then some (.tbl #[]) else none) (fun b => ?_) (fun q hq => if_pos (List.mem_map_of_mem hq)) (.inr ⟨_, vs.toArray, _, hk, rfl, rfl, rfl, by rw [List.size_toArray, lenV]; exact hl, by simpa using rv⟩) (fun b u z => ?_)
  ·by_cases hb : b ∈ tabs.map (·.2)
   ·exact .inr (.inr ⟨if_pos hb, hb⟩)
   ·exact .inl (if_neg hb)
  ·by_cases hb : b ∈ tabs.map (·.2)
   ·have z' := (if_pos hb).symm.trans z
    cases z'
    exact memT b hb
   ·have z' := (if_neg hb).symm.trans z
    cases z'
 | none =>
  refine core (fun b => if b = a then some (.frz { cls := .type "list", data := .seq vs.toArray } (.lst (ns.map V.int))) else if b ∈ tabs.map (·.2) then some (.tbl #[]) else none) (fun b => ?_) (fun q hq => ?_) (.inl (.inr ⟨{ cls := .type "list", data := .seq vs.toArray }, if_pos rfl⟩)) (fun b u z => ?_)
  ·by_cases hb : b = a
   ·exact .inr (.inl ⟨_, _, if_pos hb, hb, hk⟩)
   ·by_cases hb2 : b ∈ tabs.map (·.2)
    ·exact .inr (.inr ⟨(if_neg hb).trans (if_pos hb2), hb2⟩)
    ·exact .inl ((if_neg hb).trans (if_neg hb2))
  ·exact (if_neg (hPa q hq)).trans (if_pos (List.mem_map_of_mem hq))
  ·by_cases hb : b = a
   ·have z' := (if_pos hb).symm.trans z
    cases z'
    subst hb
    exact ⟨ha, by rw [List.length_map]; exact hl, vs, _, rv, ha⟩
   ·have z1 := (if_neg hb).symm.trans z
    by_cases hb2 : b ∈ tabs.map (·.2)
    ·have z' := (if_pos hb2).symm.trans z1
     cases z'
     exact memT b hb2
    ·have z' := (if_neg hb2).symm.trans z1
     cases z'
theorem walk_ofT {l : PySem.W.OpenLaw} {n k : Nat} {q : Program} {loose : List Str} {XP : (Str → Option Value) → Heap → Prop} {YP : World → Heap → Prop} {d : DefRec} {K : Params → PySem.W.Frag} {sp : World → Sp} {x : Str} {tabs : World → List (Addr × Addr)}
  (hn : l.most = some n) (hn2 : n ≤ sizeLine) (hdf : d.params.defaults = []) (hr : Room k callerA)
  (hY : ∀ (w : World) (h : Heap), YP w h → (K w.params).In h) (hK0 : ∀ w : World, PySem.W.noTabs (K w.params) = true)
  (hT : ∀ (w : World) (h : Heap), YP w h → PySem.W.TabsAt (tabs w) h)
  (F : ∀ (w : World) (mg : Str → Option Value) (fa : Addr) (h : Heap), (K w.params).In h → h.Ns mainGlobals mg → mg d.name = some (.ref fa) →
   ∃ fd : FuncData, (∀ (s : Shared) (u : Value), BindsTo s fd ⟨[u], []⟩ [(x, u)]) ∧
    ∀ base : Heap, (K w.params).In base → base.Ns mainGlobals mg → (∀ p ∈ tabs w, zi4 mg base p.1 p.2) → FnOk l.prog w (K w.params) mg base CX0 k fa fd [x] (sp w))
  (hsp : ∀ (w : World) (H : Hp) (a : Addr) (ns : List Int), ns.length ≤ n → (∀ p ∈ tabs w, zcw H p.2) → SqL (K w.params) H a (ns.map V.int) → sp w [.ref a] H (fun v _ => v = .bl true) fun _ _ _ => False) :
  PySem.W.WalkO q loose XP YP l.row.toRowW d [] (fun f vs => PySem.call f vs) := by
 refine Att.attach_call hn hdf fun w s₀ s₁ mg mb fa o pm cd doc a vs ns G Y ho hd hcd hmg hobj hints hlen hg => ?_
 have KX := hY w _ Y
 obtain ⟨fd, hb, hF⟩ := F w mg fa _ KX G.T.g hmg
 have hTT := hT w _ Y
 exact zrn KX G.T.g G.T.b G.T.builtins G.T.nolimit hg hTT (hK0 w) G.T.bmain hobj hints (Nat.le_trans hlen hn2) hr hF hb fun H hO hS => hsp w H a ns hlen hO hS
def zqg : Expr → Expr
 | .Call _ args _ _ => args.getLastD (.Constant .none 0 ⟨0, 0, 0, 0⟩)
 | e => e
def zos : Expr → Scope
 | .Lambda _ _ sc _ => sc
 | _ => { kind := .function, names := [], isGenerator := false, isCoroutine := false }
theorem zgx {x y : Str} {c cc : Addr} (h : [(y, c)].lookup x = some cc) : x = y ∧ cc = c := by
 have m := PySem.mem_of_lookup h
 rw [List.mem_singleton] at m
 cases m
 exact ⟨rfl, rfl⟩
end L2
set_option maxRecDepth 100000
set_option maxHeartbeats 4000000
namespace Wd
open PySem L2 Ow
theorem zyz {b : Bool} {A B : Prop} (hb : b = true) (h : A) : if b = true then A else B := by
 rw [if_pos hb]
 exact h
theorem zqi {b : Bool} {A B : Prop} (hb : b = false) (h : B) : if b = true then A else B := by
 rw [if_neg (by rw [hb]; simp)]
 exact h
def spT (P0 : Addr) (sp : Sp) : Sp := fun vs H Q E => zcw H P0 ∧ sp vs H Q E
def zfo (ts : List Tie) (il : List Nat) (m : Nat) (leaf : Nat → Nat → Option PyData) : Nat → Nat → Nat → PyData
 | f, y, n => match za5 ts il y n with
  | some t => .tuple [.str ("broken" : Str), .int (t : Int)]
  | none => match leaf y n with
   | some d => d
   | none => match zay m y n, f with
    | k :: _, f + 1 => .tuple [.str ("split" : Str), .int (k : Int), zfo ts il m leaf f (y ||| 2 ^ k) n, zfo ts il m leaf f y (n ||| 2 ^ k)]
    | _, _ => .tuple []
section
variable {ts : List Tie} {il : List Nat} {m f y n : Nat} {leaf : Nat → Nat → Option PyData}
theorem zhm {i : Nat} (hb : za5 ts il y n = some i) : zfo ts il m leaf f y n = .tuple [.str ("broken" : Str), .int (i : Int)] := by
 unfold zfo
 simp [hb]
theorem zjm {d : PyData} (hb : za5 ts il y n = none) (hl : leaf y n = some d) : zfo ts il m leaf f y n = d := by
 unfold zfo
 simp [hb, hl]
theorem zix {k : Nat} {r : List Nat} (hb : za5 ts il y n = none) (hl : leaf y n = none) (ho : zay m y n = k :: r) : zfo ts il m leaf (f + 1) y n = .tuple [.str ("split" : Str), .int (k : Int), zfo ts il m leaf f (y ||| 2 ^ k) n, zfo ts il m leaf f y (n ||| 2 ^ k)] := by
 conv => lhs; unfold zfo
 simp only [hb, hl, ho]
end
def zlc (leaf : Nat → Nat → Option PyData) (y n : Nat) (H : Hp) (v : V) : Prop := match leaf y n with
 | none => v = .non
 | some d => Dn H d v ∧ ∃ p, v = .ref p
def zwq (C : Hp → Prop) (leaf : Nat → Nat → Option PyData) : Sp := fun vs H Q _ => ∃ y n : Nat, vs = [.int y, .int n] ∧ C H ∧ ∀ (v : V) (H' : Hp), Same H H' → zlc leaf y n H' v → Q v H'
def EndsR (ts : List Tie) (il : List Nat) (m : Nat) (leaf : Nat → Nat → Option PyData) (y n : Nat) : Prop := ∃ R : Nat → Nat → Prop, R y n ∧ (∀ y n k, R y n → k ∈ zay m y n → R (y ||| 2 ^ k) n ∧ R y (n ||| 2 ^ k)) ∧ ∀ y n, R y n → za5 ts il y n = none → zay m y n = [] → leaf y n ≠ none
theorem EndsR.all {ts : List Tie} {il : List Nat} {m : Nat} {leaf : Nat → Nat → Option PyData} (h : ∀ y n, za5 ts il y n = none → zay m y n = [] → leaf y n ≠ none) (y n : Nat) : EndsR ts il m leaf y n := ⟨fun _ _ => True, trivial, fun _ _ _ _ _ => ⟨trivial, trivial⟩, fun y n _ => h y n⟩
def zm3 (f : Nat) (p : Addr) (C : Hp → Prop) (m : Nat) (leaf : Nat → Nat → Option PyData) : Sp := fun vs H Q _ => ∃ (wd : Addr) (ts : List Tie) (tl : Addr) (il : List Nat) (y n : Nat), vs = [.ref wd, .ref tl, .int y, .int n, .ref p] ∧ WoodT H wd m ts ∧ H tl = some (.lst (zal il)) ∧ (∀ i ∈ il, i < ts.length) ∧ (zay m y n).length ≤ f ∧ C H ∧ EndsR ts il m leaf y n ∧ ∀ (v : V) (H' : Hp), Same H H' → Dn H' (zfo ts il m leaf f y n) v → Q v H'
theorem zwg {P : Program} {w : World} {K : PySem.W.Frag} {mg : Str → Option Value} {base : Heap} {p c : Addr} {qual : Str} {params : Arguments} {body : Expr} {scope : Scope} {cl : List (Str × Addr)} {H1 : Hp} {ps fr : List Str} {fv : List V} {k : Nat} {leaf : Nat → Nat → Option PyData} (C0 : Hp → Prop)
  (hp : H1 p = some (.ext (zom p qual params body scope cl c)))
  (S : zol ps fr scope) (hcl : ∀ x cc, cl.lookup x = some cc → ∃ v, base.IsCell cc v) (inj : ∀ x y cc, cl.lookup x = some cc → cl.lookup y = some cc → x = y) (has : ∀ y ∈ scope.names, y.2 = .free → ∃ cc, cl.lookup y.1 = some cc)
  (hfv : ∀ (i : Nat) (x : Str) (v : V), fr[i]? = some x → fv[i]? = some v → ∃ cc u, cl.lookup x = some cc ∧ RelV v u ∧ base.IsCell cc (some u)) (hlen : fv.length = fr.length)
  (hsame : ∀ pm ctv args, bindArgs (PySem.W.kla_fn "<lambda>" qual params body scope cl pm (.ref c) ctv) args = bindArgs (PySem.W.kla_fn "<lambda>" qual params body scope cl .none (.ref c) .none) args)
  (len2 : ps.length = 2)
  (hbody : ∀ (q : Str) (A : Around) (outer : List Env) (s : Shared) (H : Hp) (y n : Nat) (Q : VK), Room k (A.deeper (PySem.W.envX q scope s.heap.objs.size p (.ref c) cl)) → C0 H → (∀ (v : V) (H' : Hp), Same H H' → zlc leaf y n H' v → Q v H') →
   ∃ t, PE (ztz P w K mg base (ps ++ fr) q scope p c cl A outer s H) body t ∧ t ([some (.int y), some (.int n)] ++ fv.map some) H Q) :
  FnOk P w K mg base CX0 (k + 1) p (PySem.W.kla_fn "<lambda>" qual params body scope cl .none (.ref c) .none) ps (zwq (fun H => C0 H ∧ H p = some (.ext (zom p qual params body scope cl c)) ∧ H c = some (.ext (zgq c))) leaf) := by
 refine zxj S hcl inj has hfv hlen hsame (fun vs H Q E h => ?_) (fun vs H Q E h => ?_) (fun q A outer s H vs Q E hr h => ?_)
 ·obtain ⟨y, n, rfl, _⟩ := h
  exact len2.symm
 ·obtain ⟨y, n, rfl, ⟨_, h1, h2⟩, _⟩ := h
  exact ⟨h1, h2⟩
 ·obtain ⟨y, n, rfl, ⟨h0, _, _⟩, q'⟩ := h
  exact hbody q A outer s H y n Q hr h0 q'
theorem zvy {p : Addr} {qual : Str} {params : Arguments} {body : Expr} {scope : Scope} {cl : List (Str × Addr)} {c : Addr} (h : Heap) (x : zom p qual params body scope cl c h) : ∃ o fd', h.get? p = some o ∧ o.data = .func fd' := by
 obtain ⟨pm, ctv, e⟩ := x
 exact ⟨_, _, e, rfl⟩
def zdk (m : Nat) (y n : Nat) : Option PyData := if zay m y n = [] then some (.tuple [.str ("ware" : Str)]) else none
theorem zg0 {ts : List Tie} {il : List Nat} {m : Nat} : ∀ (f y n : Nat), (zay m y n).length ≤ f → zfo ts il m (zdk m) f y n = (zb3 ts il m f y n).toD
 | f, y, n, hf => by
  cases hb : za5 ts il y n with
  | some i => rw [zhm hb, zgo hb]; rfl
  | none =>
   cases ho : zay m y n with
   | nil => rw [zjm hb (by unfold zdk; rw [if_pos ho]), zim hb ho]; rfl
   | cons k r =>
    cases f with
    | zero => rw [ho] at hf; simp at hf
    | succ f =>
     have hk : k ∈ zay m y n := by rw [ho]; exact List.mem_cons_self
     have l1 := zei hk
     have l2 := zen hk
     rw [zix hb (by unfold zdk; rw [if_neg (by rw [ho]; simp)]) ho, zg7 hb ho, zg0 f _ _ (by omega), zg0 f _ _ (by omega)]
     rfl
end Wd
set_option maxRecDepth 100000
set_option maxHeartbeats 4000000
namespace L2
open PySem PySem.Spec PyProof.Rows
section
variable {prog : Program} {w : World} {A : Around} {E : Value → Shared → Prop} {s : Shared}
end
end L2
namespace Wd
open PySem L2 Ow
end Wd
set_option maxRecDepth 100000
set_option maxHeartbeats 4000000
namespace Wd
open PySem L2 Ow
def zhe (m : Nat) (ts : List Tie) : List Nat := (List.range (2 ^ m)).filter fun s => zbg ts s
theorem mem_wareL {m : Nat} {ts : List Tie} {s : Nat} : s ∈ zhe m ts ↔ s < 2 ^ m ∧ zbg ts s = true := by
 unfold zhe
 rw [List.mem_filter, List.mem_range]
end Wd
set_option maxHeartbeats 4000000
namespace Srt
open PySem PyProof PyProof.Rows
section
variable {prog : Program} {w : World} {A : Around} {E : Value → Shared → Prop} {s : Shared}
end
end Srt
set_option maxHeartbeats 4000000
namespace Srt
open PySem PyProof PyProof.Rows
section
variable {prog : Program} {w : World} {A : Around} {E : Value → Shared → Prop} {s : Shared}
end
end Srt
set_option maxHeartbeats 4000000
namespace Srt
open PySem PyProof PyProof.Rows
section
variable {prog : Program} {w : World} {A : Around} {E : Value → Shared → Prop} {s : Shared}
end
end Srt
set_option maxHeartbeats 4000000
namespace Srt
open PySem PyProof PyProof.Rows
section
variable {prog : Program} {w : World} {A : Around} {E : Value → Shared → Prop} {s : Shared}
end
end Srt
set_option maxHeartbeats 4000000
namespace Srt
open PySem PyProof PyProof.Rows
section
variable {prog : Program} {w : World} {A : Around} {E : Value → Shared → Prop} {s : Shared}
end
end Srt
set_option maxHeartbeats 4000000
namespace Srt
open PySem PyProof PyProof.Rows
section
variable {prog : Program} {w : World} {A : Around} {E : Value → Shared → Prop} {s : Shared} {a₀ : Array Keyed}
end
end Srt
set_option maxHeartbeats 4000000
namespace Srt
open PySem PyProof PyProof.Rows
section
variable {prog : Program} {w : World} {A : Around} {E : Value → Shared → Prop} {s : Shared} {a₀ : Array Keyed}
end
end Srt
set_option maxHeartbeats 4000000
set_option maxRecDepth 100000
namespace Srt
open PySem PyProof PyProof.Rows
section
variable {prog : Program} {w : World} {A : Around} {E : Value → Shared → Prop} {s : Shared}
end
end Srt
namespace L2
open PySem PySem.Spec PyProof.Rows
variable {X : Cx}
end L2
set_option maxRecDepth 100000
set_option maxHeartbeats 4000000
namespace Wd
open PySem L2 Ow
structure Bg where
 u : Nat
 lo : Int
 hi : Int
 ks : List Nat
def Bg.tie (b : Bg) : Tie := .bough b.u b.lo b.hi b.ks
def Bg.ind (b : Bg) (j : Nat) : Nat := if decide (b.lo ≤ (j : Int)) && decide ((j : Int) ≤ b.hi) then 1 else 0
def ziz (w : Nat → Nat) : List Nat → (Nat → Nat) → Nat
 | [], g => g 0
 | c :: cs, g => ziz w cs g + w c * ziz w cs fun j => g (j + 1)
def Bg.F (b : Bg) (w : Nat → Nat) : Nat := ziz w b.ks b.ind
theorem zjx (w : Nat → Nat) : ∀ (ks : List Nat) (g : Nat → Nat), (∀ j, g (j + 1) = 0) → ziz w ks g = g 0
 | [], _, _ => rfl
 | c :: cs, g, h => by
  show ziz w cs g + w c * ziz w cs (fun j => g (j + 1)) = g 0
  rw [zjx w cs g h, zjx w cs _ fun j => h (j + 1), h 0, Nat.mul_zero, Nat.add_zero]
def zft (w : Nat → Nat) (b : Bg) : Nat → Nat := fun k => if k = b.u then w k * b.F w else w k
theorem znr {w : Nat → Nat} {b : Bg} {k : Nat} (h : k ≠ b.u) : zft w b k = w k := if_neg h
theorem ztf {w : Nat → Nat} {b : Bg} : zft w b b.u = w b.u * b.F w := if_pos rfl
def sub : List Nat → Nat → (Nat → Nat) → Nat
 | [], m, f => f m
 | k :: ks, m, f => sub ks m f + sub ks (m ||| 2 ^ k) f
theorem zjf : ∀ (a b : List Nat) (m : Nat) (f : Nat → Nat), sub (a ++ b) m f = sub a m fun m' => sub b m' f
 | [], _, _, _ => rfl
 | k :: ks, b, m, f => by
  show sub (ks ++ b) m f + sub (ks ++ b) _ f = _
  rw [zjf ks b, zjf ks b]
  rfl
theorem zec : ∀ {V : List Nat} {m : Nat} {f g : Nat → Nat}, (∀ s, (∀ k, k ∉ V → s.testBit k = m.testBit k) → f s = g s) → sub V m f = sub V m g
 | [], m, f, g, h => h m fun _ _ => rfl
 | c :: cs, m, f, g, h => by
  show sub cs m f + sub cs _ f = sub cs m g + sub cs _ g
  congr 1
  ·exact zec fun s hs => h s fun k hk => hs k fun z => hk (List.mem_cons_of_mem _ z)
  ·refine zec fun s hs => h s fun k hk => ?_
   rw [hs k fun z => hk (List.mem_cons_of_mem _ z), Nat.testBit_or, Nat.testBit_two_pow]
   rw [decide_eq_false (fun z : c = k => hk (z ▸ List.mem_cons_self)), Bool.or_false]
theorem zi6 (x : Nat) : ∀ (V : List Nat) (m : Nat) (f : Nat → Nat), sub V m (fun s => x * f s) = x * sub V m f
 | [], _, _ => rfl
 | c :: cs, m, f => by
  show sub cs m _ + sub cs _ _ = x * (sub cs m f + sub cs _ f)
  rw [zi6 x cs, zi6 x cs, Nat.mul_add]
theorem zo0 {a b : List Nat} (p : a.Perm b) : ∀ (m : Nat) (f : Nat → Nat), sub a m f = sub b m f := by
 induction p with
 | nil => intro m f; rfl
 | cons x _ ih => intro m f; show sub _ m f + sub _ _ f = sub _ m f + sub _ _ f; rw [ih, ih]
 | swap x y l =>
  intro m f
  show sub l m f + sub l (m ||| 2 ^ x) f + (sub l (m ||| 2 ^ y) f + sub l (m ||| 2 ^ y ||| 2 ^ x) f) = sub l m f + sub l (m ||| 2 ^ y) f + (sub l (m ||| 2 ^ x) f + sub l (m ||| 2 ^ x ||| 2 ^ y) f)
  rw [show m ||| 2 ^ y ||| 2 ^ x = m ||| 2 ^ x ||| 2 ^ y by rw [Nat.or_assoc, Nat.or_comm (2 ^ y), ← Nat.or_assoc]]
  omega
 | trans _ _ h1 h2 => intro m f; rw [h1, h2]
def wt (w : Nat → Nat) : List Nat → Nat → Nat
 | [], _ => 1
 | c :: cs, s => (if s.testBit c = true then w c else 1) * wt w cs s
theorem zup (w : Nat → Nat) : ∀ (a b : List Nat) (s : Nat), wt w (a ++ b) s = wt w a s * wt w b s
 | [], b, s => (Nat.one_mul _).symm
 | c :: cs, b, s => by
  show _ * wt w (cs ++ b) s = _ * wt w cs s * wt w b s
  rw [zup w cs b s, Nat.mul_assoc]
theorem zkd {w w' : Nat → Nat} {s s' : Nat} : ∀ {a : List Nat}, (∀ k ∈ a, s.testBit k = s'.testBit k ∧ w k = w' k) → wt w a s = wt w' a s'
 | [], _ => rfl
 | c :: cs, h => by
  show _ * wt w cs s = _ * wt w' cs s'
  rw [zkd fun k hk => h k (List.mem_cons_of_mem _ hk), (h c List.mem_cons_self).1, (h c List.mem_cons_self).2]
theorem zqd {w : Nat → Nat} {b : Bg} {s : Nat} : ∀ {a : List Nat}, a.Nodup → b.u ∈ a → wt (zft w b) a s = wt w a s * (if s.testBit b.u = true then b.F w else 1)
 | c :: cs, nd, h => by
  obtain ⟨n1, n2⟩ := List.nodup_cons.mp nd
  show (if s.testBit c = true then zft w b c else 1) * wt (zft w b) cs s = (if s.testBit c = true then w c else 1) * wt w cs s * _
  by_cases e : c = b.u
  ·rw [zkd (w := zft w b) (w' := w) (s := s) (s' := s) fun k hk => ⟨rfl, znr fun z => n1 (e ▸ z ▸ hk)⟩, e, ztf]
   by_cases t : s.testBit b.u = true
   ·rw [if_pos t, if_pos t, if_pos t, Nat.mul_assoc, Nat.mul_comm (b.F w), ← Nat.mul_assoc]
   ·rw [if_neg t, if_neg t, if_neg t, Nat.mul_one]
  ·rw [znr e, zqd n2 ((List.mem_cons.mp h).resolve_left (Ne.symm e)), Nat.mul_assoc]
theorem zqy {w : Nat → Nat} (h : ∀ k, w k = 1) (s : Nat) : ∀ (a : List Nat), wt w a s = 1
 | [] => rfl
 | c :: cs => by
  show _ * wt w cs s = 1
  rw [zqy h s cs, h c, ite_self, Nat.mul_one]
theorem zml (w : Nat → Nat) : ∀ {ks : List Nat} {m : Nat} {g : Nat → Nat}, ks.Nodup → (∀ k ∈ ks, m.testBit k = false) → sub ks m (fun s => g (cnt ks s) * wt w ks s) = ziz w ks g
 | [], m, g, _, _ => Nat.mul_one _
 | c :: cs, m, g, nd, h => by
  obtain ⟨n1, n2⟩ := List.nodup_cons.mp nd
  have hc := h c List.mem_cons_self
  show sub cs m _ + sub cs (m ||| 2 ^ c) _ = ziz w cs g + w c * ziz w cs _
  congr 1
  ·rw [← zml w (m := m) (g := g) n2 fun k hk => h k (List.mem_cons_of_mem _ hk)]
   refine zec fun s hs => ?_
   have e := hs c n1
   rw [hc] at e
   have e2 : wt w (c :: cs) s = 1 * wt w cs s := by
    show (if s.testBit c = true then w c else 1) * wt w cs s = _
    rw [e]; rfl
   rw [zci, e, e2, Nat.one_mul, if_neg Bool.false_ne_true, Nat.zero_add]
  ·rw [← zml w (m := m ||| 2 ^ c) (g := fun j => g (j + 1)) n2 fun k hk => ?_, ← zi6]
   ·refine zec fun s hs => ?_
    have e := hs c n1
    rw [Nat.testBit_or, Nat.testBit_two_pow_self, Bool.or_true] at e
    have e2 : wt w (c :: cs) s = w c * wt w cs s := by
     show (if s.testBit c = true then w c else 1) * wt w cs s = _
     rw [e]; rfl
    rw [zci, e, e2, if_pos rfl, Nat.add_comm 1, Nat.mul_left_comm]
   ·rw [Nat.testBit_or, h k (List.mem_cons_of_mem _ hk), Nat.testBit_two_pow, decide_eq_false (fun z : c = k => n1 (z ▸ hk))]; rfl
def zbl (L : List Bg) : List Nat := L.flatMap (·.ks)
def Fit (r : Nat) : List Bg → Prop
 | [] => True
 | b :: R => b.u ∈ r :: zbl R ∧ (∀ k ∈ b.ks, k ≠ b.u ∧ ∀ b' ∈ R, b'.u ≠ k) ∧ Fit r R
def zmg (L : List Bg) (s : Nat) : Bool := L.all fun b => b.tie.keep s
def bit (p : Bool) : Nat := if p then 1 else 0
def zs1 (r : Nat) (L : List Bg) (w : Nat → Nat) : Nat := sub (r :: zbl L) 0 fun s => bit (s.testBit r && zmg L s) * wt w (r :: zbl L) s
theorem zuy {b : Bg} {s s' : Nat} (h1 : s.testBit b.u = s'.testBit b.u) (h2 : ∀ k ∈ b.ks, s.testBit k = s'.testBit k) : b.tie.keep s = b.tie.keep s' := by
 show Tie.keep (.bough _ _ _ _) s = Tie.keep (.bough _ _ _ _) s'
 simp only [Tie.keep]
 rw [h1, zgj h2]
theorem zrr {r : Nat} {b : Bg} {R : List Bg} {w : Nat → Nat} (nd : (r :: zbl (b :: R)).Nodup) (ft : Fit r (b :: R)) : zs1 r (b :: R) w = zs1 r R (zft w b) := by
 obtain ⟨hu, hk, _⟩ := ft
 have eV : zbl (b :: R) = b.ks ++ zbl R := List.flatMap_cons
 have pV : (r :: zbl (b :: R)).Perm ((r :: zbl R) ++ b.ks) := by
  rw [eV]
  show (r :: (b.ks ++ zbl R)).Perm (r :: (zbl R ++ b.ks))
  exact List.Perm.cons _ List.perm_append_comm
 have nd2 := (pV.nodup_iff).mp nd
 obtain ⟨ndV, ndK, dis⟩ := List.nodup_append.mp nd2
 unfold zs1
 rw [zo0 pV, zjf]
 refine zec fun m hm => ?_
 have off : ∀ k ∈ b.ks, m.testBit k = false := fun k hk' => by rw [hm k fun z => dis k z k hk' rfl, Nat.zero_testBit]
 have perW : ∀ s, wt w (r :: zbl (b :: R)) s = wt w (r :: zbl R) s * wt w b.ks s := fun s => by
  rw [eV]
  show _ * wt w (b.ks ++ zbl R) s = _ * wt w (zbl R) s * wt w b.ks s
  rw [zup, Nat.mul_comm (wt w b.ks s), Nat.mul_assoc]
 have un : b.u ∉ b.ks := fun z => (hk b.u z).1 rfl
 have rn : r ∉ b.ks := fun z => dis r List.mem_cons_self r z rfl
 have key : sub b.ks m (fun s => bit (s.testBit r && zmg (b :: R) s) * wt w (r :: zbl (b :: R)) s) = sub b.ks m fun s => (bit (m.testBit r && zmg R m) * wt w (r :: zbl R) m) * ((fun j => if m.testBit b.u = true then b.ind j else bit (decide (j = 0))) (cnt b.ks s) * wt w b.ks s) := by
  refine zec fun s hs => ?_
  rw [perW, hs r rn]
  have e1 : wt w (r :: zbl R) s = wt w (r :: zbl R) m := zkd fun k hk' => ⟨hs k fun z => dis k hk' k z rfl, rfl⟩
  have e2 : zmg R s = zmg R m := by
   unfold zmg
   rw [Bool.eq_iff_iff, List.all_eq_true, List.all_eq_true]
   have ee : ∀ b' ∈ R, b'.tie.keep s = b'.tie.keep m := fun b' hb' => zuy (hs _ fun z => (hk _ z).2 b' hb' rfl) fun k hk' => hs k fun z => dis k (List.mem_cons_of_mem _ (List.mem_flatMap.mpr ⟨b', hb', hk'⟩)) k z rfl
   exact ⟨fun h x hx => by rw [← ee x hx]; exact h x hx, fun h x hx => by rw [ee x hx]; exact h x hx⟩
  have e3 : zmg (b :: R) s = (b.tie.keep s && zmg R m) := by rw [← e2]; rfl
  have e4 : bit (b.tie.keep s) = (fun j => if m.testBit b.u = true then b.ind j else bit (decide (j = 0))) (cnt b.ks s) := by
   have hu' := hs b.u un
   show bit (Tie.keep (.bough _ _ _ _) s) = _
   simp only [Tie.keep]
   rw [hu']
   by_cases t : m.testBit b.u = true
   ·rw [if_pos t, if_pos t]; rfl
   ·rw [if_neg t, if_neg t]
  have bm : ∀ p q : Bool, bit (p && q) = bit p * bit q := fun p q => by cases p <;> cases q <;> rfl
  rw [e1, e3, ← e4, bm, bm, bm]
  simp only [Nat.mul_assoc, Nat.mul_comm, Nat.mul_left_comm]
 rw [key, zi6, zml w (g := fun j => if m.testBit b.u = true then b.ind j else bit (decide (j = 0))) ndK off, zqd ndV hu, Nat.mul_assoc]
 congr 1
 congr 1
 by_cases t : m.testBit b.u = true
 ·simp only [if_pos t]; rfl
 ·simp only [if_neg t]
  exact zjx w b.ks _ fun j => rfl
theorem zng {r : Nat} : ∀ {L : List Bg} {w : Nat → Nat}, (r :: zbl L).Nodup → Fit r L → zs1 r L w = L.foldl zft w r
 | [], w, _, _ => by
  show sub [r] 0 (fun s => bit (s.testBit r && true) * ((if s.testBit r = true then w r else 1) * 1)) = w r
  show bit ((0 : Nat).testBit r && true) * ((if (0 : Nat).testBit r = true then w r else 1) * 1) + bit ((0 ||| 2 ^ r).testBit r && true) * ((if (0 ||| 2 ^ r).testBit r = true then w r else 1) * 1) = w r
  rw [Nat.zero_testBit, Nat.zero_or, Nat.testBit_two_pow_self]
  simp [bit]
 | b :: R, w, nd, ft => by
  have nd' : (r :: zbl R).Nodup := by
   rw [show zbl (b :: R) = b.ks ++ zbl R from List.flatMap_cons] at nd
   obtain ⟨n1, n2⟩ := List.nodup_cons.mp nd
   exact List.nodup_cons.mpr ⟨fun z => n1 (List.mem_append_right _ z), (List.nodup_append.mp n2).2.1⟩
  rw [zrr nd ft, zng nd' ft.2.2]
  rfl
end Wd
set_option maxRecDepth 100000
set_option maxHeartbeats 4000000
namespace L2
open PySem PySem.Spec PyProof.Rows
end L2
set_option maxRecDepth 100000
set_option maxHeartbeats 4000000
namespace Wd
open PySem L2 Ow
def zta (L : List Bg) (k : Nat) : List Bg := L.filter fun b => b.u == k
def zhs (m : Nat) (L : List Bg) : List Bg := (List.range m).reverse.flatMap (zta L)
theorem mem_atUp {L : List Bg} {k : Nat} {b : Bg} : b ∈ zta L k ↔ b ∈ L ∧ b.u = k := by
 unfold zta
 rw [List.mem_filter, beq_iff_eq]
theorem zf7 {m : Nat} {L : List Bg} (ok : ∀ b ∈ L, b.u < m) {b : Bg} : b ∈ zhs m L ↔ b ∈ L := by
 unfold zhs
 rw [List.mem_flatMap]
 constructor
 ·rintro ⟨k, _, h⟩
  exact (mem_atUp.mp h).1
 ·intro h
  exact ⟨b.u, List.mem_reverse.mpr (List.mem_range.mpr (ok b h)), mem_atUp.mpr ⟨h, rfl⟩⟩
theorem znm (m : Nat) (L : List Bg) : zhs (m + 1) L = zta L m ++ zhs m L := by
 unfold zhs
 rw [List.range_succ, List.reverse_append]
 rfl
theorem zn9 (L : List Bg) : ∀ (m : Nat), (zhs m L).Perm (L.filter fun b => decide (b.u < m))
 | 0 => by
  have e : (L.filter fun b => decide (b.u < 0)) = [] := List.filter_eq_nil_iff.mpr fun b hb => by simp
  rw [e]
  exact List.Perm.refl _
 | m + 1 => by
  rw [znm]
  refine (List.Perm.append_left _ (zn9 L m)).trans ?_
  induction L with
  | nil => exact List.Perm.refl _
  | cons b L ih =>
   unfold zta at ih ⊢
   by_cases h1 : b.u = m
   ·rw [List.filter_cons_of_pos (by simpa using h1), List.filter_cons_of_neg (by simp; omega), List.filter_cons_of_pos (by simp; omega)]
    exact List.Perm.cons _ ih
   ·rw [List.filter_cons_of_neg (by simpa using h1)]
    by_cases h2 : b.u < m
    ·rw [List.filter_cons_of_pos (by simpa using h2), List.filter_cons_of_pos (by simp; omega)]
     exact List.perm_middle.trans (List.Perm.cons _ ih)
    ·rw [List.filter_cons_of_neg (by simpa using h2), List.filter_cons_of_neg (by simp; omega)]
     exact ih
theorem zm9 {m : Nat} {L : List Bg} (ok : ∀ b ∈ L, b.u < m) : (zhs m L).Perm L := by
 have e : (L.filter fun b => decide (b.u < m)) = L := List.filter_eq_self.mpr fun b hb => by simpa using ok b hb
 have := zn9 L m
 rwa [e] at this
theorem zn0 {L : List Bg} : ∀ {m : Nat}, (zhs m L).Pairwise fun b b' => b'.u ≤ b.u
 | 0 => List.Pairwise.nil
 | m + 1 => by
  rw [znm, List.pairwise_append]
  refine ⟨?_, zn0, fun b hb b' hb' => ?_⟩
  ·exact List.Pairwise.imp_of_mem (R := fun _ _ => True) (fun {a b} ha hb _ => by rw [(mem_atUp.mp ha).2, (mem_atUp.mp hb).2]; exact Nat.le_refl _) (List.pairwise_of_forall fun _ _ => trivial)
  ·rw [(mem_atUp.mp hb).2]
   unfold zhs at hb'
   obtain ⟨k, hk, hk'⟩ := List.mem_flatMap.mp hb'
   rw [(mem_atUp.mp hk').2]
   exact Nat.le_of_lt (List.mem_range.mp (List.mem_reverse.mp hk))
structure TreeB (m : Nat) (L : List Bg) : Prop where
 ok : ∀ b ∈ L, Tie.BoughOk m b.u b.lo b.hi b.ks
 kids : (zbl L).Perm (List.range' 1 (m - 1))
 m1 : 1 ≤ m
theorem ztc {m : Nat} : ∀ {L : List Bg}, (∀ b ∈ L, Tie.BoughOk m b.u b.lo b.hi b.ks) → (L.Pairwise fun b b' => b'.u ≤ b.u) → (∀ b ∈ L, b.u = 0 ∨ b.u ∈ zbl L) → Fit 0 L
 | [], _, _, _ => trivial
 | b :: R, ok, pw, ups => by
  obtain ⟨p1, p2⟩ := List.pairwise_cons.mp pw
  have okb := ok b List.mem_cons_self
  have eV : zbl (b :: R) = b.ks ++ zbl R := List.flatMap_cons
  have upR : ∀ b' ∈ b :: R, b'.u = 0 ∨ b'.u ∈ zbl R := fun b' hb' => by
   rcases ups b' hb' with z | z
   ·exact .inl z
   ·rw [eV] at z
    rcases List.mem_append.mp z with z | z
    ·have h1 := (okb.up _ z).1
     rcases List.mem_cons.mp hb' with e | e
     ·subst e; omega
     ·have := p1 b' e; omega
    ·exact .inr z
  refine ⟨?_, fun k hk => ⟨?_, fun b' hb' => ?_⟩, ztc (fun b' hb' => ok b' (List.mem_cons_of_mem _ hb')) p2 fun b' hb' => upR b' (List.mem_cons_of_mem _ hb')⟩
  ·rcases upR b List.mem_cons_self with z | z
   ·rw [z]; exact List.mem_cons_self
   ·exact List.mem_cons_of_mem _ z
  ·have := (okb.up k hk).1; omega
  ·have h1 := (okb.up k hk).1
   have h2 := p1 b' hb'
   omega
theorem zrp {A B : List Bg} (p : A.Perm B) : (zbl A).Perm (zbl B) := List.Perm.flatMap_right _ p
theorem TreeB.lt {m : Nat} {L : List Bg} (T : TreeB m L) : ∀ b ∈ L, b.u < m := fun b hb => (T.ok b hb).um
theorem TreeB.perm0 {m : Nat} {L : List Bg} (T : TreeB m L) : (0 :: zbl (zhs m L)).Perm (List.range m) := by
 have h1 := (zrp (zm9 T.lt)).trans T.kids
 have m1 := T.m1
 have e : List.range m = 0 :: List.range' 1 (m - 1) := by
  rw [List.range_eq_range']
  obtain ⟨n, rfl⟩ : ∃ n, m = n + 1 := ⟨m - 1, by omega⟩
  rfl
 rw [e]
 exact List.Perm.cons _ h1
theorem TreeB.nd {m : Nat} {L : List Bg} (T : TreeB m L) : (0 :: zbl (zhs m L)).Nodup := (T.perm0.nodup_iff).mpr List.nodup_range
theorem TreeB.fit {m : Nat} {L : List Bg} (T : TreeB m L) : Fit 0 (zhs m L) := by
 refine ztc (m := m) (fun b hb => T.ok b ((zf7 T.lt).mp hb)) zn0 fun b hb => ?_
 have h1 := T.lt b ((zf7 T.lt).mp hb)
 have h2 : b.u ∈ 0 :: zbl (zhs m L) := T.perm0.mem_iff.mpr (List.mem_range.mpr h1)
 rcases List.mem_cons.mp h2 with z | z
 ·exact .inl z
 ·exact .inr z
def zyc : Nat → Nat := fun _ => 1
def zua (m : Nat) (L : List Bg) : Nat → Nat := (zhs m L).foldl zft zyc
theorem zro (f : Nat → Nat) (n : Nat) : ((List.range (n + n)).map f).sum = ((List.range n).map fun s => f s + f (n + s)).sum := by
 rw [List.range_add, List.map_append, List.sum_append, List.map_map]
 have h : ∀ (l : List Nat) (f g : Nat → Nat), (l.map f).sum + (l.map g).sum = (l.map fun s => f s + g s).sum := fun l f g => by
  induction l with
  | nil => rfl
  | cons x l ih => simp only [List.map_cons, List.sum_cons]; rw [← ih]; omega
 exact h _ _ _
theorem zlx (f : Nat → Nat) : ∀ (m : Nat) (g : Nat → Nat), (∀ s, s < 2 ^ m → f s = g s) → sub (List.range m) 0 f = ((List.range (2 ^ m)).map g).sum
 | 0, g, h => by
  show f 0 = g 0 + 0
  rw [h 0 (by decide)]; rfl
 | m + 1, g, h => by
  rw [List.range_succ, zjf, Nat.pow_succ, Nat.mul_two, zro]
  refine zlx _ m _ fun s hs => ?_
  show f s + f (s ||| 2 ^ m) = g s + g (2 ^ m + s)
  have e : s ||| 2 ^ m = 2 ^ m + s := by
   rw [Nat.or_comm]
   have := Nat.two_pow_add_eq_or_of_lt hs 1
   simpa using this.symm
  have p : 2 ^ (m + 1) = 2 ^ m + 2 ^ m := by rw [Nat.pow_succ, Nat.mul_two]
  rw [e, h s (by omega), h (2 ^ m + s) (by omega)]
theorem zjj (p : Nat → Bool) : ∀ (l : List Nat), (l.filter p).length = (l.map fun s => bit (p s)).sum
 | [] => rfl
 | x :: l => by
  rw [List.map_cons, List.sum_cons, ← zjj p l]
  cases h : p x
  ·rw [List.filter_cons_of_neg (by rw [h]; exact Bool.false_ne_true)]; show _ = 0 + _; omega
  ·rw [List.filter_cons_of_pos h, List.length_cons]; show _ = 1 + _; omega
theorem zpc {m : Nat} {L : List Bg} (T : TreeB m L) : (zhe m (L.map Bg.tie)).length = zua m L 0 := by
 unfold zua
 rw [← zng T.nd T.fit]
 unfold zs1
 rw [zo0 T.perm0, zlx _ m (fun s => bit (zbg (L.map Bg.tie) s)) fun s hs => ?_]
 ·unfold zhe
  rw [zjj]
 ·rw [zqy (w := zyc) (fun _ => rfl), Nat.mul_one]
  congr 1
  unfold zbg zmg
  congr 1
  rw [Bool.eq_iff_iff, List.all_eq_true, List.all_eq_true]
  constructor
  ·intro h t ht
   obtain ⟨b, hb, rfl⟩ := List.mem_map.mp ht
   exact h b ((zf7 T.lt).mpr hb)
  ·intro h b hb
   exact h b.tie (List.mem_map.mpr ⟨b, (zf7 T.lt).mp hb, rfl⟩)
end Wd
set_option maxRecDepth 100000
set_option maxHeartbeats 4000000
namespace L2
open PySem PySem.Spec PyProof.Rows
section
variable {X : Cx}
end
end L2
set_option maxRecDepth 100000
set_option maxHeartbeats 4000000
namespace Wd
open PySem L2 Ow
structure WoodB (H : Hp) (wd : Addr) (m : Nat) (L : List Bg) : Prop where
 ex : ∃ xs, WoodAt H wd m xs [] ∧ DnL H (L.map fun b => b.tie.toD) xs
 T : TreeB m L
 few : L.length ≤ 9
 m9 : m ≤ 9
theorem zsm {m : Nat} : ∀ {bs : List PyData}, (∀ b ∈ bs, zfh m b = true) → ∃ L : List Bg, bs = L.map (fun b => b.tie.toD) ∧ ∀ b ∈ L, Tie.BoughOk m b.u b.lo b.hi b.ks
 | [], _ => ⟨[], rfl, fun _ h => nomatch h⟩
 | b :: bs, h => by
  obtain ⟨u, lo, hi, ks, e, ok⟩ := zhj (h b List.mem_cons_self)
  obtain ⟨L, e2, ok2⟩ := zsm fun x hx => h x (List.mem_cons_of_mem _ hx)
  refine ⟨⟨u, lo, hi, ks⟩ :: L, ?_, fun x hx => ?_⟩
  ·rw [e, e2]; rfl
  ·rcases List.mem_cons.mp hx with rfl | hx
   ·exact ok
   ·exact ok2 x hx
theorem zvt (b : Bg) : zjy b.tie.toD = b.ks.map fun k : Nat => (k : Int) := by
 show List.map toI (b.ks.map fun k : Nat => PyData.int (k : Int)) = _
 rw [List.map_map]
 rfl
theorem zrc : ∀ {A B : List Nat}, (A.map fun k : Nat => (k : Int)).Perm (B.map fun k : Nat => (k : Int)) → A.Perm B := fun {A B} h => by
 have := h.map Int.toNat
 rw [List.map_map, List.map_map] at this
 have e : ∀ l : List Nat, l.map (Int.toNat ∘ fun k : Nat => (k : Int)) = l := fun l => by
  induction l with
  | nil => rfl
  | cons x l ih => rw [List.map_cons, ih]; rfl
 rwa [e, e] at this
theorem zs3 {H : Hp} {wd : Addr} {m : Nat} {bs cs : List PyData} (h : WoodX H wd m bs cs) (hc : cs = []) : ∃ L : List Bg, bs = L.map (fun b => b.tie.toD) ∧ ∀ H', zc5 H H' → WoodB H' wd m L := by
 subst hc
 obtain ⟨L, e, ok⟩ := zsm h.gb.each
 have m1 := h.m1
 have b8 := h.b8
 refine ⟨L, e, fun H' t => ?_⟩
 obtain ⟨xs, ys, WA, db, dc⟩ := (h.tupS t).ex
 cases (show ys = [] from dc)
 refine ⟨⟨xs, WA, by rw [← e]; exact db⟩, ⟨ok, zrc ?_, m1⟩, by rw [e, List.length_map] at b8; exact b8, h.m9⟩
 have k := h.gb.kids
 have e1 : bs.flatMap zjy = (zbl L).map fun k : Nat => (k : Int) := by
  rw [e]
  unfold zbl
  rw [List.map_flatMap, List.flatMap_map]
  congr 1
  funext b
  exact zvt b
 have e2 : ((List.range' 0 ((m : Int) - 1).toNat).map fun i : Nat => (1 : Int) + i) = (List.range' 1 (m - 1)).map fun k : Nat => (k : Int) := by
  rw [show ((m : Int) - 1).toNat = m - 1 by omega]
  apply List.ext_getElem
  ·rw [List.length_map, List.length_map, List.length_range', List.length_range']
  ·intro i h1 h2
   rw [List.getElem_map, List.getElem_map, List.getElem_range', List.getElem_range']
   omega
 rw [e1, e2] at k
 exact k
theorem zq1 {m k : Nat} {f : Nat → Nat} (h : k < m) : atI (zal ((List.range m).map f)) (k : Int) = some (.int (f k : Int)) := zdj (by rw [List.getElem?_map, List.getElem?_map, List.getElem?_range h]; rfl)
theorem zh4 (A B : List Nat) : zal (A ++ B) = zal A ++ zal B := List.map_append
theorem zuh {m k : Nat} {f g : Nat → Nat} (e : ∀ j, g j = if j = k then g k else f j) (h : k < m) : (zal ((List.range m).map f)).set k (.int (g k : Int)) = zal ((List.range m).map g) := by
 apply List.ext_getElem
 ·simp
 ·intro i h1 h2
  rw [List.getElem_set]
  simp only [List.getElem_map, List.getElem_range]
  by_cases z : k = i
  ·subst z
   rw [if_pos rfl]
  ·rw [if_neg z, e i, if_neg (Ne.symm z)]
end Wd
namespace Wd
open PySem L2 Ow
end Wd
namespace Wd
open PySem L2 Ow
theorem WoodB.woodT {H : Hp} {wd : Addr} {m : Nat} {L : List Bg} (h : WoodB H wd m L) : WoodT H wd m (L.map Bg.tie) := by
 obtain ⟨xs, h1, h2⟩ := h.ex
 have f := h.few
 have m9 := h.m9
 refine ⟨⟨xs, [], h1, by rw [List.append_nil, List.map_map]; exact h2⟩, fun t ht => ?_, by rw [List.length_map]; omega, by omega⟩
 obtain ⟨b, hb, rfl⟩ := List.mem_map.mp ht
 exact (h.T.ok b hb).toBoughOkW
end Wd
set_option maxRecDepth 100000
set_option maxHeartbeats 4000000
namespace L2
open PySem PySem.Spec PyProof.Rows
section
variable {prog : Program} {w : World} {A : Around} {E : Value → Shared → Prop} {s : Shared}
theorem zl5 {it l : Addr} {items : Array Value} (hne : l ≠ it) : ∀ (n i : Nat) (s : Shared) (Q : List Value → Shared → Prop), s.heap.IsListIter it l i → s.heap.IsList l items → i + n ≤ items.size →
  (∀ h' : Heap, h'.IsListIter it l (i + n) → Heap.SameBut it s.heap h' → Q ((items.toList.drop i).take n) { s with heap := h' }) → wpAny (model prog w) A (draw (.ref it) n) Q E s
 | 0, i, s, Q, hit, _, _, hQ => by
  show wpAny _ _ (pure []) Q E s
  exact wpAny_pure (by simpa using hQ s.heap hit (Heap.SameBut.refl ..))
 | n + 1, i, s, Q, hit, ht, hle, hQ => by
  have hlt : i < items.size := by omega
  show wpAny _ _ (pyNext (.ref it) >>= _) Q E s
  refine wpAny_bind (wpAny_pyNext_list_item hit ht (x := items[i]) (by simp [hlt]) fun h1 hit1 hs1 => ?_)
  refine wpAny_bind (wpAny_holding (zl5 hne n (i + 1) _ _ hit1 (ht.extBut hs1.extBut hne) (by omega) fun h2 hit2 hs2 => wpAny_pure ?_))
  have hd : items.toList.drop i = items[i] :: items.toList.drop (i + 1) := by simp [List.drop_eq_getElem_cons, hlt]
  have := hQ h2 (by rw [show i + (n + 1) = i + 1 + n by omega]; exact hit2) (hs1.trans hs2)
  rw [hd, List.take_succ_cons] at this
  exact this
theorem zog {l : Addr} {items : Array Value} {targets : List (Bool × (Value → Sem Unit))} {Q : Unit → Shared → Prop} (hh : A.handled = none) (ht : s.heap.IsList l items)
  (hn : targets.length = items.size) (hstar : targets.findIdx? (·.1) = none)
  (h : ∀ h', Heap.ExtBut s.heap.objs.size s.heap h' → wpAny (model prog w) A (assignInOrder (targets.map (·.2)) items.toList) Q E { s with heap := h' }) :
  wpAny (model prog w) A (unpack (.ref l) targets) Q E s := by
 unfold unpack
 rw [hn, hstar]
 refine wpAny_bind (wpAny_holding ?_)
 have hlt : l ≠ s.heap.objs.size := by obtain ⟨o, ho, _⟩ := ht; exact Nat.ne_of_lt (Heap.lt_size ho)
 have hT : s.TypeIs (.ref l) "list" := by obtain ⟨o, ho, hc, _⟩ := ht; exact ⟨o, ho, hc⟩
 unfold unpackItems
 refine wpAny_bind ?_
 unfold notIterableAtAll
 refine wpAny_bind (wpAny_specialOf hT F.slot_list_iter.lookup ?_)
 refine wpAny_pure ?_
 simp only [Bool.false_eq_true, if_false]
 refine wpAny_bind (wpAny_holding (wpAny_pyIter_list ht ?_))
 refine wpAny_bind (wpAny_holding (zl5 hlt items.size 0 _ _ ⟨_, Heap.get?_push_size _ rfl, rfl, rfl⟩ (ht.push _) (by omega) fun h1 hit1 hs1 => ?_))
 have hall : List.take items.size (List.drop 0 items.toList) = items.toList := by
  rw [List.drop_zero]; exact List.take_of_length_le (by simp)
 rw [hall]
 rw [if_neg (by simp)]
 have ht1 : h1.IsList l items := (ht.push _).extBut hs1.extBut hlt
 refine wpAny_bind (wpAny_holding (wpAny_pyNext_list_end hh hit1 ht1 (by simp) fun h2 he2 => ?_))
 simp only [Option.isSome_none, Bool.false_eq_true, if_false]
 exact wpAny_pure (h h2 fun b o hb e => he2 b o hb (hs1.extBut b o hb (Heap.get?_push_of_some _ e)))
end
section
variable {X : Cx} {pos : Pos}
def zy7 (K : PySem.W.Frag) (n : Nat) (t : TGs) : TG := fun v σ H Q => ∃ a xs, v = .ref a ∧ SqL K H a xs ∧ xs.length = n ∧ t xs σ H Q
theorem zxd {K : PySem.W.Frag} {es : List Expr} {k : Nat} {t : TGs} {n : Nat} (hc : X.calm = true) (h : PGs X es t)
  (hn : (assignEach es X.env).length = n := by rfl) (hst : (assignEach es X.env).findIdx? (·.1) = none := by rfl) (hK : X.K = K := by rfl) : PG X (.Tuple es k pos) (zy7 K n t) := by
 subst hK
 intro pins s σ H v u Q I r hw
 obtain ⟨a, xs, e1, hq, hl, hw⟩ := hw
 subst e1
 cases r
 obtain ⟨its, rv, ht, hz⟩ := I.list hq
 rw [assign_Tuple]
 refine wpAny_bind (wpAny_standAt (zog (I.ok.hd hc) ht.isList (by simp [hn, ← hl, rv.length]) hst fun h' hx => ?_))
 have I1 : Inv X pins σ H { s with heap := h' } := I.kept (t' := s.toks) fun b o e => hx b o (Nat.ne_of_lt (Heap.lt_size e)) e
 exact h pins _ σ H xs _ Q I1 (by simpa using rv) hw
end
section
variable {X : Cx}
def zuz : V → List V → Hp → VK → Prop := fun x vs H Q => ∃ (l : Addr) (xs : List V) (i : Int) (y : V), x = .ref l ∧ vs = [.int i, y] ∧ H l = some (.lst xs) ∧ 0 ≤ i ∧ i ≤ xs.length ∧ xs.length < sizeLine ∧ Q .non (upd H l (.lst (xs.take i.toNat ++ y :: xs.drop i.toNat)))
theorem zrl : MtM X "list.insert" zuz := by
 intro pins s σ H x vs v us Q I rx rv h
 obtain ⟨l, xs, i, y, rfl, rfl, hH, h0, hk, hz, q⟩ := h
 cases rx
 obtain ⟨u1, us1, rfl, r1, rr⟩ : ∃ u1 us1, us = u1 :: us1 ∧ RelV (.int i) u1 ∧ Vals [y] us1 := by
  cases rv with
  | cons a b => exact ⟨_, _, rfl, a, b⟩
 obtain ⟨u2, rfl, ru⟩ := rr.one
 obtain ⟨t, rfl⟩ := r1
 obtain ⟨z, its, n, r, hl, e⟩ := I.lstM hH
 have hsz : its.toArray.size ≤ sizeLine := by rw [List.size_toArray, ← hl]; exact z
 have b1 : -(2 ^ 63) ≤ i := Int.le_trans (by decide) h0
 have b2 : i < 2 ^ 63 := by
  have h63 : ((xs.length : Nat) : Int) < ((2 ^ 63 : Nat) : Int) := Int.ofNat_lt.mpr (Nat.lt_of_le_of_lt z zkm)
  exact Int.lt_of_le_of_lt hk h63
 have fit : ¬ (!Builtin.List.listFitsIndex i) = true := by
  rw [fitsIndex_both b1 b2]
  exact Bool.false_ne_true
 refine call_meets F.slot_list_insert ⟨_, e, rfl⟩ F.entry_list_insert (F.args_list_insert_3 _ _ _) (AutoListH.list_insert_list_int_val_1 l its.toArray n i t u2 fit hsz) ⟨e, ?_⟩
 have r2 : Vals (xs.take i.toNat ++ y :: xs.drop i.toNat) (its.take i.toNat ++ u2 :: its.drop i.toNat) := (r.take i.toNat).append (.cons ru (r.drop i.toNat))
 refine ⟨.non, _, I.lset (its' := its.take i.toNat ++ u2 :: its.drop i.toNat) hH e ?_ r2 ?_, rfl, q⟩
 ·have hn : ¬ (i < 0) := Int.not_lt.mpr h0
  have hm : i.toNat ≤ its.length := by omega
  simp [hn, Nat.min_eq_left hm]
  exact List.take_of_length_le (by rw [List.length_drop]; exact Nat.le_refl _)
 ·rw [List.length_append, List.length_cons, List.length_take, List.length_drop]
  omega
end
end L2
set_option maxRecDepth 100000
set_option maxHeartbeats 4000000
namespace Wd
open PySem L2 Ow
def zu7 (l : List Stmt) : List (Nat × Bool) → List Stmt
 | [] => l
 | (i, e) :: p => match l[i]? with
  | some (Stmt.For _ _ b _ _) => zu7 b p
  | some (Stmt.If _ b o _) => zu7 (if e then o else b) p
  | _ => []
def zru (K : PySem.W.Frag) : Sp := fun vs H Q _ => ∃ (pen sp : Addr) (ns : List Int) (m : Nat) (k : Int), vs = [.ref pen, .int (m : Int)] ∧ Pen K H pen sp ns k ∧ 0 ≤ k ∧ k ≤ 900000 ∧ 1 ≤ m ∧ m ≤ 9 ∧
 ∀ (l : Addr) (bs : List PyData) (xs : List V) (k' : Int) (H' : Hp), SameX pen H H' → H' pen = some (.lst [.ref sp, .int k']) → k ≤ k' → k' ≤ k + 80 → H' l = some (.lst xs) → H l = none → DnL H' bs xs → zwb m bs → bs.length ≤ 8 → bs.all (zbr 3) = true → Q (.ref l) H'
def zpw (K : PySem.W.Frag) : Sp := fun vs H Q _ => ∃ (pen sp : Addr) (ns : List Int) (m : Nat) (most : Int) (k : Int), vs = [.ref pen, .int (m : Int), .int most] ∧ Pen K H pen sp ns k ∧ 0 ≤ k ∧ k ≤ 900000 ∧ 1 ≤ m ∧ m ≤ 9 ∧ 0 ≤ most ∧ most ≤ 8 ∧
 ∀ (l : Addr) (cs : List PyData) (xs : List V) (k' : Int) (H' : Hp), SameX pen H H' → H' pen = some (.lst [.ref sp, .int k']) → k ≤ k' → k' ≤ k + 210 → H' l = some (.lst xs) → H l = none → DnL H' cs xs → (∀ c ∈ cs, zil m c = true) → (cs.length : Int) ≤ most → cs.all (zbr 3) = true → Q (.ref l) H'
end Wd
set_option maxRecDepth 100000
set_option maxHeartbeats 4000000
namespace Wd
open PySem L2 Ow
theorem _root_.Ow.GAt.ins {H0 H : Hp} {g l t : Addr} {pre post : List Grp} {u k : Int} (G : GAt H0 H g (pre ++ post)) (hf : H0 l = none) (hl : H l = none) (ht : upd H l (.lst [.int k]) t = none) :
  GAt H0 (upd (upd (upd H l (.lst [.int k])) t (.tup [.int u, .ref l])) g (.lst ((pre.map fun x => V.ref x.t) ++ V.ref t :: (post.map fun x => V.ref x.t)))) g (pre ++ ⟨t, u, l, [k]⟩ :: post) := by
 have A := GAt.add2 (u := u) (k := k) G hf hl ht
 have mem : ∀ x, x ∈ pre ++ ⟨t, u, l, [k]⟩ :: post ↔ x ∈ (pre ++ post) ++ [⟨t, u, l, [k]⟩] := fun x => by
  simp only [List.mem_append, List.mem_cons, List.not_mem_nil, or_false]
  constructor
  ·rintro (h | h | h)
   ·exact .inl (.inl h)
   ·exact .inr h
   ·exact .inl (.inr h)
  ·rintro ((h | h) | h)
   ·exact .inl h
   ·exact .inr (.inr h)
   ·exact .inr (.inl h)
 have other : ∀ (o o' : HO) (b : Addr), b ≠ g → (upd (upd (upd H l (.lst [.int k])) t (.tup [.int u, .ref l])) g o) b = (upd (upd (upd H l (.lst [.int k])) t (.tup [.int u, .ref l])) g o') b := fun o o' b n => by rw [zak n, zak n]
 refine ⟨?_, A.new, fun x hx => ?_, fun x hx => ?_, ?_⟩
 ·rw [zab, List.map_append]
  rfl
 ·have h := A.tup x ((mem x).mp hx)
  have n : x.t ≠ g := fun z => by rw [z, zab] at h; cases h
  rw [other _ _ _ n]
  exact h
 ·have h := A.lst x ((mem x).mp hx)
  refine ⟨?_, h.2⟩
  rw [other _ _ _ (Ne.symm h.2.2)]
  exact h.1
 ·have p : (pre ++ (⟨t, u, l, [k]⟩ : Grp) :: post).Perm ((pre ++ post) ++ [⟨t, u, l, [k]⟩]) := by
   rw [List.append_assoc]
   exact List.Perm.append_left _ (List.perm_append_singleton _ _).symm
  exact ((p.map (·.l)).nodup_iff).mpr A.nd
theorem _root_.Ow.GOk.ins {k : Nat} {pre post : List Grp} {t l : Addr} {u : Int} (G : GOk ((k : Int) + 1) (pre ++ post)) (u0 : 0 ≤ u) (u1 : u < (k : Int) + 1) : GOk ((k : Int) + 2) (pre ++ ⟨t, u, l, [(k : Int) + 1]⟩ :: post) := by
 have A := GOk.new (t := t) (l := l) G u0 u1
 have p : (pre ++ (⟨t, u, l, [(k : Int) + 1]⟩ : Grp) :: post).Perm ((pre ++ post) ++ [⟨t, u, l, [(k : Int) + 1]⟩]) := by
  rw [List.append_assoc]
  exact List.Perm.append_left _ (List.perm_append_singleton _ _).symm
 exact ⟨fun x hx => A.each x (p.mem_iff.mp hx), (List.Perm.flatMap_right _ p).trans A.perm⟩
def zpq (x : Grp) : PyData := .tuple [.int x.up, .list (x.kids.map PyData.int)]
theorem zob : ∀ ks : List Int, PyData.canLayAll0 (ks.map PyData.int) = true ∧ PyData.depthAll (ks.map PyData.int) ≤ 1
 | [] => ⟨by simp [PyData.canLayAll0], by simp [PyData.depthAll]⟩
 | k :: ks => by
  have h := zob ks
  refine ⟨by simp [PyData.canLayAll0, PyData.canLay0, h.1], ?_⟩
  simp only [List.map_cons, PyData.depthAll, PyData.depth]
  omega
theorem znw : ∀ gs : List Grp, PyData.canLayAll0 (gs.map zpq) = true ∧ PyData.depthAll (gs.map zpq) ≤ 5
 | [] => ⟨by simp [PyData.canLayAll0], by simp [PyData.depthAll]⟩
 | x :: gs => by
  have h := znw gs
  have hx := zob x.kids
  refine ⟨by simp [zpq, PyData.canLayAll0, PyData.canLay0, h.1, hx.1], ?_⟩
  simp only [List.map_cons, zpq, PyData.depthAll, PyData.depth]
  omega
theorem zoq (gs : List Grp) : SeqAt.shaped (.list (gs.map zpq)) = true := by
 have h := znw gs
 unfold SeqAt.shaped
 rw [Bool.and_eq_true]
 refine ⟨by simp [PyData.canLay0, h.1], decide_eq_true ?_⟩
 simp only [PyData.depth]
 omega
theorem zgv : SeqAt.shaped (.list []) = true := by decide
theorem zvr : ∀ ds : List PyData, PyData.eqv (.list ds) (.list []) = decide (ds = [])
 | [] => by simp [PyData.eqv, PyData.eqvAll]
 | d :: ds => by simp [PyData.eqv, PyData.eqvAll]
theorem zq3 {H : Hp} : ∀ ks : List Int, DnL H (ks.map PyData.int) (ks.map V.int)
 | [] => rfl
 | k :: ks => ⟨_, _, rfl, rfl, zq3 ks⟩
theorem zqf {H0 H : Hp} {g : Addr} {gs : List Grp} (G : GAt H0 H g gs) : ∀ l : List Grp, (∀ x ∈ l, x ∈ gs) → DnL H (l.map zpq) (l.map fun x => V.ref x.t)
 | [], _ => rfl
 | x :: l, h => by
  have hx := h x List.mem_cons_self
  exact ⟨_, _, rfl, ⟨x.t, _, rfl, G.tup x hx, _, _, rfl, rfl, _, _, rfl, ⟨x.l, _, rfl, (G.lst x hx).1, zq3 x.kids⟩, rfl⟩, zqf G l fun y hy => h y (List.mem_cons_of_mem _ hy)⟩
end Wd
set_option maxRecDepth 100000
set_option maxHeartbeats 4000000
namespace HT
open PySem PySem.Spec PyProof.Rows
section
variable {prog : Program} {w : World} {A : Around} {E : Value → Shared → Prop} {s : Shared}
end
end HT
namespace HT
open PySem PySem.Spec PyProof.Rows
section
variable {prog : Program} {w : World} {A : Around} {E : Value → Shared → Prop} {s : Shared}
end
end HT
namespace L2
open PySem PySem.Spec PyProof.Rows
section
variable {X : Cx} {e st : Expr} {te tst : TE} {pos p2 : Pos}
theorem zpn (hu : X.A.units + 64 < cLine) : OpR X (compareOp .Eq) (fun x y H Q => ∃ d e : PyData, Dn H d x ∧ Dn H e y ∧ SeqAt.shaped d = true ∧ SeqAt.shaped e = true ∧ Q (.bl (PyData.eqv d e)) H) := by
 intro pins s σ H x y v u Q I rx ry h
 obtain ⟨d, e, hd, he, sd, se, q⟩ := h
 obtain ⟨as, ra⟩ := Dn.reads I d x v hd (SeqAt.canLay_of_shaped sd) rx
 obtain ⟨bs, rb⟩ := Dn.reads I e y u he (SeqAt.canLay_of_shaped se) ry
 exact SeqAt.compareEq_shaped ra rb sd se hu ⟨.bl _, H, I, rfl, q⟩
end
end L2
namespace L2
open PySem PySem.Spec PyProof.Rows
section
variable {X : Cx}
end
end L2
namespace Wd
open PySem L2 Ow
mutual
theorem zty : ∀ (n : Nat) (d : PyData), zbr n d = true → PyData.canLay0 d = true ∧ PyData.depth d ≤ n + 1
 | _, .int i, _ => ⟨by simp [PyData.canLay0], by simp only [PyData.depth]; omega⟩
 | n, .str s, h => ⟨by cases n <;> simpa [PyData.canLay0] using (show PyData.strOk s = true from h), by simp only [PyData.depth]; omega⟩
 | n + 1, .tuple ds, h => by
  have z : (decide (ds.length ≤ 1000) && ds.all (zbr n)) = true := h
  rw [Bool.and_eq_true] at z
  obtain ⟨a, b⟩ := ziu n ds z.2
  exact ⟨by simpa [PyData.canLay0] using a, by simp only [PyData.depth]; omega⟩
 | 0, .tuple _, h => by cases h
 | 0, .none, h => by cases h
 | n + 1, .none, h => by cases h
 | 0, .bool _, h => by cases h
 | n + 1, .bool _, h => by cases h
 | 0, .list _, h => by cases h
 | n + 1, .list _, h => by cases h
 | 0, .dict _, h => by cases h
 | n + 1, .dict _, h => by cases h
theorem ziu : ∀ (n : Nat) (ds : List PyData), ds.all (zbr n) = true → PyData.canLayAll0 ds = true ∧ PyData.depthAll ds ≤ n + 1
 | _, [], _ => ⟨by simp [PyData.canLayAll0], by simp only [PyData.depthAll]; omega⟩
 | n, d :: ds, h => by
  rw [List.all_cons, Bool.and_eq_true] at h
  obtain ⟨a1, b1⟩ := zty n d h.1
  obtain ⟨a2, b2⟩ := ziu n ds h.2
  exact ⟨by simp [PyData.canLayAll0, a1, a2], by simp only [PyData.depthAll]; omega⟩
end
end Wd
set_option maxRecDepth 100000
set_option maxHeartbeats 4000000
namespace Wd
open PySem L2 Ow
theorem zvj (a b : Bool) : decide ((if a = true then (1 : Int) else 0) ≤ (if b = true then (1 : Int) else 0)) = (!a || b) := by
 cases a <;> cases b <;> rfl
theorem two_bits (n x y : Nat) : decide (V.int (Builtin.bitAnd (Builtin.bitAnd ((n : Int) / 2 ^ ((x : Nat) : Int).toNat) ((n : Int) / 2 ^ ((y : Nat) : Int).toNat)) 1) = V.int 0) = (!n.testBit x || !n.testBit y) := by
 have e : ∀ k : Nat, (n : Int) / 2 ^ ((k : Nat) : Int).toNat = ((n >>> k : Nat) : Int) := fun k => by
  rw [Int.toNat_natCast, Nat.shiftRight_eq_div_pow, Int.natCast_ediv, Int.natCast_pow]
  rfl
 rw [e, e, zdv, show (1 : Int) = ((1 : Nat) : Int) from rfl, zdv, Nat.and_one_is_mod]
 have b : ((n >>> x &&& n >>> y) % 2 = 1) ↔ (n.testBit x = true ∧ n.testBit y = true) := by
  have h := Nat.testBit_zero (n >>> x &&& n >>> y)
  rw [Nat.testBit_and, Nat.testBit_shiftRight, Nat.testBit_shiftRight, Nat.add_zero, Nat.add_zero] at h
  constructor
  ·intro z
   rw [decide_eq_true z, Bool.and_eq_true] at h
   exact h
  ·intro z
   rw [z.1, z.2] at h
   exact of_decide_eq_true h.symm
 rcases Nat.mod_two_eq_zero_or_one (n >>> x &&& n >>> y) with z | z
 ·rw [z, decide_eq_true (by rfl)]
  symm
  rw [← Bool.not_and, Bool.not_eq_true']
  rw [Bool.eq_false_iff]
  intro w
  rw [Bool.and_eq_true] at w
  have := b.mpr w
  omega
 ·rw [z, (b.mp z).1, (b.mp z).2]
  rfl
def brk (ts : List Tie) (s : Nat) : Nat → Nat
 | 0 => 0
 | i + 1 => brk ts s i ||| (if (ts[i]?.map fun t => t.keep s).getD true = true then 0 else 2 ^ i)
theorem zgi (ts : List Tie) (s : Nat) : ∀ (i k : Nat), (brk ts s i).testBit k = (decide (k < i) && !((ts[k]?.map fun t => t.keep s).getD true))
 | 0, k => by
  show (0 : Nat).testBit k = _
  rw [Nat.zero_testBit]
  rfl
 | i + 1, k => by
  show (brk ts s i ||| _).testBit k = _
  rw [Nat.testBit_or, zgi ts s i k]
  by_cases e : k = i
  ·subst e
   rw [decide_eq_false (Nat.lt_irrefl _), Bool.false_and, Bool.false_or, decide_eq_true (Nat.lt_succ_self _), Bool.true_and]
   cases (ts[k]?.map fun t => t.keep s).getD true
   ·rw [if_neg (by decide), Nat.testBit_two_pow_self]; rfl
   ·rw [if_pos rfl, Nat.zero_testBit]; rfl
  ·have e2 : (if (ts[i]?.map fun t => t.keep s).getD true = true then 0 else 2 ^ i : Nat).testBit k = false := by
    split
    ·exact Nat.zero_testBit _
    ·rw [Nat.testBit_two_pow]; exact decide_eq_false (Ne.symm e)
   rw [e2, Bool.or_false]
   congr 1
   by_cases z : k < i
   ·rw [decide_eq_true z, decide_eq_true (by omega)]
   ·rw [decide_eq_false z, decide_eq_false (by omega)]
theorem zoc (ts : List Tie) (s : Nat) : brk ts s ts.length = 0 ↔ ∀ t ∈ ts, t.keep s = true := by
 constructor
 ·intro h t ht
  obtain ⟨k, hk, e⟩ := List.getElem_of_mem ht
  have b := zgi ts s ts.length k
  rw [h, Nat.zero_testBit, decide_eq_true hk, Bool.true_and, List.getElem?_eq_getElem hk, e] at b
  simpa using b.symm
 ·intro h
  refine Nat.eq_of_testBit_eq fun k => ?_
  rw [Nat.zero_testBit, zgi]
  by_cases hk : k < ts.length
  ·rw [List.getElem?_eq_getElem hk]
   show (_ && !(ts[k].keep s)) = false
   rw [h _ (List.getElem_mem hk)]
   exact Bool.and_false _
  ·rw [decide_eq_false hk]
   rfl
def zq7 : Sp := fun vs H Q _ => ∃ (wd : Addr) (m : Nat) (ts : List Tie), vs = [.ref wd] ∧ WoodT H wd m ts ∧ m ≤ 9 ∧ ts.length ≤ 60 ∧ ∀ (l : Addr) (H' : Hp), Same H H' → H l = none → H' l = some (.lst (zal ((List.range (2 ^ m)).map fun s => brk ts s ts.length))) → Q (.ref l) H'
end Wd
set_option maxRecDepth 100000
set_option maxHeartbeats 4000000
namespace Wd
open PySem L2 Ow
end Wd
set_option maxRecDepth 100000
set_option maxHeartbeats 4000000
namespace Wd
open PySem L2 Ow
def zw1 (m y n s : Nat) : Bool := (List.range m).all fun k => (!y.testBit k || s.testBit k) && (!n.testBit k || !s.testBit k)
def za0 (m y n : Nat) : List Nat := (List.range (2 ^ m)).filter fun s => zw1 m y n s
theorem ze5 {m y n s : Nat} (S : Stand m y n) : zw1 m y n s = true ↔ InS y n s := by
 unfold zw1 InS
 rw [List.all_eq_true]
 constructor
 ·intro h
  constructor
  ·intro k hk
   have km := zp6 S.ym hk
   have := h k (List.mem_range.mpr km)
   rw [hk] at this
   simp at this
   exact this.1
  ·intro k hk
   have km := zp6 S.nm hk
   have := h k (List.mem_range.mpr km)
   rw [hk] at this
   simp at this
   exact this.2
 ·rintro ⟨h1, h2⟩ k _
  cases hy : y.testBit k <;> cases hn : n.testBit k
  ·rfl
  ·rw [h2 k hn]; rfl
  ·rw [h1 k hy]; rfl
  ·rw [h1 k hy]
   have := h2 k hn
   rw [h1 k hy] at this
   cases this
theorem zde {m y n s : Nat} (S : Stand m y n) : s ∈ za0 m y n ↔ s < 2 ^ m ∧ InS y n s := by
 unfold za0
 rw [List.mem_filter, List.mem_range, ze5 S]
theorem zhd {m y n : Nat} (S : Stand m y n) : y ∈ za0 m y n := (zde S).mpr ⟨S.ym, fun _ h => h, fun k hk => by
 cases h : y.testBit k with
 | false => rfl
 | true => rw [S.dj k h] at hk; cases hk⟩
theorem ztu {m y n k : Nat} (S : Stand m y n) (hk : k ∈ zay m y n) : (za0 m y n).filter (fun s => s.testBit k) = za0 m (y ||| 2 ^ k) n := by
 unfold za0
 rw [List.filter_filter]
 refine List.filter_congr fun s hs => ?_
 rw [Bool.eq_iff_iff, Bool.and_eq_true, ze5 S, ze5 (S.one hk)]
 constructor
 ·rintro ⟨h1, h2⟩
  refine ⟨fun j hj => ?_, h2.2⟩
  rw [Nat.testBit_or, Nat.testBit_two_pow, Bool.or_eq_true, decide_eq_true_eq] at hj
  rcases hj with hj | hj
  ·exact h2.1 j hj
  ·rw [← hj]; exact h1
 ·intro h
  exact ⟨h.1 k (by rw [Nat.testBit_or, Nat.testBit_two_pow_self, Bool.or_true]), fun j hj => h.1 j (by rw [Nat.testBit_or, hj, Bool.true_or]), h.2⟩
theorem zp3 {m y n k : Nat} (S : Stand m y n) (hk : k ∈ zay m y n) : (za0 m y n).filter (fun s => !s.testBit k) = za0 m y (n ||| 2 ^ k) := by
 unfold za0
 rw [List.filter_filter]
 refine List.filter_congr fun s hs => ?_
 rw [Bool.eq_iff_iff, Bool.and_eq_true, ze5 S, ze5 (S.other hk)]
 constructor
 ·rintro ⟨h1, h2⟩
  refine ⟨h2.1, fun j hj => ?_⟩
  rw [Nat.testBit_or, Nat.testBit_two_pow, Bool.or_eq_true, decide_eq_true_eq] at hj
  rcases hj with hj | hj
  ·exact h2.2 j hj
  ·rw [← hj]; simpa using h1
 ·intro h
  refine ⟨?_, h.1, fun j hj => h.2 j (by rw [Nat.testBit_or, hj, Bool.true_or])⟩
  rw [h.2 k (by rw [Nat.testBit_or, Nat.testBit_two_pow_self, Bool.or_true])]
  rfl
theorem znz {m y n k : Nat} (S : Stand m y n) (hk : k ∉ zay m y n) : (za0 m y n).filter (fun s => s.testBit k) = [] ∨ (za0 m y n).filter (fun s => s.testBit k) = za0 m y n := by
 by_cases hy : y.testBit k = true
 ·exact .inr (List.filter_eq_self.mpr fun s hs => ((zde S).mp hs).2.1 k hy)
 ·refine .inl (List.filter_eq_nil_iff.mpr fun s hs => ?_)
  obtain ⟨h1, h2⟩ := (zde S).mp hs
  by_cases hn : n.testBit k = true
  ·rw [h2.2 k hn]; decide
  ·by_cases km : k < m
   ·exact absurd (mem_open.mpr ⟨km, by simpa using hy, by simpa using hn⟩) hk
   ·rw [Nat.testBit_lt_two_pow (Nat.lt_of_lt_of_le h1 (Nat.pow_le_pow_right (by decide) (by omega)))]
    decide
theorem zms (g : Nat → Nat) : ∀ (l : List Nat) (a : Nat), ∃ r : Nat, l.foldl (fun (x : Int) s => Builtin.bitAnd x (g s : Int)) (a : Int) = (r : Int) ∧ ∀ k, r.testBit k = (a.testBit k && l.all fun s => (g s).testBit k)
 | [], a => ⟨a, rfl, fun k => by simp⟩
 | s :: l, a => by
  obtain ⟨r, e, h⟩ := zms g l (a &&& g s)
  refine ⟨r, ?_, fun k => ?_⟩
  ·show l.foldl _ (Builtin.bitAnd (a : Int) (g s : Int)) = _
   rw [zdv]
   exact e
  ·rw [h k, Nat.testBit_and, List.all_cons, Bool.and_assoc]
theorem zwl {m y n s : Nat} (S : Stand m y n) (h : InS y n s) : s % 2 ^ m ∈ za0 m y n := by
 refine (zde S).mpr ⟨Nat.mod_lt _ (Nat.two_pow_pos m), fun k hk => ?_, fun k hk => ?_⟩
 ·rw [Nat.testBit_mod_two_pow, h.1 k hk, decide_eq_true (zp6 S.ym hk)]; rfl
 ·rw [Nat.testBit_mod_two_pow, h.2 k hk, Bool.and_false]
theorem zsr {m : Nat} {t : Tie} (ok : t.Ok m) (s : Nat) : t.keep (s % 2 ^ m) = t.keep s := zjk ok fun k hk => by rw [Nat.testBit_mod_two_pow, decide_eq_true hk, Bool.true_and]
theorem zvo {m y n : Nat} {t : Tie} (S : Stand m y n) (ok : t.Ok m) : t.sb y n = (za0 m y n).all fun s => !t.keep s := by
 rw [Bool.eq_iff_iff, zp4 ok S.dj, List.all_eq_true]
 constructor
 ·intro h s hs
  rw [h s ((zde S).mp hs).2]
  rfl
 ·intro h s hs
  have := h _ (zwl S hs)
  rw [zsr ok] at this
  simpa using this
theorem zrb {m y n r : Nat} {ts : List Tie} (S : Stand m y n) (ok : ∀ t ∈ ts, t.Ok m) (h : ∀ k, r.testBit k = (za0 m y n).all fun s => (brk ts s ts.length).testBit k) (k : Nat) : r.testBit k = (decide (k < ts.length) && zfs ts k y n) := by
 rw [h k]
 by_cases hk : k < ts.length
 ·have e : zfs ts k y n = ts[k].sb y n := by unfold zfs; rw [List.getElem?_eq_getElem hk]
  rw [decide_eq_true hk, Bool.true_and, e, zvo S (ok _ (List.getElem_mem hk))]
  congr 1
  funext s
  rw [zgi, decide_eq_true hk, Bool.true_and, List.getElem?_eq_getElem hk]
  rfl
 ·rw [decide_eq_false hk, Bool.false_and, Bool.eq_false_iff]
  intro z
  have := (List.all_eq_true.mp z) y (zhd S)
  rw [zgi, decide_eq_false hk, Bool.false_and] at this
  cases this
theorem zti {m y n : Nat} (m9 : m ≤ 9) : (za0 m y n).length ≤ 512 := by
 unfold za0
 refine Nat.le_trans (List.length_filter_le _ _) ?_
 rw [List.length_range]
 exact Nat.le_trans (Nat.pow_le_pow_right (by decide) m9) (by decide)
end Wd
set_option maxRecDepth 100000
set_option maxHeartbeats 4000000
namespace L2
open PySem PySem.Spec PyProof.Rows
section
variable {κ : Type} [DecidableEq κ]
end
section
variable {P : Program} {w : World} {H : Hp} {h : Heap} {a : Addr}
end
section
variable {X : Cx} {pins : List (Addr × Obj)} {σ : St} {H : Hp} {s : Shared} {a : Addr} {y v : V} {u r : Value} {o : Option V} {A : Around} {E : Value → Shared → Prop}
end
section
variable {X : Cx} {pins : List (Addr × Obj)} {σ : St} {H : Hp} {s : Shared} {a : Addr} {kvs : List (Key × V)} {k : Key} {u : Value} {A : Around} {E : Value → Shared → Prop}
end
section
variable {X : Cx} {o i e value : Expr} {pos pos' tpos : Pos} {td ty tv : TE}
end
section
variable {X : Cx} {pos : Pos}
end
section
variable {X : Cx} {pins : List (Addr × Obj)} {σ : St} {H : Hp} {s : Shared} {a : Addr} {y d : V} {u r : Value} {o : Option V} {A : Around} {E : Value → Shared → Prop}
end
section
variable {X : Cx} {o e f : Expr} {apos cpos : Pos} {td ty tx : TE}
end
section
variable {X : Cx} {pins : List (Addr × Obj)} {σ : St} {H : Hp} {s : Shared} {a : Addr} {kvs : List (Key × V)} {A : Around} {E : Value → Shared → Prop}
end
section
variable {X : Cx} {pins : List (Addr × Obj)} {σ : St} {H : Hp} {s : Shared} {a : Addr} {y : V} {u : Value} {A : Around} {E : Value → Shared → Prop}
end
end L2
namespace L2
open PySem PySem.Spec PyProof.Rows
section
variable {X : Cx}
end
section
variable {κ : Type} [DecidableEq κ]
end
end L2
set_option maxRecDepth 100000
set_option maxHeartbeats 4000000
namespace L2
open PySem PySem.Spec
theorem zwe {X : Cx} {K : PySem.W.Frag} (h : X.K = K := by rfl) : OpR X (compareOp .NotIn) (rIn K true) := h ▸ zd3
@[irreducible] def PEi (X : Cx) (e : Expr) (t : TE) : Prop := PE X e t
@[irreducible] def PSi (X : Cx) (e : Stmt) (t : TS) : Prop := PS X e t
@[irreducible] def PLi (X : Cx) (l : List Stmt) (t : TS) : Prop := PSs X l t
end L2
namespace Wd
open PySem L2 Ow
end Wd
set_option maxRecDepth 100000
set_option maxHeartbeats 4000000
namespace Wd
open PySem L2 Ow
end Wd
set_option maxRecDepth 100000
set_option maxHeartbeats 4000000
namespace L2
open PySem PySem.Spec PyProof.Rows
end L2
namespace Wd
open PySem L2 Ow
end Wd
set_option maxRecDepth 100000
set_option maxHeartbeats 4000000
namespace Wd
open PySem L2 Ow
section
variable {t1 t2 : List Tie} {m f y n : Nat}
end
end Wd
set_option maxRecDepth 100000
set_option maxHeartbeats 4000000
namespace L2
open PySem PySem.Spec PyProof.Rows
end L2
namespace Wd
open PySem L2 Ow
theorem zso {n : Nat} {σ0 σr : St} {H : Hp} {tc : TT} {Q : VK} (gB : Nat → Bool) (h0 : σ0 = none :: σr) (few : n ≤ 1000)
  (ht : ∀ s, s < n → ∀ R : Bool → Hp → Prop, R (gB s) H → tc (some (.int (s : Int)) :: σr) H R)
  (hd : ∀ p, H p = none → Q (.ref p) (upd H p (.lst (zal ((List.range n).filter gB))))) :
  zma (Itr 0 n) (zlj 0) tc (zuv 0) σ0 H Q := by
 refine zeb (k := n) (fun i ys σ H2 => (∃ v, σ = v :: σr) ∧ H2 = H ∧ ys = zal ((List.range i).filter gB)) ⟨⟨none, h0⟩, rfl, rfl⟩ (fun i ys σ H2 hi pv => ?_) (fun i ys σ H2 hi pv => ?_) (fun ys σ H2 pv p hp => ?_)
 ·obtain ⟨_, _, rfl⟩ := pv
  rw [List.length_map]
  refine zam (Nat.le_trans (List.length_filter_le _ _) ?_)
  rw [List.length_range]
  omega
 ·obtain ⟨⟨v, rfl⟩, rfl, rfl⟩ := pv
  refine ht i hi _ ?_
  have e : zal ((List.range (i + 1)).filter gB) = zal ((List.range i).filter gB) ++ (if gB i = true then [.int (i : Int)] else []) := by
   rw [List.range_succ, List.filter_append]
   unfold zal
   rw [List.map_append]
   cases c : gB i
   ·rw [List.filter_cons_of_neg (by rw [c]; decide)]; rfl
   ·rw [List.filter_cons_of_pos c]; rfl
  cases c : gB i
  ·refine zek ?_
   rw [c, if_neg (by decide), List.append_nil] at e
   exact ⟨⟨_, rfl⟩, rfl, e.symm⟩
  ·refine zl9 ?_
   rw [c, if_pos rfl] at e
   exact ⟨_, rfl, ⟨_, rfl⟩, rfl, e.symm⟩
 ·obtain ⟨_, rfl, rfl⟩ := pv
  exact hd p hp
theorem zax {H H1 H2 : Hp} (a : zc5 H H1) (b : zc5 H1 H2) : zc5 H H2 := fun c xs h => b c xs (a c xs h)
end Wd
set_option maxRecDepth 100000
set_option maxHeartbeats 4000000
namespace L2
open PySem PySem.Spec PyProof.Rows
section
variable {X : Cx} {pins : List (Addr × Obj)} {σ : St} {H H' : Hp} {s s' : Shared} {h2 : Heap}
end
section
variable {X : Cx} {pins : List (Addr × Obj)} {σ : St} {H H' : Hp} {s s' : Shared} {h2 : Heap}
end
end L2
set_option maxRecDepth 100000
set_option maxHeartbeats 4000000
namespace L2
open PySem PySem.Spec PyProof.Rows
section
variable {prog : Program} {w : World} {A : Around} {E : Value → Shared → Prop} {h : Heap} {g : Array GenState} {d : Drawn} {t : Nat} {os : OsState} {a D : Addr} {o : Obj} {K : PySem.W.Frag} {bD : List Value}
end
end L2
namespace Wd
open PySem L2 Ow
end Wd
set_option maxRecDepth 100000
set_option maxHeartbeats 4000000
namespace Wd
open PySem L2 Ow
end Wd
set_option maxRecDepth 100000
set_option maxHeartbeats 4000000
namespace L2
open PySem PySem.Spec PyProof.Rows
end L2
set_option maxRecDepth 100000
set_option maxHeartbeats 4000000
namespace L2
open PySem PySem.Spec PyProof.Rows
section
variable {X : Cx} {k : Nat} {f : Addr} {fd : FuncData} {ps : List Str} {x : Str} {p pos : Pos} {e : Expr} {es : List Expr} {t : TA}
end
end L2
set_option maxRecDepth 100000
set_option maxHeartbeats 4000000
namespace Wd
open PySem L2 Ow
end Wd
set_option maxRecDepth 100000
set_option maxHeartbeats 4000000
namespace Ow
open PySem
def zge : Stmt → List Stmt
 | .ClassDef _ _ _ b _ _ _ _ _ _ _ => b
 | _ => []
end Ow
namespace Wd
open PySem L2 Ow
def PickL (H : Hp) : List (Nat × Bool) → List V → Prop
 | [], xs => xs = []
 | p :: ps, xs => ∃ t r, xs = .ref t :: r ∧ H t = some (.tup [.int (p.1 : Int), .bl p.2]) ∧ PickL H ps r
theorem PickL.same {H H' : Hp} (s : zc5 H H') : ∀ {ps : List (Nat × Bool)} {xs : List V}, PickL H ps xs → PickL H' ps xs
 | [], _, h => h
 | _ :: _, _, ⟨t, r, e, h, q⟩ => ⟨t, r, e, s _ _ h, PickL.same s q⟩
theorem PickL.length {H : Hp} : ∀ {ps : List (Nat × Bool)} {xs : List V}, PickL H ps xs → ps.length = xs.length
 | [], _, h => by rw [show _ = [] from h]; rfl
 | _ :: _, _, ⟨t, r, e, _, q⟩ => by rw [e, List.length_cons, List.length_cons, PickL.length q]
theorem PickL.get {H : Hp} : ∀ {ps : List (Nat × Bool)} {xs : List V} {i : Nat} {x : V}, PickL H ps xs → xs[i]? = some x → ∃ p t, ps[i]? = some p ∧ x = .ref t ∧ H t = some (.tup [.int (p.1 : Int), .bl p.2])
 | [], _, i, _, h, e => by rw [show _ = [] from h] at e; cases e
 | p :: ps, _, 0, x, ⟨t, r, e', h, q⟩, e => by rw [e'] at e; cases e; exact ⟨p, t, rfl, rfl, h⟩
 | p :: ps, _, i + 1, x, ⟨t, r, e', h, q⟩, e => by rw [e'] at e; obtain ⟨p', t', h1, h2⟩ := PickL.get (i := i) q (show r[i]? = some x from e); exact ⟨p', t', h1, h2⟩
theorem PickL.snoc {H : Hp} {p : Nat × Bool} {t : Addr} (ht : H t = some (.tup [.int (p.1 : Int), .bl p.2])) : ∀ {ps : List (Nat × Bool)} {xs : List V}, PickL H ps xs → PickL H (ps ++ [p]) (xs ++ [.ref t])
 | [], _, h => by rw [show _ = [] from h]; exact ⟨t, [], rfl, ht, rfl⟩
 | _ :: _, _, ⟨t', r, e, h, q⟩ => ⟨t', r ++ [.ref t], by rw [e]; rfl, h, PickL.snoc ht q⟩
def zaj (ps : List (Nat × Bool)) : Nat := ps.foldl (fun y p => if p.2 = true then y ||| 2 ^ p.1 else y) 1
def zaq (ps : List (Nat × Bool)) : Nat := ps.foldl (fun n p => if p.2 = true then n else n ||| 2 ^ p.1) 0
theorem zhk (ps : List (Nat × Bool)) (p : Nat × Bool) : zaj (ps ++ [p]) = if p.2 = true then zaj ps ||| 2 ^ p.1 else zaj ps := by
 unfold zaj
 rw [List.foldl_append]
 rfl
theorem zjd (ps : List (Nat × Bool)) (p : Nat × Bool) : zaq (ps ++ [p]) = if p.2 = true then zaq ps else zaq ps ||| 2 ^ p.1 := by
 unfold zaq
 rw [List.foldl_append]
 rfl
structure PicksAt (H : Hp) (pl : Addr) (ps : List (Nat × Bool)) : Prop where
 ex : ∃ xs, H pl = some (.lst xs) ∧ PickL H ps xs
 few : ps.length ≤ 20
 le : ∀ p ∈ ps, p.1 ≤ 20
theorem PicksAt.same {H H' : Hp} {pl : Addr} {ps : List (Nat × Bool)} (s : Same H H') (h : PicksAt H pl ps) : PicksAt H' pl ps := by
 obtain ⟨xs, h1, h2⟩ := h.ex
 exact ⟨⟨xs, s _ _ h1, h2.same (Same.tup s)⟩, h.few, h.le⟩
def zl0 : Sp := fun vs H Q _ => ∃ (pl : Addr) (ps : List (Nat × Bool)), vs = [.ref pl] ∧ PicksAt H pl ps ∧ ∀ (t : Addr) (H' : Hp), Same H H' → H' t = some (.tup [.int (zaj ps : Int), .int (zaq ps : Int)]) → Q (.ref t) H'
def ztm : Sp := fun vs H Q _ => ∃ (wd pl : Addr) (m : Nat) (xs ys : List V) (ps : List (Nat × Bool)), vs = [.ref wd, .ref pl] ∧ WoodAt H wd m xs ys ∧ m ≤ 900 ∧ PicksAt H pl ps ∧ ∀ (l : Addr) (H' : Hp), Same H H' → H l = none → H' l = some (.lst (zal (zay m (zaj ps) (zaq ps)))) → Q (.ref l) H'
def zh2 (ts : List Tie) (m y n : Nat) : Option Nat → Prop
 | none => ∀ s, s < 2 ^ m → InS y n s → zbg ts s = false
 | some s => s < 2 ^ m ∧ InS y n s ∧ zbg ts s = true ∧ ∀ s', s' < 2 ^ m → InS y n s' → zbg ts s' = true → s ≤ s'
def zrm : Sp := fun vs H Q _ => ∃ (wd pl : Addr) (m : Nat) (ts : List Tie) (ps : List (Nat × Bool)), vs = [.ref wd, .ref pl] ∧ WoodT H wd m ts ∧ m ≤ 9 ∧ 1 ≤ m ∧ PicksAt H pl ps ∧ Stand m (zaj ps) (zaq ps) ∧ ∀ H' o, Same H H' → zh2 ts m (zaj ps) (zaq ps) o → Q (zgn o) H'
def zu4 : Sp := fun vs H Q _ => ∃ (wd pl tp : Addr) (m : Nat) (ts : List Tie) (ps : List (Nat × Bool)) (p : Nat × Bool), vs = [.ref wd, .ref pl, .ref tp] ∧ WoodT H wd m ts ∧ m ≤ 9 ∧ 1 ≤ m ∧ PicksAt H pl ps ∧ ps.length ≤ 19 ∧ p.1 ≤ 20 ∧ H tp = some (.tup [.int (p.1 : Int), .bl p.2]) ∧ Stand m (zaj (ps ++ [p])) (zaq (ps ++ [p])) ∧ ∀ H' o, Same H H' → zh2 ts m (zaj (ps ++ [p])) (zaq (ps ++ [p])) o → Q (.bl (o.isSome)) H'
abbrev chF (wd pl : Addr) : List (Str × V) := [(("wood" : Str), .ref wd), (("picks" : Str), .ref pl)]
theorem zgh (H : Hp) : zc5 H H := fun _ _ h => h
theorem ze6 {H : Hp} {a : Addr} {o o' : HO} (h : H a = some o) (no : ∀ xs, o ≠ .tup xs) : zc5 H (upd H a o') := fun b xs hb => by
 have n : b ≠ a := fun z => by
  rw [z, h] at hb
  exact no xs (Option.some.inj hb)
 rw [zak n]
 exact hb
structure LstS (H H' : Hp) : Prop where
 lst : ∀ b xs, H b = some (.lst xs) → H' b = some (.lst xs)
 frz : ∀ b o u, H b = some (.frz o u) → H' b = some (.frz o u)
instance {H H' : Hp} : CoeFun (LstS H H') (fun _ => ∀ b xs, H b = some (.lst xs) → H' b = some (.lst xs)) := ⟨LstS.lst⟩
theorem zmy {H H' : Hp} (s : Same H H') : LstS H H' := ⟨fun b xs h => s _ _ h, fun b o u h => s _ _ h⟩
theorem zfb {H H1 H2 : Hp} (a : LstS H H1) (b : LstS H1 H2) : LstS H H2 := ⟨fun c xs h => b c xs (a c xs h), fun c o u h => b.frz c o u (a.frz c o u h)⟩
theorem zjp {H : Hp} {a : Addr} {o o' : HO} (h : H a = some o) (no : ∀ xs, o ≠ .lst xs) (nf : ∀ u v, o ≠ .frz u v := by intro _ _ z; cases z) : LstS H (upd H a o') := ⟨fun b xs hb => by
 have n : b ≠ a := fun z => by
  rw [z, h] at hb
  exact no xs (Option.some.inj hb)
 rw [zak n]
 exact hb, fun b u v hb => by
 have n : b ≠ a := fun z => by
  rw [z, h] at hb
  exact nf u v (Option.some.inj hb)
 rw [zak n]
 exact hb⟩
structure ChS (c : Addr) (H H' : Hp) : Prop where
 keep : ∀ b o, b ≠ c → (∀ ps, o ≠ .tbl ps) → H b = some o → H' b = some o
 tab : ∀ P, zcw H P → zcw H' P
 dom : ∀ b, H' b = none → H b = none
theorem ChS.lst {c : Addr} {H H' : Hp} (s : ChS c H H') {b : Addr} {xs : List V} (n : b ≠ c) (h : H b = some (.lst xs)) : H' b = some (.lst xs) := s.keep b _ n (fun _ z => nomatch z) h
theorem ChS.ins {c : Addr} {H H' : Hp} (s : ChS c H H') {b C dx : Addr} {fs : List (Str × V)} (n : b ≠ c) (h : H b = some (.ins C dx fs)) : H' b = some (.ins C dx fs) := s.keep b _ n (fun _ z => nomatch z) h
theorem zkp {c : Addr} {H H' : Hp} (s : Same H H') : ChS c H H' := ⟨fun b o _ n h => by
 have z := s b o h
 cases o
 case tbl ps => exact absurd rfl (n ps)
 all_goals exact z, fun _ t => s.tab t, fun _ h => s.free h⟩
theorem ze8 {c : Addr} {H H1 H2 : Hp} (a : ChS c H H1) (b : ChS c H1 H2) : ChS c H H2 := ⟨fun p o n t h => b.keep p o n t (a.keep p o n t h), fun P t => b.tab P (a.tab P t), fun p h => a.dom p (b.dom p h)⟩
theorem zgg {H : Hp} {c : Addr} {o o' : HO} (h : H c = some o) (nt : ∀ ps, o ≠ .tbl ps := by intro _ z; cases z) (ne : ∀ φ, o ≠ .ext φ := by intro _ z; cases z) : ChS c H (upd H c o') := ⟨fun b u n _ hb => by rw [zak n]; exact hb, fun P ⟨ps, hP, tr, hp⟩ => by
 have n : P ≠ c := fun z => by
  rw [z, h] at hP
  exact nt ps (Option.some.inj hP)
 refine ⟨ps, by rw [zak n]; exact hP, tr, fun pos => (hp pos).imp id fun ⟨q, z1, z2⟩ => ⟨q, z1, ?_⟩⟩
 have n2 : q ≠ c := fun z => by
  rw [z, h] at z2
  exact ne _ (Option.some.inj z2)
 rw [zak n2]
 exact z2, fun b hb => by
 by_cases z : b = c
 ·rw [z, zab] at hb
  cases hb
 ·rwa [zak z] at hb⟩
def zwp (C : Addr) : Sp := fun vs H Q _ => ∃ (c dx wd : Addr) (m : Nat) (ts : List Tie), vs = [.ref c, .ref wd] ∧ H c = some (.ins C dx []) ∧ WoodT H wd m ts ∧ m ≤ 9 ∧ 1 ≤ m ∧ (∃ s, s < 2 ^ m ∧ zbg ts s = true) ∧ ∀ (pl : Addr) (H' : Hp), zc5 H H' → LstS H H' → ChS c H H' → H pl = none → H' c = some (.ins C dx (chF wd pl)) → PicksAt H' pl [] → Q .non H'
def zwh (C : Addr) : Sp := fun vs H Q _ => ∃ (c dx wd pl : Addr) (m : Nat) (ts : List Tie) (ps : List (Nat × Bool)), vs = [.ref c] ∧ H c = some (.ins C dx (chF wd pl)) ∧ PicksAt H pl ps ∧ WoodT H wd m ts ∧ m ≤ 9 ∧ 1 ≤ m ∧ Stand m (zaj ps) (zaq ps) ∧ ∀ H' o, Same H H' → zh2 ts m (zaj ps) (zaq ps) o → Q (zgn o) H'
def zst (C : Addr) : Sp := fun vs H Q _ => ∃ (c dx wd pl : Addr) (m : Nat) (ts : List Tie) (ps : List (Nat × Bool)) (k : Nat) (b : Bool), vs = [.ref c, .int (k : Int), .bl b] ∧ H c = some (.ins C dx (chF wd pl)) ∧ PicksAt H pl ps ∧ WoodT H wd m ts ∧ m ≤ 9 ∧ 1 ≤ m ∧ ps.length ≤ 18 ∧ k ≤ 20 ∧
 k ∈ zay m (zaj ps) (zaq ps) ∧ Stand m (zaj (ps ++ [(k, b)])) (zaq (ps ++ [(k, b)])) ∧ (∃ s, s < 2 ^ m ∧ InS (zaj (ps ++ [(k, b)])) (zaq (ps ++ [(k, b)])) s ∧ zbg ts s = true) ∧
 ∀ (H' : Hp), zc5 H H' → ChS pl H H' → H' c = some (.ins C dx (chF wd pl)) → PicksAt H' pl (ps ++ [(k, b)]) → Q .non H'
theorem zg5 {ts : List Tie} {m y n : Nat} {o : Option Nat} (h : zh2 ts m y n o) (w : ∃ s, s < 2 ^ m ∧ InS y n s ∧ zbg ts s = true) : ∃ s, o = some s := by
 obtain ⟨s, h1, h2, h3⟩ := w
 cases o with
 | none =>
  have := h s h1 h2
  rw [h3] at this
  cases this
 | some s' => exact ⟨s', rfl⟩
theorem zvm {m : Nat} (h : 1 ≤ m) : Stand m (zaj []) (zaq []) := ⟨fun k _ => Nat.zero_testBit k, (by show 1 < 2 ^ m; exact Nat.one_lt_two_pow (by omega)), (by show 0 < 2 ^ m; exact Nat.pow_pos (by decide))⟩
theorem ztg {ts : List Tie} {s : Nat} (h : zbg ts s = true) : InS (zaj []) (zaq []) s := ⟨fun k hk => by
 have hk' : Nat.testBit 1 k = true := hk
 rw [Nat.testBit_one_eq_true_iff_self_eq_zero] at hk'
 subst hk'
 unfold zbg at h
 exact (Bool.and_eq_true_iff.mp h).1, fun k hk => by
 have hk' : Nat.testBit 0 k = true := hk
 rw [Nat.zero_testBit] at hk'
 cases hk'⟩
end Wd
set_option maxRecDepth 100000
set_option maxHeartbeats 4000000
namespace L2
open PySem PySem.Spec PyProof.Rows
end L2
namespace Wd
open PySem L2 Ow
def zsb (C : Addr) : Sp := fun vs H Q _ => ∃ (c dx wd pl : Addr) (ps : List (Nat × Bool)), vs = [.ref c] ∧ H c = some (.ins C dx (chF wd pl)) ∧ PicksAt H pl ps ∧ ∀ (l : Addr) (H' : Hp), Same H H' → H l = none → PicksAt H' l ps → Q (.ref l) H'
def zvh (K : PySem.W.Frag) : Sp := fun vs H Q _ => ∃ (pen sp : Addr) (ns : List Int) (most k : Int), vs = [.ref pen, .int most] ∧ Pen K H pen sp ns k ∧ 0 ≤ k ∧ k ≤ 700000 ∧ 0 ≤ most ∧ most ≤ 8 ∧
 ∀ (wd : Addr) (m : Nat) (bs cs : List PyData) (k' : Int) (H' : Hp), SameX pen H H' → H' pen = some (.lst [.ref sp, .int k']) → k ≤ k' → k' ≤ k + 400 → 1 ≤ m → m ≤ 9 → WoodX H' wd m bs cs → (cs.length : Int) ≤ most → Q (.ref wd) H'
noncomputable def zfq (ts : List Tie) (m y n : Nat) : Bool := @decide (∃ s, s < 2 ^ m ∧ InS y n s ∧ zbg ts s = true) (Classical.propDecidable _)
theorem leadP_iff {ts : List Tie} {m y n : Nat} : zfq ts m y n = true ↔ ∃ s, s < 2 ^ m ∧ InS y n s ∧ zbg ts s = true := by
 unfold zfq
 exact @decide_eq_true_iff _ (Classical.propDecidable _)
theorem zp5 {ts : List Tie} {m y n : Nat} {o : Option Nat} (h : zh2 ts m y n o) : o.isSome = zfq ts m y n := by
 rw [Bool.eq_iff_iff, leadP_iff]
 cases o with
 | none =>
  refine ⟨(fun z => nomatch z), fun ⟨s, h1, h2, h3⟩ => ?_⟩
  rw [h s h1 h2] at h3
  cases h3
 | some s => exact ⟨fun _ => ⟨s, h.1, h.2.1, h.2.2.1⟩, fun _ => rfl⟩
def zbm (p : Nat × Bool) : PyData := .tuple [.int (p.1 : Int), .bool p.2]
theorem PickL.dn {H : Hp} : ∀ {ps : List (Nat × Bool)} {xs : List V}, PickL H ps xs → DnL H (ps.map zbm) xs
 | [], _, h => h
 | _ :: _, _, ⟨t, r, e, h, q⟩ => ⟨_, _, e, ⟨t, _, rfl, h, _, _, rfl, rfl, _, _, rfl, rfl, rfl⟩, PickL.dn q⟩
theorem zll : ∀ (ps : List (Nat × Bool)), PyData.canLayAll0 (ps.map zbm) = true ∧ PyData.depthAll (ps.map zbm) ≤ 3
 | [] => ⟨by decide, by decide⟩
 | p :: ps => by
  obtain ⟨a, b⟩ := zll ps
  refine ⟨?_, ?_⟩
  ·simp only [List.map_cons, PyData.canLayAll0, a, Bool.and_true]
   simp [zbm, PyData.canLay0, PyData.canLayAll0]
  ·simp only [List.map_cons, PyData.depthAll]
   have : PyData.depth (zbm p) ≤ 3 := by simp only [zbm, PyData.depth, PyData.depthAll]; omega
   omega
theorem zd7 (ps : List (Nat × Bool)) : SeqAt.shaped (.list (ps.map zbm)) = true := by
 obtain ⟨a, b⟩ := zll ps
 unfold SeqAt.shaped
 rw [Bool.and_eq_true]
 refine ⟨by simp [PyData.canLay0, a], decide_eq_true ?_⟩
 simp only [PyData.depth]
 omega
end Wd
set_option maxRecDepth 100000
set_option maxHeartbeats 4000000
namespace Wd
open PySem L2 Ow
def woP (ps : List (Nat × Bool)) (k : Nat) : List (Nat × Bool) := ps.filter fun p => !decide (p.1 = k)
def zw2 (C : Addr) : Sp := fun vs H Q _ => ∃ (c dx wd pl : Addr) (ps : List (Nat × Bool)) (k : Nat), vs = [.ref c, .int (k : Int)] ∧ H c = some (.ins C dx (chF wd pl)) ∧ PicksAt H pl ps ∧ k ∈ ps.map (·.1) ∧ ∀ (pl' : Addr) (H' : Hp), zc5 H H' → LstS H H' → ChS c H H' → H pl' = none → H' c = some (.ins C dx (chF wd pl')) → PicksAt H' pl' (woP ps k) → Q .non H'
def zo5 : Sp := zl0
end Wd
set_option maxRecDepth 100000
set_option maxHeartbeats 4000000
namespace L2
open PySem PySem.Spec PyProof.Rows
end L2
namespace Wd
open PySem L2 Ow
structure KeepA (ex : List Addr) (H H' : Hp) : Prop where
 keep : ∀ b o, b ∉ ex → (∀ ps, o ≠ .tbl ps) → H b = some o → H' b = some o
 tab : ∀ P, zcw H P → zcw H' P
 dom : ∀ b, H' b = none → H b = none
theorem KeepA.refl (ex : List Addr) (H : Hp) : KeepA ex H H := ⟨fun _ _ _ _ h => h, fun _ h => h, fun _ h => h⟩
theorem KeepA.same {ex : List Addr} {H H1 H2 : Hp} (k : KeepA ex H H1) (s : Same H1 H2) : KeepA ex H H2 := ⟨fun b o n t h => (zkp (c := b + 1) s).keep b o (Nat.ne_of_lt (Nat.lt_succ_self b)) t (k.keep b o n t h), fun P t => s.tab (k.tab P t), fun b h => k.dom b (s.free h)⟩
theorem KeepA.ch {ex : List Addr} {c : Addr} {H H1 H2 : Hp} (k : KeepA ex H H1) (s : ChS c H1 H2) (hc : c ∈ ex ∨ H c = none) : KeepA ex H H2 := ⟨fun b o n t h => s.keep b o (fun z => by
 rcases hc with hc | hc
 ·rw [z] at n; exact n hc
 ·rw [z, hc] at h; cases h) t (k.keep b o n t h), fun P t => s.tab P (k.tab P t), fun b h => k.dom b (s.dom b h)⟩
theorem KeepA.pen {ex : List Addr} {pen : Addr} {ys ys' : List V} {H H1 H2 : Hp} (k : KeepA ex H H1) (s : SameX pen H1 H2) (hp : pen ∈ ex ∨ H pen = none) (h1 : H1 pen = some (.lst ys)) (h2 : H2 pen = some (.lst ys')) : KeepA ex H H2 := ⟨fun b o n t h => by
 have z := s b o (fun y => by
  rcases hp with hp | hp
  ·rw [y] at n; exact n hp
  ·rw [y, hp] at h; cases h) (k.keep b o n t h)
 cases o
 case tbl ps => exact absurd rfl (t ps)
 all_goals exact z, fun P t => SameX.tab s h1 (k.tab P t), fun b h => k.dom b (s.free ⟨_, h2⟩ h)⟩
theorem KeepA.lst {ex : List Addr} {H H' : Hp} (k : KeepA ex H H') {b : Addr} {xs : List V} (n : b ∉ ex) (h : H b = some (.lst xs)) : H' b = some (.lst xs) := k.keep b _ n (fun _ z => nomatch z) h
theorem zor {K : PySem.W.Frag} {H H' : Hp} {pen sp : Addr} {ns : List Int} {k : Int} (hS : SqL K H sp (ns.map V.int)) (hl : ns.length ≤ 63) (kp : KeepA [] H H') (hp : H pen = none) (e : H' pen = some (.lst [.ref sp, .int k])) : Pen K H' pen sp ns k := by
 refine ⟨e, hl, fun H2 s2 => ?_⟩
 have n : ∀ o, H sp = some o → sp ≠ pen := fun o h z => by rw [z, hp] at h; cases h
 rcases hS with (h | ⟨o, h⟩) | h
 ·exact .inl (.inl (s2 _ _ (n _ h) (kp.keep _ _ (fun z => nomatch z) (by intro _ z; cases z) h)))
 ·exact .inl (.inr ⟨o, s2 _ _ (n _ h) (kp.keep _ _ (fun z => nomatch z) (by intro _ z; cases z) h)⟩)
 ·exact .inr h
def zfn (B : List Nat) (ti : Int) (y n s : Nat) : Bool := decide (s &&& y = y) && (decide (s &&& n = 0) && decide (Builtin.bitAnd (((B[s]?).getD 0 : Nat) : Int) ti = 0))
def zbk (B : List Nat) (ti : Int) (y n : Nat) : List Nat := (List.range B.length).filter (zfn B ti y n)
def zvn : Sp := fun vs H Q _ => ∃ (bl pl : Addr) (B : List Nat) (ti : Int) (ps : List (Nat × Bool)), vs = [.ref bl, .int ti, .ref pl] ∧ H bl = some (.lst (zal B)) ∧ B.length ≤ 512 ∧ PicksAt H pl ps ∧ ∀ (l : Addr) (H' : Hp), Same H H' → H l = none → H' l = some (.lst (zal (zbk B ti (zaj ps) (zaq ps)))) → Q (.ref l) H'
theorem zs0 (x : Nat) : Builtin.bitAnd (x : Int) (-1) = (x : Int) := by
 unfold Builtin.bitAnd
 rw [decide_eq_true (show (0 : Int) ≤ (x : Int) by omega), decide_eq_false (show ¬ (0 : Int) ≤ -1 by omega)]
 show (x : Int) - ((x : Int).toNat &&& (Builtin.bitNot (-1)).toNat : Nat) = _
 rw [show (Builtin.bitNot (-1)).toNat = 0 by decide, Nat.and_zero]
 omega
theorem in_iff {y n s : Nat} : InS y n s ↔ s &&& y = y ∧ s &&& n = 0 := ⟨fun h => ⟨land_yes.mpr h.1, land_no.mpr h.2⟩, fun h => ⟨land_yes.mp h.1, land_no.mp h.2⟩⟩
def brN (m : Nat) (ts : List Tie) : List Nat := (List.range (2 ^ m)).map fun s => brk ts s ts.length
theorem zb4 (m : Nat) (ts : List Tie) : (brN m ts).length = 2 ^ m := by
 unfold brN
 rw [List.length_map, List.length_range]
theorem zmo {m s : Nat} {ts : List Tie} (h : s < 2 ^ m) : (brN m ts)[s]? = some (brk ts s ts.length) := by
 unfold brN
 rw [List.getElem?_map, List.getElem?_range h]
 rfl
theorem zfy {m s y n : Nat} {ts : List Tie} (y0 : y.testBit 0 = true) : s ∈ zbk (brN m ts) (-1) y n ↔ s < 2 ^ m ∧ InS y n s ∧ zbg ts s = true := by
 unfold zbk
 rw [List.mem_filter, List.mem_range, zb4]
 constructor
 ·rintro ⟨h1, h2⟩
  unfold zfn at h2
  rw [zmo h1, Option.getD_some, zs0] at h2
  simp only [Bool.and_eq_true, decide_eq_true_eq] at h2
  have i := in_iff.mpr ⟨h2.1, h2.2.1⟩
  refine ⟨h1, i, ?_⟩
  unfold zbg
  rw [i.1 0 y0, Bool.true_and, List.all_eq_true]
  exact (zoc ts s).mp (by omega)
 ·rintro ⟨h1, i, h3⟩
  refine ⟨h1, ?_⟩
  unfold zfn
  rw [zmo h1, Option.getD_some, zs0]
  simp only [Bool.and_eq_true, decide_eq_true_eq]
  unfold zbg at h3
  rw [Bool.and_eq_true, List.all_eq_true] at h3
  have := (zoc ts s).mpr h3.2
  exact ⟨(in_iff.mp i).1, (in_iff.mp i).2, by omega⟩
theorem zdq (ps : List (Nat × Bool)) : (zaj ps).testBit 0 = true := by
 have : ∀ (ps : List (Nat × Bool)) (y : Nat), y.testBit 0 = true → (ps.foldl (fun y p => if p.2 = true then y ||| 2 ^ p.1 else y) y).testBit 0 = true := by
  intro ps
  induction ps with
  | nil => intro y h; exact h
  | cons p ps ih =>
   intro y h
   rw [List.foldl_cons]
   refine ih _ ?_
   split
   ·rw [Nat.testBit_or, h]; rfl
   ·exact h
 exact this ps 1 (by decide)
theorem zr0 {m : Nat} {ts : List Tie} : zbk (brN m ts) (-1) (zaj []) (zaq []) = zhe m ts := by
 unfold zbk zhe
 rw [zb4]
 refine List.filter_congr fun s hs => ?_
 have h1 := List.mem_range.mp hs
 rw [Bool.eq_iff_iff]
 have e : s ∈ zbk (brN m ts) (-1) (zaj []) (zaq []) ↔ zfn (brN m ts) (-1) (zaj []) (zaq []) s = true := by
  unfold zbk
  rw [List.mem_filter, List.mem_range, zb4]
  exact ⟨fun z => z.2, fun z => ⟨h1, z⟩⟩
 rw [← e, zfy (zdq [])]
 exact ⟨fun z => z.2.2, fun z => ⟨h1, ztg z, z⟩⟩
theorem zbs : ∀ (ps : List (Nat × Bool)) (k : Nat), (zaj ps).testBit k = true ↔ k = 0 ∨ (k, true) ∈ ps := by
 have main : ∀ (ps : List (Nat × Bool)) (y k : Nat), (ps.foldl (fun y p => if p.2 = true then y ||| 2 ^ p.1 else y) y).testBit k = true ↔ y.testBit k = true ∨ (k, true) ∈ ps := by
  intro ps
  induction ps with
  | nil => intro y k; simp
  | cons p ps ih =>
   intro y k
   rw [List.foldl_cons, ih, List.mem_cons]
   obtain ⟨j, b⟩ := p
   cases b
   ·simp
   ·rw [if_pos rfl, Nat.testBit_or, Nat.testBit_two_pow, Bool.or_eq_true, decide_eq_true_iff, Prod.mk.injEq]
    constructor
    ·rintro ((z | z) | z)
     ·exact .inl z
     ·exact .inr (.inl ⟨z.symm, rfl⟩)
     ·exact .inr (.inr z)
    ·rintro (z | ⟨z, _⟩ | z)
     ·exact .inl (.inl z)
     ·exact .inl (.inr z.symm)
     ·exact .inr z
 intro ps k
 rw [show zaj ps = ps.foldl (fun y p => if p.2 = true then y ||| 2 ^ p.1 else y) 1 from rfl, main, Nat.testBit_one_eq_true_iff_self_eq_zero]
theorem zc6 : ∀ (ps : List (Nat × Bool)) (k : Nat), (zaq ps).testBit k = true ↔ (k, false) ∈ ps := by
 have main : ∀ (ps : List (Nat × Bool)) (y k : Nat), (ps.foldl (fun n p => if p.2 = true then n else n ||| 2 ^ p.1) y).testBit k = true ↔ y.testBit k = true ∨ (k, false) ∈ ps := by
  intro ps
  induction ps with
  | nil => intro y k; simp
  | cons p ps ih =>
   intro y k
   rw [List.foldl_cons, ih, List.mem_cons]
   obtain ⟨j, b⟩ := p
   cases b
   ·rw [if_neg Bool.false_ne_true, Nat.testBit_or, Nat.testBit_two_pow, Bool.or_eq_true, decide_eq_true_iff, Prod.mk.injEq]
    constructor
    ·rintro ((z | z) | z)
     ·exact .inl z
     ·exact .inr (.inl ⟨z.symm, rfl⟩)
     ·exact .inr (.inr z)
    ·rintro (z | ⟨z, _⟩ | z)
     ·exact .inl (.inl z)
     ·exact .inl (.inr z.symm)
     ·exact .inr z
   ·simp
 intro ps k
 rw [show zaq ps = ps.foldl (fun n p => if p.2 = true then n else n ||| 2 ^ p.1) 0 from rfl, main, Nat.zero_testBit]
 simp
theorem zkr (p q : Nat × Bool) : PyData.eqv (zbm p) (zbm q) = decide (p = q) := by
 obtain ⟨a, b⟩ := p
 obtain ⟨c, d⟩ := q
 rw [Bool.eq_iff_iff, decide_eq_true_iff, Prod.mk.injEq]
 cases b <;> cases d <;> simp [zbm, PyData.eqv, PyData.eqvAll] <;> omega
theorem zc2 (p : Nat × Bool) : SeqAt.shaped (zbm p) = true := by
 unfold SeqAt.shaped
 rw [Bool.and_eq_true]
 exact ⟨by simp [zbm, PyData.canLay0, PyData.canLayAll0], decide_eq_true (by simp only [zbm, PyData.depth, PyData.depthAll]; omega)⟩
theorem zne {w : Nat → Nat} (h : ∀ k, 1 ≤ w k) : ∀ (ks : List Nat) (j : Nat) (g : Nat → Nat), j ≤ ks.length → 1 ≤ g j → 1 ≤ ziz w ks g
 | [], 0, g, _, h1 => h1
 | [], _ + 1, _, hj, _ => absurd hj (Nat.not_succ_le_zero _)
 | c :: cs, j, g, hj, h1 => by
  show 1 ≤ ziz w cs g + w c * ziz w cs fun j => g (j + 1)
  by_cases z : j ≤ cs.length
  ·have := zne h cs j g z h1
   omega
  ·obtain ⟨i, rfl⟩ : ∃ i, j = i + 1 := ⟨j - 1, by omega⟩
   have := zne h cs i (fun j => g (j + 1)) (by rw [List.length_cons] at hj; omega) h1
   have := Nat.mul_le_mul (h c) this
   omega
theorem zxu {m : Nat} {b : Bg} (ok : Tie.BoughOk m b.u b.lo b.hi b.ks) {w : Nat → Nat} (h : ∀ k, 1 ≤ w k) : 1 ≤ b.F w := by
 have h1 := ok.lo0
 have h2 := ok.lohi
 have h3 := ok.hik
 refine zne h b.ks b.lo.toNat b.ind (by omega) ?_
 unfold Bg.ind
 rw [decide_eq_true (by omega), decide_eq_true (by omega)]
 exact Nat.le_refl 1
theorem zni {m : Nat} : ∀ (L : List Bg) (w : Nat → Nat), (∀ b ∈ L, Tie.BoughOk m b.u b.lo b.hi b.ks) → (∀ k, 1 ≤ w k) → ∀ k, 1 ≤ L.foldl zft w k
 | [], _, _, h, k => h k
 | b :: L, w, ok, h, k => by
  rw [List.foldl_cons]
  refine zni L _ (fun x hx => ok x (List.mem_cons_of_mem _ hx)) (fun j => ?_) k
  unfold zft
  split
  ·exact Nat.mul_le_mul (h j) (zxu (ok b List.mem_cons_self) h)
  ·exact h j
theorem zr7 {m : Nat} {L : List Bg} (T : TreeB m L) : ∃ s, s < 2 ^ m ∧ zbg (L.map Bg.tie) s = true := by
 have p : 1 ≤ zua m L 0 := zni (m := m) _ _ (fun b hb => T.ok b ((zf7 T.lt).mp hb)) (fun _ => Nat.le_refl 1) 0
 rw [← zpc T] at p
 cases e : zhe m (L.map Bg.tie) with
 | nil => rw [e] at p; exact absurd p (by decide)
 | cons s r => exact ⟨s, mem_wareL.mp (by rw [e]; exact List.mem_cons_self)⟩
theorem WoodX.bare {H : Hp} {wd : Addr} {m : Nat} {bs : List PyData} (h : WoodX H wd m bs []) : ∃ ts : List Tie, (∃ s, s < 2 ^ m ∧ zbg ts s = true) ∧ (∀ t ∈ ts, t.Ok m) ∧ ts.length ≤ 29 ∧ ∀ H', zc5 H H' → WoodT H' wd m ts := by
 obtain ⟨L, e, f⟩ := zs3 h rfl
 have B := f H (zgh H)
 exact ⟨L.map Bg.tie, zr7 B.T, B.woodT.ok, by rw [List.length_map]; have := B.few; omega, fun H' t => (f H' t).woodT⟩
theorem WoodX.cut {H H' : Hp} {wd wd' tb tc te : Addr} {m : Nat} {bs cs : List PyData} (h : WoodX H wd m bs cs) (hw : H wd = some (.tup [.int (m : Int), .ref tb, .ref tc])) (t : zc5 H H') (h1 : H' wd' = some (.tup [.int (m : Int), .ref tb, .ref te])) (h2 : H' te = some (.tup [])) : WoodX H' wd' m bs [] := by
 obtain ⟨xs, ys, ⟨tb', tc', w1, w2, w3⟩, db, dc⟩ := h.ex
 rw [hw] at w1
 have e : tb = tb' := by
  injection w1 with w1
  injection w1 with w1
  injection w1 with _ w1
  injection w1 with w1 _
  injection w1
 subst e
 exact ⟨⟨xs, [], ⟨tb, te, h1, t _ _ w2, h2⟩, DnL.tupS t h.fb db, rfl⟩, h.gb, (fun _ z => nomatch z), h.b8, Nat.zero_le _, h.fb, rfl, h.m1, h.m9⟩
end Wd
set_option maxRecDepth 100000
set_option maxHeartbeats 4000000
namespace Wd
open PySem L2 Ow
structure PickOk (m : Nat) (ps : List (Nat × Bool)) : Prop where
 in_ : ∀ p ∈ ps, 1 ≤ p.1 ∧ p.1 < m
 nd : (ps.map (·.1)).Nodup
theorem PickOk.nil (m : Nat) : PickOk m [] := ⟨fun _ z => (nomatch z), List.nodup_nil⟩
theorem zny : ∀ {m : Nat} {l : List Nat}, l.Nodup → (∀ k ∈ l, k < m) → l.length ≤ m
 | 0, [], _, _ => Nat.le_refl _
 | 0, k :: l, _, h => absurd (h k List.mem_cons_self) (Nat.not_lt_zero _)
 | m + 1, l, nd, h => by
  have h1 : (l.filter (· ≠ m)).length ≤ m := zny (nd.filter _) fun k hk => by
   obtain ⟨a, b⟩ := List.mem_filter.mp hk
   have := h k a
   have : k ≠ m := by simpa using b
   omega
  have h2 : l.length ≤ (l.filter (· ≠ m)).length + 1 := by
   clear h1 h
   induction l with
   | nil => exact Nat.zero_le _
   | cons x l ih =>
    obtain ⟨hx, nd'⟩ := List.nodup_cons.mp nd
    by_cases e : x = m
    ·have : l.filter (· ≠ m) = l := List.filter_eq_self.mpr fun k hk => by
      have : k ≠ m := fun z => hx (by rw [e, ← z]; exact hk)
      simpa using this
     rw [List.filter_cons_of_neg (by simpa using e), this]
     exact Nat.le_refl _
    ·rw [List.filter_cons_of_pos (by simpa using e)]
     have := ih nd'
     simp only [List.length_cons]
     omega
  omega
theorem PickOk.len {m : Nat} {ps : List (Nat × Bool)} (h : PickOk m ps) : ps.length ≤ m := by
 have := zny h.nd fun k hk => by
  obtain ⟨p, hp, rfl⟩ := List.mem_map.mp hk
  exact (h.in_ p hp).2
 rwa [List.length_map] at this
theorem PickOk.one {m : Nat} {ps : List (Nat × Bool)} (h : PickOk m ps) {k : Nat} (h1 : (k, true) ∈ ps) (h2 : (k, false) ∈ ps) : False := by
 have nd := h.nd
 clear h
 induction ps with
 | nil => cases h1
 | cons p ps ih =>
  rw [List.map_cons, List.nodup_cons] at nd
  rcases List.mem_cons.mp h1 with e | e <;> rcases List.mem_cons.mp h2 with e' | e'
  ·rw [← e] at e'; cases e'
  ·exact nd.1 (by rw [← e]; exact List.mem_map.mpr ⟨_, e', rfl⟩)
  ·exact nd.1 (by rw [← e']; exact List.mem_map.mpr ⟨_, e, rfl⟩)
  ·exact ih e e' nd.2
theorem PickOk.stand {m : Nat} {ps : List (Nat × Bool)} (m1 : 1 ≤ m) (h : PickOk m ps) : Stand m (zaj ps) (zaq ps) := by
 refine ⟨fun k hk => ?_, Nat.lt_pow_two_of_testBit _ fun k hk => ?_, Nat.lt_pow_two_of_testBit _ fun k hk => ?_⟩
 ·rw [Bool.eq_false_iff]
  intro z
  have z := (zc6 ps k).mp z
  rcases (zbs ps k).mp hk with y | y
  ·have := (h.in_ _ z).1
   simp only at this
   omega
  ·exact h.one y z
 ·rw [Bool.eq_false_iff]
  intro z
  rcases (zbs ps k).mp z with y | y
  ·omega
  ·have := (h.in_ _ y).2
   simp only at this
   omega
 ·rw [Bool.eq_false_iff]
  intro z
  have := (h.in_ _ ((zc6 ps k).mp z)).2
  simp only at this
  omega
theorem mem_openP {m k : Nat} {ps : List (Nat × Bool)} : k ∈ zay m (zaj ps) (zaq ps) ↔ k < m ∧ 1 ≤ k ∧ k ∉ ps.map (·.1) := by
 rw [mem_open]
 constructor
 ·rintro ⟨h1, h2, h3⟩
  refine ⟨h1, ?_, fun z => ?_⟩
  ·by_cases e : k = 0
   ·rw [e, zdq] at h2
    cases h2
   ·omega
  ·obtain ⟨⟨j, b⟩, hp, e⟩ := List.mem_map.mp z
   cases (show j = k from e)
   cases b
   ·rw [(zc6 ps k).mpr hp] at h3
    cases h3
   ·rw [(zbs ps k).mpr (.inr hp)] at h2
    cases h2
 ·rintro ⟨h1, h2, h3⟩
  refine ⟨h1, ?_, ?_⟩ <;> rw [Bool.eq_false_iff] <;> intro z
  ·rcases (zbs ps k).mp z with y | y
   ·omega
   ·exact h3 (List.mem_map.mpr ⟨_, y, rfl⟩)
  ·exact h3 (List.mem_map.mpr ⟨_, (zc6 ps k).mp z, rfl⟩)
theorem PickOk.snoc {m k : Nat} {b : Bool} {ps : List (Nat × Bool)} (h : PickOk m ps) (ho : k ∈ zay m (zaj ps) (zaq ps)) : PickOk m (ps ++ [(k, b)]) := by
 obtain ⟨h1, h2, h3⟩ := mem_openP.mp ho
 refine ⟨fun p hp => ?_, ?_⟩
 ·rcases List.mem_append.mp hp with z | z
  ·exact h.in_ p z
  ·rw [List.mem_singleton.mp z]
   exact ⟨h2, h1⟩
 ·rw [List.map_append, List.nodup_append]
  refine ⟨h.nd, by simp, fun x hx y hy => ?_⟩
  rw [List.map_cons, List.map_nil] at hy
  rw [List.mem_singleton.mp hy]
  intro z
  rw [z] at hx
  exact h3 hx
theorem PickOk.wo {m k : Nat} {ps : List (Nat × Bool)} (h : PickOk m ps) : PickOk m (woP ps k) :=
 ⟨fun p hp => h.in_ p (List.mem_filter.mp hp).1, h.nd.sublist (List.Sublist.map _ List.filter_sublist)⟩
theorem sets_lead {ts : List Tie} {m : Nat} {ps : List (Nat × Bool)} : (zbk (brN m ts) (-1) (zaj ps) (zaq ps) = []) ↔ zfq ts m (zaj ps) (zaq ps) = false := by
 rw [Bool.eq_false_iff]
 constructor
 ·intro h z
  obtain ⟨s, hs⟩ := leadP_iff.mp z
  have := (zfy (zdq ps)).mpr hs
  rw [h] at this
  cases this
 ·intro h
  rw [List.eq_nil_iff_forall_not_mem]
  intro s hs
  exact h (leadP_iff.mpr ⟨s, (zfy (zdq ps)).mp hs⟩)
theorem zqv (B : List Nat) (ti : Int) (y n : Nat) : (zbk B ti y n).Pairwise (· < ·) := List.Pairwise.filter _ List.pairwise_lt_range
theorem zpe {ts : List Tie} {m s : Nat} {ps : List (Nat × Bool)} (h : zh2 ts m (zaj ps) (zaq ps) (some s)) : (zbk (brN m ts) (-1) (zaj ps) (zaq ps))[0]? = some s := by
 obtain ⟨h1, h2, h3, h4⟩ := h
 have hm := (zfy (zdq ps)).mpr ⟨h1, h2, h3⟩
 cases e : zbk (brN m ts) (-1) (zaj ps) (zaq ps) with
 | nil => rw [e] at hm; cases hm
 | cons x r =>
  have hx : x ∈ zbk (brN m ts) (-1) (zaj ps) (zaq ps) := by rw [e]; exact List.mem_cons_self
  obtain ⟨x1, x2, x3⟩ := (zfy (zdq ps)).mp hx
  have le := h4 x x1 x2 x3
  have pw := zqv (brN m ts) (-1) (zaj ps) (zaq ps)
  rw [e] at pw hm
  rcases List.mem_cons.mp hm with z | z
  ·rw [z]; rfl
  ·have := (List.pairwise_cons.mp pw).1 s z
   omega
theorem PickL.append {H : Hp} : ∀ {ps qs : List (Nat × Bool)} {xs ys : List V}, PickL H ps xs → PickL H qs ys → PickL H (ps ++ qs) (xs ++ ys)
 | [], _, _, _, h, q => by rw [show _ = [] from h]; exact q
 | _ :: _, _, _, _, ⟨t, r, e, h, p⟩, q => ⟨t, r ++ _, by rw [e]; rfl, h, PickL.append p q⟩
theorem zbj {H : Hp} {p pen sp : Addr} {k : Int} {ps : List (Nat × Bool)} (h : PicksAt H p ps) (hp : H pen = some (.lst [.ref sp, .int k])) : p ≠ pen := fun z => by
 obtain ⟨xs, h1, h2⟩ := h.ex
 rw [z, hp] at h1
 cases h1
 cases ps with
 | nil => cases h2
 | cons q ps =>
  obtain ⟨t, r, e, _, h3⟩ := h2
  cases e
  cases ps with
  | nil => cases h3
  | cons q' ps =>
   obtain ⟨t, r, e, _⟩ := h3
   cases e
theorem PicksAt.x {H H' : Hp} {p pen : Addr} {ys : List V} {ps : List (Nat × Bool)} (h : PicksAt H p ps) (hp : H pen = some (.lst ys)) (n : p ≠ pen) (s : SameX pen H H') : PicksAt H' p ps := by
 obtain ⟨xs, h1, h2⟩ := h.ex
 exact ⟨⟨xs, s _ _ n h1, h2.same (SameX.tup hp s)⟩, h.few, h.le⟩
theorem PicksAt.ch {H H' : Hp} {p c : Addr} {ps : List (Nat × Bool)} (h : PicksAt H p ps) (n : p ≠ c) (t : zc5 H H') (s : ChS c H H') : PicksAt H' p ps := by
 obtain ⟨xs, h1, h2⟩ := h.ex
 exact ⟨⟨xs, s.lst n h1, h2.same t⟩, h.few, h.le⟩
def woI (ps : List (Nat × Bool)) (k : Int) : List (Nat × Bool) := ps.filter fun p => !decide ((p.1 : Int) = k)
theorem zu6 (ps : List (Nat × Bool)) (k : Nat) : woI ps (k : Int) = woP ps k := by
 unfold woI woP
 refine List.filter_congr fun p _ => ?_
 congr 1
 rw [Bool.eq_iff_iff, decide_eq_true_iff, decide_eq_true_iff]
 omega
theorem zs8 {ps : List (Nat × Bool)} {k : Int} (h : ∀ kn : Nat, k = kn → kn ∉ ps.map (·.1)) : woI ps k = ps := by
 unfold woI
 refine List.filter_eq_self.mpr fun p hp => ?_
 rw [Bool.not_eq_true', decide_eq_false_iff_not]
 intro z
 exact h p.1 z.symm (List.mem_map.mpr ⟨p, hp, rfl⟩)
theorem zuj {ps : List (Nat × Bool)} {k : Nat} (h : k ∈ ps.map (·.1)) : (woP ps k).length < ps.length := by
 obtain ⟨p, hp, rfl⟩ := List.mem_map.mp h
 unfold woP
 refine List.length_filter_lt_length_iff_exists.mpr ⟨p, hp, by simp⟩
theorem zwz {ps : List (Nat × Bool)} {k s : Nat} (h : InS (zaj ps) (zaq ps) s) : InS (zaj (woP ps k)) (zaq (woP ps k)) s := by
 refine ⟨fun j hj => h.1 j ?_, fun j hj => h.2 j ?_⟩
 ·rcases (zbs _ j).mp hj with z | z
  ·exact (zbs _ j).mpr (.inl z)
  ·exact (zbs _ j).mpr (.inr (List.mem_filter.mp z).1)
 ·exact (zc6 _ j).mpr (List.mem_filter.mp ((zc6 _ j).mp hj)).1
theorem KeepA.comp {ex ex' : List Addr} {H H1 H2 : Hp} (k : KeepA ex H H1) (k' : KeepA ex' H1 H2) (h : ∀ c ∈ ex', c ∈ ex ∨ H c = none) : KeepA ex H H2 := ⟨fun b o n t e => k'.keep b o (fun z => by
 rcases h b z with y | y
 ·exact n y
 ·rw [y] at e; cases e) t (k.keep b o n t e), fun P t => k'.tab P (k.tab P t), fun b e => k.dom b (k'.dom b e)⟩
theorem zoy {a b c d : Addr} (h1 : d ≠ a) (h2 : d ≠ b) (h3 : d ≠ c) : d ∉ [a, b, c] := fun z => by
 simp only [List.mem_cons, List.not_mem_nil, or_false] at z
 rcases z with z | z | z
 ·exact h1 z
 ·exact h2 z
 ·exact h3 z
theorem zy0 {a b c : Addr} {P : Addr → Prop} (h1 : P a) (h2 : P b) (h3 : P c) : ∀ d ∈ [a, b, c], P d := fun d z => by
 simp only [List.mem_cons, List.not_mem_nil, or_false] at z
 rcases z with rfl | rfl | rfl <;> assumption
end Wd
set_option maxRecDepth 100000
set_option maxHeartbeats 4000000
namespace Kst
open PySem PySem.W PyProof.Rows
def ev {α : Type} (lt : Nat → Nat → Bool) : KasT α → α
 | .ret a => a
 | .ask i j k => ev lt (k (lt i j))
theorem zgd {α β : Type} {lt : Nat → Nat → Bool} {f : α → KasT β} : ∀ t : KasT α, ev lt (t.bind f) = ev lt (f (ev lt t))
 | .ret _ => rfl
 | .ask i j k => zgd (k (lt i j))
def zfv {α : Type} (lt : Nat → Nat → Bool) (ok : Nat → Nat → Prop) : KasT α → Prop
 | .ret _ => True
 | .ask i j k => ok i j ∧ zfv lt ok (k (lt i j))
theorem zed {α β : Type} {lt : Nat → Nat → Bool} {ok : Nat → Nat → Prop} {f : α → KasT β} : ∀ t : KasT α, zfv lt ok t → zfv lt ok (f (ev lt t)) → zfv lt ok (t.bind f)
 | .ret _, _, h => h
 | .ask i j k, h1, h2 => ⟨h1.1, zed (k (lt i j)) h1.2 h2⟩
theorem zv5 {α : Type} {lt : Nat → Nat → Bool} {ok : Nat → Nat → Prop} {cmp : Nat → Nat → (Bool → Shared → Prop) → Shared → Prop} {Q : α → Shared → Prop} {s : Shared} (hc : ∀ i j C, ok i j → C (lt i j) s → cmp i j C s) : ∀ t : KasT α, zfv lt ok t → Q (ev lt t) s → t.kasWp cmp Q s
 | .ret a, _, q => q
 | .ask i j k, h, q => hc i j _ h.1 (zv5 hc (k (lt i j)) h.2 q)
variable {key : Nat → Int}
def g (p : Array Nat) (i : Nat) : Nat := p.getD i 0
def Up (key : Nat → Int) (p : Array Nat) (b : Nat) : Prop := ∀ i j, i < j → j < b → key (g p i) ≤ key (g p j)
def Dw (key : Nat → Int) (p : Array Nat) (b : Nat) : Prop := ∀ i j, i < j → j < b → key (g p j) < key (g p i)
def ltk (key : Nat → Int) (i j : Nat) : Bool := decide (key i < key j)
theorem Up.step {p : Array Nat} {n : Nat} (h : Up key p n) (h1 : 1 ≤ n) (c : key (g p (n - 1)) ≤ key (g p n)) : Up key p (n + 1) := fun i j ij jn => by
 rcases Nat.lt_or_eq_of_le (Nat.le_of_lt_succ jn) with z | z
 ·exact h i j ij z
 ·subst z
  rcases Nat.lt_or_eq_of_le (show i ≤ j - 1 by omega) with y | y
  ·exact Int.le_trans (h i (j - 1) y (by omega)) c
  ·rw [y]; exact c
theorem Dw.step {p : Array Nat} {n : Nat} (h : Dw key p n) (h1 : 1 ≤ n) (c : key (g p n) < key (g p (n - 1))) : Dw key p (n + 1) := fun i j ij jn => by
 rcases Nat.lt_or_eq_of_le (Nat.le_of_lt_succ jn) with z | z
 ·exact h i j ij z
 ·subst z
  rcases Nat.lt_or_eq_of_le (show i ≤ j - 1 by omega) with y | y
  ·exact Int.lt_trans c (h i (j - 1) y (by omega))
  ·rw [y]; exact c
theorem zmt {p : Array Nat} : ∀ (f n : Nat), 1 ≤ n → Up key p n → n ≤ ev (ltk key) (kas_asc p f n) ∧ ev (ltk key) (kas_asc p f n) ≤ n + f ∧ Up key p (ev (ltk key) (kas_asc p f n)) ∧ (ev (ltk key) (kas_asc p f n) < n + f → key (g p (ev (ltk key) (kas_asc p f n))) < key (g p (ev (ltk key) (kas_asc p f n) - 1)))
 | 0, n, _, h => ⟨Nat.le_refl _, Nat.le_refl _, h, fun z => absurd z (Nat.lt_irrefl _)⟩
 | f + 1, n, h1, h => by
  unfold kas_asc
  show n ≤ ev _ (if ltk key (g p n) (g p (n - 1)) = true then _ else _) ∧ ev _ (if ltk key (g p n) (g p (n - 1)) = true then _ else _) ≤ _ ∧ Up key p (ev _ (if ltk key (g p n) (g p (n - 1)) = true then _ else _)) ∧ (ev _ (if ltk key (g p n) (g p (n - 1)) = true then _ else _) < _ → key (g p (ev _ (if ltk key (g p n) (g p (n - 1)) = true then _ else _))) < key (g p (ev _ (if ltk key (g p n) (g p (n - 1)) = true then _ else _) - 1)))
  by_cases c : key (g p n) < key (g p (n - 1))
  ·rw [show ltk key (g p n) (g p (n - 1)) = true from decide_eq_true c, if_pos rfl]
   exact ⟨Nat.le_refl _, Nat.le_add_right _ _, h, fun _ => c⟩
  ·rw [show ltk key (g p n) (g p (n - 1)) = false from decide_eq_false c, if_neg Bool.false_ne_true]
   obtain ⟨a, b, u, d⟩ := zmt f (n + 1) (by omega) (h.step h1 (Int.not_lt.mp c))
   exact ⟨by omega, by omega, u, fun z => d (by omega)⟩
def Inj (key : Nat → Int) (p : Array Nat) : Prop := ∀ i j, i < p.size → j < p.size → i ≠ j → key (g p i) ≠ key (g p j)
theorem zmp {p : Array Nat} (hI : Inj key p) : ∀ (f n : Nat), 1 ≤ n → n + f ≤ p.size → Dw key p n → ∃ m, ev (ltk key) (kas_desc f p n 0) = (p, m, 0) ∧ n ≤ m ∧ m ≤ n + f ∧ Dw key p m
 | 0, n, _, _, h => ⟨n, rfl, Nat.le_refl _, Nat.le_refl _, h⟩
 | f + 1, n, h1, hz, h => by
  unfold kas_desc
  show ∃ m, ev _ (if ltk key (g p n) (g p (n - 1)) = true then _ else _) = _ ∧ _
  by_cases c : key (g p n) < key (g p (n - 1))
  ·rw [show ltk key (g p n) (g p (n - 1)) = true from decide_eq_true c, if_pos rfl, if_neg (Nat.lt_irrefl _)]
   obtain ⟨m, e, a, b, d⟩ := zmp hI f (n + 1) (by omega) (by omega) (h.step h1 c)
   exact ⟨m, e, by omega, by omega, d⟩
  ·rw [show ltk key (g p n) (g p (n - 1)) = false from decide_eq_false c, if_neg Bool.false_ne_true]
   have ne := hI (n - 1) n (by omega) (by omega) (by omega)
   show ∃ m, ev _ (if ltk key (g p (n - 1)) (g p n) = true then _ else _) = _ ∧ _
   rw [show ltk key (g p (n - 1)) (g p n) = true from decide_eq_true (by omega), if_pos rfl]
   exact ⟨n, rfl, Nat.le_refl _, Nat.le_add_right _ _, h⟩
theorem g_get (p : Array Nat) (i : Nat) : g p i = (p[i]?).getD 0 := by
 unfold g
 rw [Array.getD_eq_getD_getElem?]
theorem zv9 {p : Array Nat} {n : Nat} (hn : n ≤ p.size) (k : Nat) : g (kas_rev p 0 n) k = if k < n then g p (n - 1 - k) else g p k := by
 unfold kas_rev
 rw [g_get, getElem?_mirror_all hn]
 by_cases c : k < n
 ·rw [if_pos ⟨Nat.zero_le _, c⟩, if_pos c, g_get, Nat.zero_add]
 ·rw [if_neg (fun z => c z.2), if_neg c, g_get]
theorem zwy {p : Array Nat} {n : Nat} (hn : n ≤ p.size) (h : Dw key p n) : Up key (kas_rev p 0 n) n := fun i j ij jn => by
 rw [zv9 hn, zv9 hn, if_pos (by omega), if_pos jn]
 exact Int.le_of_lt (h (n - 1 - j) (n - 1 - i) (by omega) (by omega))
theorem zv7 {p : Array Nat} {k l : Nat} (hk : k < p.size) (hl : l ≤ k) (i : Nat) : g (bubble p k (k - l)) i = if i = l then g p k else if l < i ∧ i ≤ k then g p (i - 1) else g p i := by
 rw [g_get, getElem?_bubble hk _ (Nat.sub_le _ _), show k - (k - l) = l by omega]
 split
 ·rw [g_get]
 ·split
  ·rw [g_get]
  ·rw [g_get]
theorem zj5 {p : Array Nat} {k : Nat} (hu : Up key p k) : ∀ (f l r : Nat), r - l ≤ f → l ≤ r → r ≤ k → (∀ i, i < l → key (g p i) ≤ key (g p k)) → (∀ i, r ≤ i → i < k → key (g p k) < key (g p i)) → ∃ m, ev (ltk key) (kas_place p k f l r) = m ∧ m ≤ k ∧ (∀ i, i < m → key (g p i) ≤ key (g p k)) ∧ ∀ i, m ≤ i → i < k → key (g p k) < key (g p i)
 | 0, l, r, hf, lr, rk, h1, h2 => ⟨l, rfl, by omega, h1, fun i hi => h2 i (by omega)⟩
 | f + 1, l, r, hf, lr, rk, h1, h2 => by
  unfold kas_place
  by_cases c : l ≥ r
  ·rw [if_pos c]
   exact ⟨l, rfl, by omega, h1, fun i hi => h2 i (by omega)⟩
  ·rw [if_neg c]
   show ∃ m, ev _ (if ltk key (g p k) (g p ((l + r) / 2)) = true then _ else _) = m ∧ _
   by_cases d : key (g p k) < key (g p ((l + r) / 2))
   ·rw [show ltk key (g p k) (g p ((l + r) / 2)) = true from decide_eq_true d, if_pos rfl]
    refine zj5 hu f l ((l + r) / 2) (by omega) (by omega) (by omega) h1 fun i hi ik => ?_
    rcases Nat.lt_or_eq_of_le hi with z | z
    ·exact Int.lt_of_lt_of_le d (hu _ i z ik)
    ·rw [← z]; exact d
   ·rw [show ltk key (g p k) (g p ((l + r) / 2)) = false from decide_eq_false d, if_neg Bool.false_ne_true]
    refine zj5 hu f ((l + r) / 2 + 1) r (by omega) (by omega) rk (fun i hi => ?_) h2
    rcases Nat.lt_or_eq_of_le (Nat.le_of_lt_succ hi) with z | z
    ·exact Int.le_trans (hu i _ z (by omega)) (Int.not_lt.mp d)
    ·rw [z]; exact Int.not_lt.mp d
theorem zsn : ∀ (f : Nat) (p : Array Nat) (k : Nat), k + f = p.size → Up key p k → (ev (ltk key) (kas_bin f p k)).Perm p ∧ Up key (ev (ltk key) (kas_bin f p k)) p.size
 | 0, p, k, hk, hu => by
  have e : k = p.size := by omega
  subst e
  exact ⟨Array.Perm.refl _, hu⟩
 | f + 1, p, k, hk, hu => by
  unfold kas_bin
  rw [zgd]
  obtain ⟨l, e, lk, h1, h2⟩ := zj5 hu k 0 k (by omega) (Nat.zero_le _) (Nat.le_refl _) (fun i hi => absurd hi (Nat.not_lt_zero _)) (fun i a b => absurd b (by omega))
  rw [e]
  have kz : k < p.size := by omega
  have up : Up key (bubble p k (k - l)) (k + 1) := fun i j ij jn => by
   rw [zv7 kz lk, zv7 kz lk]
   repeat' split
   all_goals first
    | omega
    | exact Int.le_refl _
    | (exact h1 _ (by omega))
    | (exact Int.le_of_lt (h2 _ (by omega) (by omega)))
    | (exact hu _ _ (by omega) (by omega))
  obtain ⟨a, b⟩ := zsn f (bubble p k (k - l)) (k + 1) (by rw [bubble_size]; omega) up
  rw [bubble_size] at b
  exact ⟨a.trans (bubble_perm _ _ _), b⟩
theorem zn8 {p : Array Nat} {n : Nat} (hn : p.size = n) (h1 : 1 ≤ n) (hI : Inj key p) : ∃ m p', ev (ltk key) (kas_count n p) = (m, p') ∧ 1 ≤ m ∧ m ≤ n ∧ p'.Perm p ∧ p'.size = n ∧ Up key p' m := by
 unfold kas_count
 rw [zgd]
 obtain ⟨a1, b1, u1, d1⟩ := zmt (key := key) (p := p) (n - 1) 1 (Nat.le_refl _) (fun i j ij jn => by omega)
 generalize ev (ltk key) (kas_asc p (n - 1) 1) = m at a1 b1 u1 d1
 by_cases c : m = n
 ·rw [if_pos (beq_iff_eq.mpr c)]
  exact ⟨m, p, rfl, by omega, by omega, Array.Perm.refl _, hn, u1⟩
 ·rw [if_neg (fun z => c (beq_iff_eq.mp z))]
  by_cases c1 : m > 1
  ·rw [if_pos c1]
   have ne := hI 0 (m - 1) (by omega) (by omega) (by omega)
   have le := u1 0 (m - 1) (by omega) (by omega)
   show ∃ m' p', ev _ (if ltk key (g p 0) (g p (m - 1)) = true then _ else _) = _ ∧ _
   rw [show ltk key (g p 0) (g p (m - 1)) = true from decide_eq_true (by omega), if_pos rfl]
   exact ⟨m, p, rfl, by omega, by omega, Array.Perm.refl _, hn, u1⟩
  ·rw [if_neg c1]
   have e1 : m = 1 := by omega
   subst e1
   have d := d1 (by omega)
   unfold kas_descPart
   rw [zgd]
   obtain ⟨m2, e2, a2, b2, w2⟩ := zmp hI (n - (1 + 1)) (1 + 1) (by omega) (by omega) (fun i j ij jn => by
    have hi : i = 0 := by omega
    have hj : j = 1 := by omega
    rw [hi, hj]
    exact d)
   rw [e2]
   show ∃ m p', ev _ (if 0 > 0 then _ else kas_tail3 m2 n p) = _ ∧ _
   rw [if_neg (Nat.lt_irrefl _)]
   unfold kas_tail3
   rw [zgd]
   have m2n : m2 ≤ p.size := by omega
   obtain ⟨a3, b3, u3, _⟩ := zmt (key := key) (p := kas_rev p 0 m2) (n - m2) m2 (by omega) (zwy m2n w2)
   exact ⟨_, _, rfl, by omega, by omega, mirror_perm _ _ _ _, by rw [kas_rev_size]; exact hn, u3⟩
theorem zu1 {n : Nat} (h1 : 1 ≤ n) (hI : ∀ i j, i < n → j < n → i ≠ j → key i ≠ key j) : (ev (ltk key) (kas_sort n)).Perm (List.range n).toArray ∧ Up key (ev (ltk key) (kas_sort n)) n := by
 have gr : ∀ i, i < n → g (List.range n).toArray i = i := fun i hi => by
  rw [g_get, List.getElem?_toArray, List.getElem?_range hi]
  rfl
 have sz : (List.range n).toArray.size = n := by simp
 unfold kas_sort
 rw [zgd]
 obtain ⟨m, p, e, a, b, pm, z, u⟩ := zn8 (key := key) (p := (List.range n).toArray) sz h1 (fun i j hi hj ij => by
  rw [sz] at hi hj
  rw [gr i hi, gr j hj]
  exact hI i j hi hj ij)
 rw [e]
 show Array.Perm (ev _ (if m < n then _ else _)) _ ∧ Up key (ev _ (if m < n then _ else _)) n
 by_cases c : m < n
 ·rw [if_pos c, show max m 1 = m by omega]
  obtain ⟨x, y⟩ := zsn (n - m) p m (by omega) u
  rw [z] at y
  exact ⟨x.trans pm, y⟩
 ·rw [if_neg c]
  have e : m = n := by omega
  subst e
  exact ⟨pm, u⟩
def okN (n i j : Nat) : Prop := i < n ∧ j < n ∧ i ≠ j
def PR (n : Nat) (p : Array Nat) : Prop := p.Perm (List.range n).toArray
theorem PR.size {n : Nat} {p : Array Nat} (h : PR n p) : p.size = n := by
 have := h.size_eq
 simpa using this
theorem PR.ok {n : Nat} {p : Array Nat} (h : PR n p) {i j : Nat} (hi : i < n) (hj : j < n) (ij : i ≠ j) : okN n (g p i) (g p j) := by
 have pl : p.toList.Perm (List.range n) := h.toList
 have sz := h.size
 have at_ : ∀ k, k < n → p.toList[k]? = some (g p k) := fun k hk => by
  rw [g_get, Array.getElem?_toList, Array.getElem?_eq_getElem (by omega)]
  rfl
 have mem : ∀ k, k < n → g p k < n := fun k hk => List.mem_range.mp (pl.mem_iff.mp (List.mem_of_getElem? (at_ k hk)))
 refine ⟨mem i hi, mem j hj, fun z => ij ?_⟩
 have nd : p.toList.Nodup := pl.nodup_iff.mpr List.nodup_range
 have l1 : i < p.toList.length := by rw [Array.length_toList]; omega
 have l2 : j < p.toList.length := by rw [Array.length_toList]; omega
 have e1 := at_ i hi
 have e2 := at_ j hj
 rw [List.getElem?_eq_getElem l1] at e1
 rw [List.getElem?_eq_getElem l2] at e2
 rw [← z] at e2
 exact (List.getElem_inj nd).mp (Option.some.inj (e1.trans e2.symm))
theorem PR.inj {n : Nat} {p : Array Nat} (h : PR n p) (hk : ∀ i j, i < n → j < n → i ≠ j → key i ≠ key j) : Inj key p := fun i j hi hj ij => by
 rw [h.size] at hi hj
 obtain ⟨a, b, c⟩ := h.ok hi hj ij
 exact hk _ _ a b c
theorem zkf {n : Nat} {p : Array Nat} (h : PR n p) : ∀ (f m : Nat), 1 ≤ m → m + f ≤ n → zfv (ltk key) (okN n) (kas_asc p f m)
 | 0, m, _, _ => trivial
 | f + 1, m, h1, hz => by
  unfold kas_asc
  refine ⟨h.ok (by omega) (by omega) (by omega), ?_⟩
  show zfv _ _ (if ltk key (g p m) (g p (m - 1)) = true then _ else _)
  cases ltk key (g p m) (g p (m - 1)) with
  | true => exact trivial
  | false => exact zkf h f (m + 1) (by omega) (by omega)
theorem zlq {n : Nat} {p : Array Nat} (h : PR n p) (hI : Inj key p) : ∀ (f m : Nat), 1 ≤ m → m + f ≤ n → zfv (ltk key) (okN n) (kas_desc f p m 0)
 | 0, m, _, _ => trivial
 | f + 1, m, h1, hz => by
  unfold kas_desc
  refine ⟨h.ok (by omega) (by omega) (by omega), ?_⟩
  show zfv _ _ (if ltk key (g p m) (g p (m - 1)) = true then _ else _)
  by_cases c : key (g p m) < key (g p (m - 1))
  ·rw [show ltk key (g p m) (g p (m - 1)) = true from decide_eq_true c, if_pos rfl, if_neg (Nat.lt_irrefl _)]
   exact zlq h hI f (m + 1) (by omega) (by omega)
  ·rw [show ltk key (g p m) (g p (m - 1)) = false from decide_eq_false c, if_neg Bool.false_ne_true]
   have ne := hI (m - 1) m (by rw [h.size]; omega) (by rw [h.size]; omega) (by omega)
   refine ⟨h.ok (by omega) (by omega) (by omega), ?_⟩
   show zfv _ _ (if ltk key (g p (m - 1)) (g p m) = true then _ else _)
   rw [show ltk key (g p (m - 1)) (g p m) = true from decide_eq_true (by omega), if_pos rfl]
   trivial
theorem zgy {n : Nat} {p : Array Nat} {k : Nat} (h : PR n p) (kn : k < n) : ∀ (f l r : Nat), r ≤ k → zfv (ltk key) (okN n) (kas_place p k f l r)
 | 0, l, r, _ => trivial
 | f + 1, l, r, rk => by
  unfold kas_place
  by_cases c : l ≥ r
  ·rw [if_pos c]
   trivial
  ·rw [if_neg c]
   refine ⟨h.ok kn (by omega) (by omega), ?_⟩
   show zfv _ _ (if ltk key (g p k) (g p ((l + r) / 2)) = true then _ else _)
   cases ltk key (g p k) (g p ((l + r) / 2)) with
   | true => exact zgy h kn f l _ (by omega)
   | false => exact zgy h kn f _ r rk
theorem znl {n : Nat} : ∀ (f : Nat) (p : Array Nat) (k : Nat), PR n p → k + f = n → zfv (ltk key) (okN n) (kas_bin f p k)
 | 0, p, k, _, _ => trivial
 | f + 1, p, k, h, hk => by
  unfold kas_bin
  exact zed _ (zgy h (by omega) k 0 k (Nat.le_refl _)) (znl f _ (k + 1) (Array.Perm.trans (bubble_perm _ _ _) h) (by omega))
theorem zq5 {n : Nat} (h1 : 1 ≤ n) (hk : ∀ i j, i < n → j < n → i ≠ j → key i ≠ key j) : zfv (ltk key) (okN n) (kas_sort n) := by
 have P0 : PR n (List.range n).toArray := Array.Perm.refl _
 have hI := P0.inj hk
 have sz := P0.size
 unfold kas_sort
 obtain ⟨m, p, e, a, b, pm, z, u⟩ := zn8 (key := key) sz h1 hI
 refine zed _ ?_ ?_
 ·unfold kas_count
  refine zed _ (zkf P0 (n - 1) 1 (Nat.le_refl _) (by omega)) ?_
  obtain ⟨a1, b1, u1, d1⟩ := zmt (key := key) (p := (List.range n).toArray) (n - 1) 1 (Nat.le_refl _) (fun i j ij jn => by omega)
  generalize ev (ltk key) (kas_asc (List.range n).toArray (n - 1) 1) = m at a1 b1 u1 d1
  by_cases c : m = n
  ·rw [if_pos (beq_iff_eq.mpr c)]
   trivial
  ·rw [if_neg (fun z => c (beq_iff_eq.mp z))]
   by_cases c1 : m > 1
   ·rw [if_pos c1]
    refine ⟨P0.ok (by omega) (by omega) (by omega), ?_⟩
    have ne := hI 0 (m - 1) (by omega) (by omega) (by omega)
    have le := u1 0 (m - 1) (by omega) (by omega)
    show zfv _ _ (if ltk key (g (List.range n).toArray 0) (g (List.range n).toArray (m - 1)) = true then _ else _)
    rw [show ltk key (g (List.range n).toArray 0) (g (List.range n).toArray (m - 1)) = true from decide_eq_true (by omega), if_pos rfl]
    trivial
   ·rw [if_neg c1]
    have e1 : m = 1 := by omega
    subst e1
    have d := d1 (by omega)
    unfold kas_descPart
    refine zed _ (zlq P0 hI _ _ (by omega) (by omega)) ?_
    obtain ⟨m2, e2, a2, b2, w2⟩ := zmp hI (n - (1 + 1)) (1 + 1) (by omega) (by omega) (fun i j ij jn => by
     have hi : i = 0 := by omega
     have hj : j = 1 := by omega
     rw [hi, hj]
     exact d)
    rw [e2]
    show zfv _ _ (if 0 > 0 then _ else kas_tail3 m2 n (List.range n).toArray)
    rw [if_neg (Nat.lt_irrefl _)]
    unfold kas_tail3
    exact zed _ (zkf (Array.Perm.trans (mirror_perm _ _ _ _) P0) _ _ (by omega) (by omega)) trivial
 ·rw [e]
  show zfv _ _ (if m < n then _ else _)
  by_cases c : m < n
  ·rw [if_pos c, show max m 1 = m by omega]
   exact znl _ _ _ (Array.Perm.trans pm P0) (by omega)
  ·rw [if_neg c]
   trivial
end Kst
set_option maxRecDepth 100000
set_option maxHeartbeats 4000000
namespace Kst
open PySem PySem.W PyProof PyProof.Rows
section
variable {prog : Program} {w : World} {A : Around} {E : Value → Shared → Prop} {s : Shared}
def Tps (h : Heap) (rs : List Addr) (ks : List Int) : Prop := ∀ i r, rs[i]? = some r → ∃ o xs e t, h.get? r = some o ∧ o.cls = .type "tuple" ∧ o.data = .seq xs e ∧ xs[0]? = some (.int (ks.getD i 0) t)
theorem Tps.kat {h : Heap} : ∀ {rs : List Addr} {ks : List Int}, rs.length = ks.length → Tps h rs ks → ∃ fs, KatTups h (rs.map Value.ref) fs ∧ fs.length = rs.length ∧ ∀ v ∈ fs, ∃ k t, v = Value.int k t
 | [], [], _, _ => ⟨[], trivial, rfl, fun _ z => nomatch z⟩
 | r :: rs, k :: ks, hl, ht => by
  obtain ⟨o, xs, e, t, h1, h2, h3, h4⟩ := ht 0 r rfl
  obtain ⟨fs, a, b, c⟩ := Tps.kat (rs := rs) (ks := ks) (Nat.succ.inj hl) (fun i r' hr => by
   obtain ⟨o, xs, e, t, q⟩ := ht (i + 1) r' hr
   exact ⟨o, xs, e, t, q⟩)
  refine ⟨_ :: fs, ⟨⟨r, o, xs, e, rfl, h1, h2, h3, h4⟩, a⟩, congrArg Nat.succ b, fun v hv => ?_⟩
  rcases List.mem_cons.mp hv with z | z
  ·exact ⟨_, _, z⟩
  ·exact c v z
theorem zu9 {rs : List Addr} {ks : List Int} {i j : Nat} {C : Bool → Shared → Prop} (ht : Tps s.heap rs ks) (hi : i < rs.length) (hj : j < rs.length) (ne : ks.getD i 0 ≠ ks.getD j 0) (h : C (ltk (fun i => ks.getD i 0) i j) s) : kas_cmp prog w A (tuples' true) (pairsOf (rs.map Value.ref)) i j C s := by
 unfold kas_cmp
 rw [kas_item_eq, kas_item_eq]
 have at_ : ∀ k (hk : k < rs.length), (rs.map Value.ref).getD k Value.none = .ref rs[k] := fun k hk => by
  rw [List.getD_eq_getElem?_getD, List.getElem?_map, List.getElem?_eq_getElem hk]
  rfl
 show wpAny _ A (keyLt' (tuples' true) ((rs.map Value.ref).getD i Value.none) ((rs.map Value.ref).getD j Value.none)) _ _ _
 rw [at_ i hi, at_ j hj]
 obtain ⟨o, xs, e, t, h1, h2, h3, h4⟩ := ht i rs[i] (List.getElem?_eq_getElem hi)
 obtain ⟨o', xs', e', t', g1, g2, g3, g4⟩ := ht j rs[j] (List.getElem?_eq_getElem hj)
 refine kat_lt h1 h3 g1 g3 ?_
 obtain ⟨l, hl⟩ : ∃ l, xs.toList = .int (ks.getD i 0) t :: l := by
  have := h4
  rw [← Array.getElem?_toList] at this
  cases q : xs.toList with
  | nil => rw [q] at this; cases this
  | cons a r => rw [q] at this; cases this; exact ⟨r, rfl⟩
 obtain ⟨l', hl'⟩ : ∃ l, xs'.toList = .int (ks.getD j 0) t' :: l := by
  have := g4
  rw [← Array.getElem?_toList] at this
  cases q : xs'.toList with
  | nil => rw [q] at this; cases this
  | cons a r => rw [q] at this; cases this; exact ⟨r, rfl⟩
 rw [hl, hl']
 show KatLex prog w A true _ C ((.int (ks.getD i 0) t, .int (ks.getD j 0) t') :: l.zip l') 0 s
 refine kat_cons (wpAny_eqBool_int ?_)
 rw [show (ks.getD i 0 == ks.getD j 0) = false from beq_eq_false_iff_ne.mpr ne]
 exact kat_no (oneLt_int h)
theorem zre {a : Addr} {rs : List Addr} {ks : List Int} {n : Nat} {P : PySem.Fin → Shared → Prop} (o0 : s.heap.get? a = some (seqObj "list" (rs.map Value.ref).toArray n)) (hl : rs.length = ks.length) (hz : rs.length < 64) (ht : Tps s.heap rs ks) (hna : ∀ r ∈ rs, r ≠ a)
  (hk : ∀ i j, i < rs.length → j < rs.length → i ≠ j → ks.getD i 0 ≠ ks.getD j 0)
  (h : ∀ p : Array Nat, PR rs.length p → Up (fun i => ks.getD i 0) p rs.length → P (.done (.ret .none)) { s with heap := sortedHeap s.heap a (rs.map Value.ref) (p.map fun i => (rs.map Value.ref).getD i Value.none) }) :
  wpAny (model prog w) A (Builtin.«list.sort» ⟨[.ref a], []⟩) P E s := by
 rw [list_sort_plain]
 have lz : (rs.map Value.ref).length = rs.length := List.length_map _
 have hz' : (rs.map Value.ref).length ≤ sizeLine := by rw [lz, sizeLine_eq]; omega
 have la : a < s.heap.objs.size := Heap.lt_size o0
 obtain ⟨e1, o1⟩ : ∃ e, (s.heap.update a (Obj.mapSeq fun _ => #[])).get? a = some (seqObj "list" #[] e) := ⟨_, get?_update_seq o0 _⟩
 have o6 : (((s.heap.update a (Obj.mapSeq fun _ => #[])).push (seqObj "tuple" (rs.map Value.ref).toArray 0)).push (seqObj "list" #[] 0)).get? a = some (seqObj "list" #[] e1) := by
  rwa [Heap.get?_push_ne _ _ _ (by rw [size_push', Heap.size_update]; exact Nat.ne_of_lt (Nat.lt_succ_of_lt la)), Heap.get?_push_ne _ _ _ (by rw [Heap.size_update]; exact Nat.ne_of_lt la)]
 have t6 : Tps (((s.heap.update a (Obj.mapSeq fun _ => #[])).push (seqObj "tuple" (rs.map Value.ref).toArray 0)).push (seqObj "list" #[] 0)) rs ks := fun i r hr => by
  obtain ⟨o, xs, e, t, h1, q⟩ := ht i r hr
  refine ⟨o, xs, e, t, Heap.get?_push_of_some _ (Heap.get?_push_of_some _ ?_), q⟩
  rw [Heap.get?_update_ne _ _ _ _ (hna r (List.mem_of_getElem? hr))]
  exact h1
 refine wpAny_bind (listItems_at o0 rfl (wpAny_bind (listUpdate_at o0 rfl ?_ (by rw [List.size_toArray]; exact hz') (Nat.zero_le _))))
 refine wpAny_bind (seqEpoch_at o1 rfl (wpAny_bind (wpAny_newTuple (wpAny_bind (wpAny_newList (wpAny_holding ?_))))))
 have er : (List.range rs.length).toArray.map (kas_item (pairsOf (rs.map Value.ref))) = pairsOf (rs.map Value.ref) := by
  have := kas_range (pairsOf (rs.map Value.ref))
  rw [pairsOf_size, lz] at this
  exact this
 have sn : ∀ p : Array Nat, (p.map (kas_item (pairsOf (rs.map Value.ref)))).map (·.2) = p.map fun i => (rs.map Value.ref).getD i Value.none := fun p => by
  rw [Array.map_map]
  refine congrArg (fun f => Array.map f p) (funext fun i => ?_)
  show (kas_item (pairsOf (rs.map Value.ref)) i).2 = _
  rw [kas_item_eq]
 by_cases c : (rs.map Value.ref).toArray.size < 2
 ·rw [if_pos c, if_pos c]
  refine wpAny_bind (wpAny_pure (wpAny_bind (wpAny_pure ?_)))
  refine wpAny_bind (seqEpoch_at o6 rfl (wpAny_bind (listUpdate_at o6 rfl ?_ (Nat.zero_le _) ?_)))
  ·simp only [bne_self_eq_false, Bool.false_eq_true, if_false]
   rw [List.size_toArray, lz] at c
   have := h (List.range rs.length).toArray (Array.Perm.refl _) (fun i j ij jn => by omega)
   rw [← sn, er] at this
   exact wpAny_pure this
  ·rw [Array.size_map]
   show (pairsOf (rs.map Value.ref)).size ≤ _
   rw [pairsOf_size]
   exact Nat.le_succ_of_le hz'
 ·rw [if_neg c, if_neg c]
  rw [List.size_toArray, lz] at c
  obtain ⟨fs, kt, fl, fi⟩ := Tps.kat hl t6
  refine wpAny_bind (kat_kind (T := .type "int") kt (by omega) (fun v hv => by
   obtain ⟨k, t, rfl⟩ := fi v hv
   exact .now) rfl ?_)
  have est : SortSt.mk' (tuples' true) (pairsOf (rs.map Value.ref)) #[] 7 none = kas_st (tuples' true) (pairsOf (rs.map Value.ref)) (List.range rs.length).toArray := by
   unfold kas_st
   rw [er]
  have run := kas_runs (prog := prog) (w := w) (A := A) (E := E) (κ := tuples' true) (it := pairsOf (rs.map Value.ref)) (n := rs.length) (s := { s with heap := ((s.heap.update a (Obj.mapSeq fun _ => #[])).push (seqObj "tuple" (rs.map Value.ref).toArray 0)).push (seqObj "list" #[] 0) })
   (Q := fun _ st' s' => s' = { s with heap := ((s.heap.update a (Obj.mapSeq fun _ => #[])).push (seqObj "tuple" (rs.map Value.ref).toArray 0)).push (seqObj "list" #[] 0) } ∧ failedOf st' = none ∧ ∃ p, arrOf st' = p.map (kas_item (pairsOf (rs.map Value.ref))) ∧ PR rs.length p ∧ Up (fun i => ks.getD i 0) p rs.length)
   (G := fun p s' => s' = { s with heap := ((s.heap.update a (Obj.mapSeq fun _ => #[])).push (seqObj "tuple" (rs.map Value.ref).toArray 0)).push (seqObj "list" #[] 0) } ∧ PR rs.length p ∧ Up (fun i => ks.getD i 0) p rs.length)
   (by omega) hz (fun p st' s' z1 z2 z3 z4 => ⟨z4.1, z3, p, z2, z4.2⟩)
   (zv5 (lt := ltk fun i => ks.getD i 0) (ok := okN rs.length) (fun i j C ok hC => zu9 t6 ok.1 ok.2.1 (hk i j ok.1 ok.2.1 ok.2.2) hC) _ (zq5 (by omega) hk) ⟨rfl, zu1 (by omega) hk⟩)
  rw [← est] at run
  refine wpAny_bind (wpAny_mono run ?_ fun _ _ e => e)
  rintro ⟨u, st'⟩ s' ⟨rfl, b2, p, b3, b4, b5⟩
  have e3 : (arrOf st').map (·.2) = p.map fun i => (rs.map Value.ref).getD i Value.none := by rw [b3, sn]
  refine wpAny_bind (seqEpoch_at o6 rfl (wpAny_bind (listUpdate_at o6 rfl ?_ (Nat.zero_le _) ?_)))
  ·rw [b2]
   simp only [bne_self_eq_false, Bool.false_eq_true, if_false]
   have := h p b4 b5
   rw [← e3] at this
   exact wpAny_pure this
  ·rw [e3, Array.size_map, b4.size]
   rw [lz] at hz'
   exact Nat.le_succ_of_le hz'
theorem sorted_tups {l : Addr} {rs : List Addr} {ks : List Int} {Q : Value → Shared → Prop} (hl : s.heap.IsList l (rs.map Value.ref).toArray) (hlk : rs.length = ks.length) (hz : rs.length < 64) (ht : Tps s.heap rs ks) (hk : ∀ i j, i < rs.length → j < rs.length → i ≠ j → ks.getD i 0 ≠ ks.getD j 0)
  (h : ∀ p : Array Nat, PR rs.length p → Up (fun i => ks.getD i 0) p rs.length → Q (.ref (s.heap.objs.size + 1)) { s with heap := sortedAll s.heap (rs.map Value.ref) (p.map fun i => (rs.map Value.ref).getD i Value.none) }) :
  wpAny (model prog w) A (call (.builtin "sorted") [.ref l]) Q E s := by
 have lz : (rs.map Value.ref).length = rs.length := List.length_map _
 have hz' : (rs.map Value.ref).length ≤ sizeLine := by rw [lz, sizeLine_eq]; omega
 have ez : ((s.heap.push (seqObj "list" #[] 0)).update s.heap.objs.size (Obj.mapSeq (· ++ (rs.map Value.ref).toArray))).objs.size = s.heap.objs.size + 1 := by rw [Heap.size_update, size_push']
 have oL : (((s.heap.push (seqObj "list" #[] 0)).update s.heap.objs.size (Obj.mapSeq (· ++ (rs.map Value.ref).toArray))).push (seqObj "list" (rs.map Value.ref).toArray 0)).get? (s.heap.objs.size + 1) = some (seqObj "list" (rs.map Value.ref).toArray 0) := by
  rw [← ez]; exact Heap.get?_push_size _ rfl
 have old : ∀ r ∈ rs, r < s.heap.objs.size := fun r hr => by
  obtain ⟨i, hi⟩ := List.getElem?_of_mem hr
  obtain ⟨o, xs, e, t, h1, _⟩ := ht i r hi
  exact Heap.lt_size h1
 have t2 : Tps (((s.heap.push (seqObj "list" #[] 0)).update s.heap.objs.size (Obj.mapSeq (· ++ (rs.map Value.ref).toArray))).push (seqObj "list" (rs.map Value.ref).toArray 0)) rs ks := fun i r hr => by
  obtain ⟨o, xs, e, t, h1, q⟩ := ht i r hr
  refine ⟨o, xs, e, t, Heap.get?_push_of_some _ ?_, q⟩
  rw [Heap.get?_update_ne _ _ _ _ (Nat.ne_of_lt (old r (List.mem_of_getElem? hr)))]
  exact Heap.get?_push_of_some _ h1
 refine Calls.call_function_entry kind_sorted plain_sorted entry_sorted (args_sorted1 _) (wpAny_bind (m := checkCount "sorted" 1 1 _) (wpAny_pure (wpAny_bind (collect_list hl ?_ hz'))))
 refine wpAny_bind (wpAny_newList ?_)
 rw [ez]
 refine wpAny_bind (wpAny_holding (wpAny_call_entry slot_list_sort ⟨_, oL, rfl⟩ entry_list_sort (zre oL hlk hz t2 (fun r hr => Nat.ne_of_lt (Nat.lt_succ_of_lt (old r hr))) hk fun p b1 b2 => ⟨_, rfl, ?_⟩) (args_list_sort _)))
 exact wpAny_pure ⟨_, rfl, h p b1 b2⟩
end
end Kst
namespace L2
open PySem PySem.Spec PyProof.Rows
variable {X : Cx}
structure zt3 (H : Hp) (es : List (Int × Addr)) : Prop where
 at_ : ∀ e ∈ es, ∃ r, H e.2 = some (.tup (.int e.1 :: r))
 nd : (es.map (·.1)).Nodup
theorem zfg {K : PySem.W.Frag} (hK : X.K = K := by rfl) : zes X (.builtin "sorted") (fun xs H Q => ∃ (p : Addr) (es : List (Int × Addr)), xs = [.ref p] ∧ SqL K H p (es.map fun e => V.ref e.2) ∧ zt3 H es ∧ es.length < 64 ∧ ∀ es' : List (Int × Addr), es'.Perm es → (es'.map (·.1)).Pairwise (· < ·) → ∀ l, H l = none → Q (.ref l) (upd H l (.lst (es'.map fun e => V.ref e.2)))) := by
 subst hK
 intro pins s σ H xs us Q I r h
 obtain ⟨p, es, rfl, hq, T, hz, q⟩ := h
 obtain ⟨u, rfl, rx⟩ := zgr r
 cases rx
 obtain ⟨its, rv, pl, hz'⟩ := I.list hq
 have ei : its = (es.map (·.2)).map Value.ref := by
  refine List.ext_getElem? fun i => ?_
  rw [List.getElem?_map, List.getElem?_map]
  have hlen := rv.length
  rw [List.length_map] at hlen
  cases e : es[i]? with
  | none =>
   rw [List.getElem?_eq_none (by rw [← hlen]; exact List.getElem?_eq_none_iff.mp e)]
   rfl
  | some x =>
   obtain ⟨u, hu, ru⟩ := rv.get (i := i) (x := V.ref x.2) (by rw [List.getElem?_map, e]; rfl)
   rw [hu]
   cases (show u = Value.ref x.2 from ru)
   rfl
 subst ei
 have g1 : ∀ i e, es[i]? = some e → (es.map (·.1)).getD i 0 = e.1 := fun i e h => by rw [List.getD_eq_getElem?_getD, List.getElem?_map, h]; rfl
 have ln : (es.map (·.2)).length = es.length := List.length_map _
 have nd : ∀ i j, i < (es.map (·.2)).length → j < (es.map (·.2)).length → i ≠ j → (es.map (·.1)).getD i 0 ≠ (es.map (·.1)).getD j 0 := fun i j hi hj ij z => ij (by
  rw [ln] at hi hj
  have a : (es.map (·.1))[i]'(by rw [List.length_map]; exact hi) = (es.map (·.1))[j]'(by rw [List.length_map]; exact hj) := by
   rw [g1 i _ (List.getElem?_eq_getElem hi), g1 j _ (List.getElem?_eq_getElem hj)] at z
   rw [List.getElem_map, List.getElem_map]
   exact z
  exact (List.getElem_inj T.nd).mp a)
 refine Kst.sorted_tups pl.isList (ks := es.map (·.1)) (by rw [List.length_map, List.length_map]) (by rw [ln]; exact hz) (fun i r hr => ?_) nd (fun pm b1 b2 => ?_)
 ·rw [List.getElem?_map] at hr
  obtain ⟨e, he, rfl⟩ := Option.map_eq_some_iff.mp hr
  obtain ⟨r, hH⟩ := T.at_ e (List.mem_of_getElem? he)
  obtain ⟨its, rv, ⟨o, e1, e2, n, e3⟩, _⟩ := I.tuple (.inl (.inl hH))
  obtain ⟨u, hu, ru⟩ := rv.get (i := 0) (x := V.int e.1) rfl
  obtain ⟨t, rfl⟩ := ru
  exact ⟨o, its.toArray, n, t, e1, e2, e3, by rw [List.getElem?_toArray, hu, g1 i e he]⟩
 ·have sz := b1.size
  rw [ln] at sz
  have lt : ∀ i ∈ pm.toList, i < es.length := fun i hi => by
   have := List.mem_range.mp ((show pm.toList.Perm _ from b1.toList).mem_iff.mp hi)
   rw [ln] at this
   exact this
  have pe : (pm.toList.map fun i => es.getD i (0, 0)).Perm es := by
   have a := (show pm.toList.Perm _ from b1.toList).map fun i => es.getD i (0, 0)
   refine a.trans (List.Perm.of_eq ?_)
   refine List.ext_getElem? fun i => ?_
   show ((List.range (es.map (·.2)).length).map fun i => es.getD i (0, 0))[i]? = _
   rw [List.getElem?_map, ln]
   by_cases c : i < es.length
   ·rw [List.getElem?_range c, List.getElem?_eq_getElem c]
    show some (es.getD i (0, 0)) = _
    rw [List.getD_eq_getElem?_getD, List.getElem?_eq_getElem c]
    rfl
   ·rw [List.getElem?_eq_none (by rw [List.length_range]; omega), List.getElem?_eq_none (by omega)]
    rfl
  have kk : ∀ i, (es.map (·.1)).getD i 0 = (es.getD i (0, 0)).1 := fun i => by
   rw [List.getD_eq_getElem?_getD, List.getD_eq_getElem?_getD, List.getElem?_map]
   cases es[i]? <;> rfl
  have pw : ((pm.toList.map fun i => es.getD i (0, 0)).map (·.1)).Pairwise (· < ·) := by
   have nd' : ((pm.toList.map fun i => es.getD i (0, 0)).map (·.1)).Nodup := (pe.map (·.1)).nodup_iff.mpr T.nd
   rw [List.pairwise_iff_getElem]
   intro i j hi hj ij
   have li : i < pm.toList.length := by simpa using hi
   have lj : j < pm.toList.length := by simpa using hj
   have gg : ∀ k (hk : k < pm.toList.length), Kst.g pm k = pm.toList[k] := fun k hk => by
    rw [Kst.g_get, Array.getElem?_eq_getElem (by rw [Array.length_toList] at hk; exact hk)]
    simp
   have le := b2 i j ij (by rw [ln]; rw [Array.length_toList] at lj; omega)
   dsimp only at le
   rw [gg i li, gg j lj, kk, kk] at le
   have ne : ((pm.toList.map fun i => es.getD i (0, 0)).map (·.1))[i] ≠ ((pm.toList.map fun i => es.getD i (0, 0)).map (·.1))[j] := fun z => absurd ((List.getElem_inj nd').mp z) (Nat.ne_of_lt ij)
   rw [List.getElem_map, List.getElem_map, List.getElem_map, List.getElem_map] at ne ⊢
   omega
  obtain ⟨e, he⟩ := sortedAll_at s.heap ((es.map (·.2)).map Value.ref) (pm.map fun i => ((es.map (·.2)).map Value.ref).getD i Value.none)
  have vl : Vals ((pm.toList.map fun i => es.getD i (0, 0)).map fun e => V.ref e.2) (pm.map fun i => ((es.map (·.2)).map Value.ref).getD i Value.none).toList := by
   rw [Array.toList_map, List.map_map]
   have go : ∀ l : List Nat, (∀ i ∈ l, i < es.length) → Vals (l.map ((fun e : Int × Addr => V.ref e.2) ∘ fun i => es.getD i (0, 0))) (l.map fun i => ((es.map (·.2)).map Value.ref).getD i Value.none) := by
    intro l
    induction l with
    | nil => intro _; exact .nil
    | cons i r ih =>
     intro h
     refine .cons ?_ (ih fun j hj => h j (List.mem_cons_of_mem _ hj))
     have il := h i List.mem_cons_self
     show ((es.map (·.2)).map Value.ref).getD i Value.none = Value.ref (es.getD i (0, 0)).2
     rw [List.getD_eq_getElem?_getD, List.getD_eq_getElem?_getD, List.getElem?_map, List.getElem?_map, List.getElem?_eq_getElem il]
     rfl
   exact go _ lt
  refine ⟨.ref (s.heap.objs.size + 1), _, I.laid (t' := s.toks) (fun b o => sortedAll_old) (Nat.le_succ _) (show ObjOk X.prog X.w _ _ _ (.lst ((pm.toList.map fun i => es.getD i (0, 0)).map fun e => V.ref e.2)) from ⟨?_, (pm.map fun i => ((es.map (·.2)).map Value.ref).getD i Value.none).toList, e, vl, he⟩), rfl, q _ pe pw _ (I.hok.fresh (Nat.le_succ _))⟩
  rw [List.length_map, List.length_map, Array.length_toList, sz]
  exact Nat.le_of_lt (zbd (by omega))
end L2
set_option maxRecDepth 100000
set_option maxHeartbeats 4000000
namespace Wd
open PySem L2 Ow
def zbb (ps : List (Nat × Bool)) (p : Nat × Bool) : List (Nat × Bool) := ps.filter fun q => !decide (q = p)
def zpi : Sp := fun vs H Q _ => ∃ (l tp : Addr) (ps : List (Nat × Bool)) (p : Nat × Bool), vs = [.ref l, .ref tp] ∧ PicksAt H l ps ∧ H tp = some (.tup [.int (p.1 : Int), .bl p.2]) ∧ ∀ (l' : Addr) (H' : Hp), Same H H' → H l' = none → PicksAt H' l' (zbb ps p) → Q (.ref l') H'
theorem zer {H : Hp} {t : Addr} {p : Nat × Bool} (h : H t = some (.tup [.int (p.1 : Int), .bl p.2])) : Dn H (zbm p) (.ref t) := ⟨t, _, rfl, h, _, _, rfl, rfl, _, _, rfl, rfl, rfl⟩
theorem PicksAt.snoc {H H' : Hp} {l l' tp : Addr} {ps : List (Nat × Bool)} {p : Nat × Bool} {xs : List V} (h : PicksAt H l ps) (hx : H l = some (.lst xs)) (few : ps.length < 20) (pl : p.1 ≤ 20) (ht : H tp = some (.tup [.int (p.1 : Int), .bl p.2])) (s : Same H H') (hl : H' l' = some (.lst (xs ++ [.ref tp]))) : PicksAt H' l' (ps ++ [p]) := by
 obtain ⟨ys, h1, h2⟩ := h.ex
 rw [hx] at h1
 cases h1
 refine ⟨⟨_, hl, (PickL.snoc ht h2).same (Same.tup s)⟩, by rw [List.length_append]; simp only [List.length_cons, List.length_nil]; omega, fun q hq => ?_⟩
 rcases List.mem_append.mp hq with z | z
 ·exact h.le q z
 ·rw [List.mem_singleton.mp z]
  exact pl
def lpk (ts : List Tie) (il : List Nat) (m : Nat) (a : Nat × Bool) : List (Nat × Bool) → List (Nat × Bool) → List (Nat × Bool)
 | [], left => left
 | p :: r, left => if zcn ts il m (zaj (zbb left p ++ [a])) (zaq (zbb left p ++ [a])) = true then lpk ts il m a r (zbb left p) else lpk ts il m a r left
theorem zhl {ts : List Tie} {il : List Nat} {m : Nat} {a p : Nat × Bool} : ∀ (r left : List (Nat × Bool)), lpk ts il m a (r ++ [p]) left = if zcn ts il m (zaj (zbb (lpk ts il m a r left) p ++ [a])) (zaq (zbb (lpk ts il m a r left) p ++ [a])) = true then zbb (lpk ts il m a r left) p else lpk ts il m a r left
 | [], left => rfl
 | q :: r, left => by
  have e : ∀ r', lpk ts il m a (q :: r') left = if zcn ts il m (zaj (zbb left q ++ [a])) (zaq (zbb left q ++ [a])) = true then lpk ts il m a r' (zbb left q) else lpk ts il m a r' left := fun _ => rfl
  show lpk ts il m a (q :: (r ++ [p])) left = _
  rw [e, e]
  by_cases c : zcn ts il m (zaj (zbb left q ++ [a])) (zaq (zbb left q ++ [a])) = true
  ·rw [if_pos c, if_pos c]
   exact zhl r _
  ·rw [if_neg c, if_neg c]
   exact zhl r _
theorem zc7 {ts : List Tie} {il : List Nat} {m : Nat} {a : Nat × Bool} : ∀ (r left : List (Nat × Bool)), (lpk ts il m a r left).Sublist left
 | [], left => List.Sublist.refl _
 | q :: r, left => by
  unfold lpk
  split
  ·exact (zc7 r _).trans List.filter_sublist
  ·exact zc7 r left
def zsx : Sp := fun vs H Q _ => ∃ (wd tl l tp : Addr) (m : Nat) (ts : List Tie) (il : List Nat) (ps : List (Nat × Bool)) (p : Nat × Bool), vs = [.ref wd, .ref tl, .ref l, .ref tp] ∧ WoodT H wd m ts ∧ m ≤ 9 ∧ H tl = some (.lst (zal il)) ∧ (∀ i ∈ il, i < ts.length) ∧ PicksAt H l ps ∧ ps.length ≤ 19 ∧ H tp = some (.tup [.int (p.1 : Int), .bl p.2]) ∧ p.1 ≤ 20 ∧
 ∀ (l' : Addr) (H' : Hp), Same H H' → (l' = l ∨ H l' = none) → PicksAt H' l' (lpk ts il m p ps ps) → Q (.ref l') H'
structure zm8 (H : Hp) (ol : Addr) (ts : List Tie) (il : List Nat) (m : Nat) (a : Nat × Bool) (left : List (Nat × Bool)) : Prop where
 ex : ∃ xs, H ol = some (.lst xs) ∧ xs.length = left.length ∧ ∀ (j : Nat) p, left[j]? = some p → ∃ q t, xs[j]? = some (.ref q) ∧ H q = some (.tup [.ref t, zgn (zbc ts il m 9 (zaj (zbb left p ++ [a])) (zaq (zbb left p ++ [a])))]) ∧ H t = some (.tup [.int (p.1 : Int), .bl p.2])
def zl7 : Sp := fun vs H Q _ => ∃ (wd tl l tp : Addr) (m : Nat) (ts : List Tie) (il : List Nat) (ps : List (Nat × Bool)) (p : Nat × Bool), vs = [.ref wd, .ref tl, .ref l, .ref tp] ∧ WoodT H wd m ts ∧ m ≤ 9 ∧ H tl = some (.lst (zal il)) ∧ (∀ i ∈ il, i < ts.length) ∧ PicksAt H l ps ∧ ps.length ≤ 19 ∧ H tp = some (.tup [.int (p.1 : Int), .bl p.2]) ∧ p.1 ≤ 20 ∧
 ∀ (ol : Addr) (H' : Hp), Same H H' → H ol = none → zm8 H' ol ts il m p ps → Q (.ref ol) H'
theorem SameX.freshW {pen : Addr} {H H1 H' : Hp} {ys : List V} (s0 : Same H H1) (n : H pen = none) (hp : H1 pen = some (.lst ys)) (s : SameX pen H1 H') : Same H H' := fun b o h => by
 have ne : b ≠ pen := zas h n
 have z := s0 b o h
 cases o
 case tbl ps =>
  obtain ⟨⟨qs, hq⟩, k⟩ := z
  have y := s b _ ne hq
  exact ⟨y.1, fun t => (y.2 (k t) ⟨_, hp⟩).1⟩
 all_goals exact s b _ ne z
def zb9 (H : Hp) (a : Addr) : Nat × Bool := match H a with
 | some (.tup [.int k, .bl b]) => (k.toNat, b)
 | _ => (0, false)
theorem zrs {H : Hp} {a : Addr} {p : Nat × Bool} (h : H a = some (.tup [.int (p.1 : Int), .bl p.2])) : zb9 H a = p := by
 unfold zb9
 rw [h]
 rfl
theorem PickL.es {H : Hp} : ∀ {ps : List (Nat × Bool)} {xs : List V}, PickL H ps xs → ∃ es : List (Int × Addr), xs = es.map (fun e => V.ref e.2) ∧ es.map (·.1) = ps.map (fun p => ((p.1 : Nat) : Int)) ∧ es.map (fun e => zb9 H e.2) = ps ∧ ∀ e ∈ es, H e.2 = some (.tup [.int e.1, .bl (zb9 H e.2).2]) ∧ e.1 = (((zb9 H e.2).1 : Nat) : Int)
 | [], xs, h => ⟨[], by rw [show xs = [] from h]; rfl, rfl, rfl, fun _ z => nomatch z⟩
 | p :: ps, xs, ⟨t, r, e, ht, q⟩ => by
  obtain ⟨es, e1, e2, e3, e4⟩ := PickL.es q
  have hp := zrs ht
  refine ⟨((p.1 : Int), t) :: es, by rw [e, e1]; rfl, by rw [List.map_cons, List.map_cons, e2], by rw [List.map_cons, e3, hp], fun x hx => ?_⟩
  rcases List.mem_cons.mp hx with rfl | z
  ·exact ⟨by rw [hp]; exact ht, by rw [hp]⟩
  ·exact e4 x z
theorem PickL.of_es {H : Hp} : ∀ (es : List (Int × Addr)), (∀ e ∈ es, H e.2 = some (.tup [.int e.1, .bl (zb9 H e.2).2]) ∧ e.1 = (((zb9 H e.2).1 : Nat) : Int)) → PickL H (es.map fun e => zb9 H e.2) (es.map fun e => V.ref e.2)
 | [], _ => rfl
 | e :: es, h => ⟨e.2, es.map fun e => V.ref e.2, rfl, by rw [(h e List.mem_cons_self).1, (h e List.mem_cons_self).2], PickL.of_es es fun x hx => h x (List.mem_cons_of_mem _ hx)⟩
structure zkl (ps' ps : List (Nat × Bool)) : Prop where
 pm : ps'.Perm ps
 up : (ps'.map (·.1)).Pairwise (· < ·)
def zcc (ts : List Tie) (il : List Nat) (m : Nat) (ps' : List (Nat × Bool)) (p : Nat × Bool) : List (Nat × Bool) := lpk ts il m p ps' ps'
def zxe (H0 H : Hp) (v : V) : Prop := ∀ (q lf lp ol : Addr) (tv : V), v = .ref q → H q = some (.tup [.ref lf, .ref lp, tv, .ref ol]) → H0 lf = none ∧ H0 lp = none ∧ H0 ol = none ∧ lf ≠ lp ∧ lf ≠ ol ∧ lp ≠ ol
structure WhyAt (H0 H : Hp) (v : V) (ts : List Tie) (m : Nat) (il : List Nat) (ps' : List (Nat × Bool)) (p : Nat × Bool) : Prop where
 ex : ∃ (q lf lp ol o1 o2 : Addr) (tv : V) (xs ys : List V), v = .ref q ∧ H q = some (.tup [.ref lf, .ref lp, tv, .ref ol]) ∧ H lf = some (.lst (zal il)) ∧ PicksAt H lp (zcc ts il m ps' p) ∧ Dn H (zb3 ts il m 9 (zaj (zcc ts il m ps' p ++ [p])) (zaq (zcc ts il m ps' p ++ [p]))).toD tv ∧
  zpx H o1 ts m (zaj (zcc ts il m ps' p ++ [p])) (zaq (zcc ts il m ps' p ++ [p])) il ∧ zm8 H o2 ts il m p (zcc ts il m ps' p) ∧ H o1 = some (.lst xs) ∧ H o2 = some (.lst ys) ∧ H ol = some (.lst (xs ++ ys))
 new : zxe H0 H v
theorem WhyAt.up {H H0 H' : Hp} {v : V} {ts : List Tie} {m : Nat} {il : List Nat} {ps' : List (Nat × Bool)} {p : Nat × Bool} (h : WhyAt H0 H' v ts m il ps' p) (s : Same H H0) : WhyAt H H' v ts m il ps' p := ⟨h.ex, fun q lf lp ol tv e hq => by
 obtain ⟨a, b, c, d⟩ := h.new q lf lp ol tv e hq
 exact ⟨s.free a, s.free b, s.free c, d⟩⟩
def zwu : Sp := fun vs H Q _ => ∃ (wd pl tp : Addr) (m : Nat) (ts : List Tie) (ps : List (Nat × Bool)) (p : Nat × Bool), vs = [.ref wd, .ref pl, .ref tp] ∧ WoodT H wd m ts ∧ ts.length ≤ 800 ∧ m ≤ 9 ∧ PicksAt H pl ps ∧ ps.length ≤ 19 ∧ (ps.map (·.1)).Nodup ∧ H tp = some (.tup [.int (p.1 : Int), .bl p.2]) ∧ p.1 ≤ 20 ∧
 ∀ (v : V) (H' : Hp) (ps' : List (Nat × Bool)), zkl ps' ps → Same H H' → WhyAt H H' v ts m (zbf ts m (zaj (ps ++ [p])) (zaq (ps ++ [p]))) ps' p → Q v H'
def zxy (C : Addr) : Sp := fun vs H Q _ => ∃ (c dx wd pl : Addr) (m : Nat) (ts : List Tie) (ps : List (Nat × Bool)) (k : Nat) (b : Bool), vs = [.ref c, .int (k : Int), .bl b] ∧ H c = some (.ins C dx (chF wd pl)) ∧ PicksAt H pl ps ∧ WoodT H wd m ts ∧ m ≤ 9 ∧ 1 ≤ m ∧ ts.length ≤ 800 ∧ PickOk m ps ∧
 k ∈ zay m (zaj ps) (zaq ps) ∧
 ∀ (v : V) (H' : Hp), Same H H' → (zfq ts m (zaj (ps ++ [(k, b)])) (zaq (ps ++ [(k, b)])) = true → v = .non) →
  (zfq ts m (zaj (ps ++ [(k, b)])) (zaq (ps ++ [(k, b)])) = false → ∃ ps', zkl ps' ps ∧ WhyAt H H' v ts m (zbf ts m (zaj (ps ++ [(k, b)])) (zaq (ps ++ [(k, b)]))) ps' (k, b)) → Q v H'
theorem zt1 {ps : List (Nat × Bool)} {k s : Nat} (h : InS (zaj ps) (zaq ps) s) : InS (zaj (ps ++ [(k, s.testBit k)])) (zaq (ps ++ [(k, s.testBit k)])) s := by
 refine ⟨fun j hj => ?_, fun j hj => ?_⟩
 ·rcases (zbs _ j).mp hj with z | z
  ·exact h.1 j ((zbs _ j).mpr (.inl z))
  ·rcases List.mem_append.mp z with z | z
   ·exact h.1 j ((zbs _ j).mpr (.inr z))
   ·have z := List.mem_singleton.mp z
    injection z with z1 z2
    rw [z1]
    exact z2.symm
 ·have z := (zc6 _ j).mp hj
  rcases List.mem_append.mp z with z | z
  ·exact h.2 j ((zc6 _ j).mpr z)
  ·have z := List.mem_singleton.mp z
   injection z with z1 z2
   rw [z1]
   exact z2.symm
theorem zpd {ts : List Tie} {m k : Nat} {b : Bool} {ps : List (Nat × Bool)} (w : ∃ s, s < 2 ^ m ∧ InS (zaj ps) (zaq ps) s ∧ zbg ts s = true) (h : zfq ts m (zaj (ps ++ [(k, b)])) (zaq (ps ++ [(k, b)])) = false) : zfq ts m (zaj (ps ++ [(k, !b)])) (zaq (ps ++ [(k, !b)])) = true := by
 obtain ⟨s, h1, h2, h3⟩ := w
 have e := leadP_iff.mpr ⟨s, h1, zt1 (k := k) h2, h3⟩
 by_cases z : s.testBit k = b
 ·rw [z, h] at e; cases e
 ·rwa [show s.testBit k = !b by cases b <;> cases y : s.testBit k <;> simp_all] at e
theorem zus (ps : List (Nat × Bool)) (k : Nat) : k ∉ (woP ps k).map (·.1) := fun h => by
 obtain ⟨p, hp, e⟩ := List.mem_map.mp h
 have := (List.mem_filter.mp hp).2
 have e : p.1 = k := e
 simp [e] at this
theorem zun {ps qs : List (Nat × Bool)} (h : ∀ p, p ∈ ps ↔ p ∈ qs) : zaj ps = zaj qs := Nat.eq_of_testBit_eq fun k => by
 rw [Bool.eq_iff_iff, zbs, zbs, h]
theorem zvl {ps qs : List (Nat × Bool)} (h : ∀ p, p ∈ ps ↔ p ∈ qs) : zaq ps = zaq qs := Nat.eq_of_testBit_eq fun k => by
 rw [Bool.eq_iff_iff, zc6, zc6, h]
theorem znc {ts : List Tie} {il : List Nat} {m : Nat} {a : Nat × Bool} : ∀ (r left : List (Nat × Bool)), zcn ts il m (zaj (left ++ [a])) (zaq (left ++ [a])) = true → zcn ts il m (zaj (lpk ts il m a r left ++ [a])) (zaq (lpk ts il m a r left ++ [a])) = true
 | [], _, h => h
 | q :: r, left, h => by
  unfold lpk
  split
  ·next z => exact znc r _ z
  ·exact znc r left h
theorem zue {ts : List Tie} {m y n : Nat} (ok : ∀ t ∈ ts, t.Ok m) (m9 : m ≤ 9) (S : Stand m y n) (y0 : y.testBit 0 = true) (h : zfq ts m y n = false) : zcn ts (zcd ts) m y n = true := by
 rw [zel ok m9 S]
 intro s hs hi
 rw [Bool.eq_false_iff]
 intro z
 have : zfq ts m y n = true := leadP_iff.mpr ⟨s, hs, hi, by
  unfold zbg
  rw [hi.1 0 y0, Bool.true_and]
  exact (zik ts s).symm.trans z⟩
 rw [h] at this
 cases this
theorem zvx {ts : List Tie} {m : Nat} {ps ps' : List (Nat × Bool)} {p : Nat × Bool} (sp : zkl ps' ps) (h : zcn ts (zcd ts) m (zaj (ps ++ [p])) (zaq (ps ++ [p])) = true) : zcn ts (zbf ts m (zaj (ps ++ [p])) (zaq (ps ++ [p]))) m (zaj (zcc ts (zbf ts m (zaj (ps ++ [p])) (zaq (ps ++ [p]))) m ps' p ++ [p])) (zaq (zcc ts (zbf ts m (zaj (ps ++ [p])) (zaq (ps ++ [p]))) m ps' p ++ [p])) = true := by
 have hb := zn3 h
 generalize zbf ts m (zaj (ps ++ [p])) (zaq (ps ++ [p])) = il at hb ⊢
 refine znc ps' ps' ?_
 have e : ∀ q, q ∈ ps' ++ [p] ↔ q ∈ ps ++ [p] := fun q => by rw [List.mem_append, List.mem_append, sp.pm.mem_iff]
 rw [zun e, zvl e]
 exact hb
theorem PickOk.sub {m : Nat} {ps ps' left : List (Nat × Bool)} (h : PickOk m ps) (pm : ps'.Perm ps) (sub : left.Sublist ps') : PickOk m left :=
 ⟨fun p hp => h.in_ p (pm.mem_iff.mp (sub.subset hp)), (((pm.map (·.1)).nodup_iff).mpr h.nd).sublist (sub.map _)⟩
end Wd
set_option maxRecDepth 100000
set_option maxHeartbeats 4000000
namespace L2
open PySem PySem.Spec PyProof.Rows
section
variable {X : Cx} {e st : Expr} {te tst : TE} {pos p2 : Pos}
end
end L2
namespace Wd
open PySem L2 Ow
theorem PickOk.perm {m : Nat} {ps qs : List (Nat × Bool)} (h : PickOk m ps) (p : qs.Perm ps) : PickOk m qs := ⟨fun x hx => h.in_ x (p.mem_iff.mp hx), ((p.map (·.1)).nodup_iff).mpr h.nd⟩
def zeq : Nat → PyData → Bool
 | _, .int _ => true
 | _, .bool _ => true
 | _, .none => true
 | _, .str s => PyData.strOk s
 | n + 1, .tuple ds => ds.all (zeq n)
 | n + 1, .list ds => ds.all (zeq n)
 | _, _ => false
mutual
theorem zp0 : ∀ (n : Nat) (d : PyData), zeq n d = true → PyData.canLay0 d = true ∧ PyData.depth d ≤ n + 1
 | _, .int i, _ => ⟨by simp [PyData.canLay0], by simp only [PyData.depth]; omega⟩
 | _, .bool i, _ => ⟨by simp [PyData.canLay0], by simp only [PyData.depth]; omega⟩
 | _, .none, _ => ⟨by simp [PyData.canLay0], by simp only [PyData.depth]; omega⟩
 | n, .str s, h => ⟨by cases n <;> simpa [PyData.canLay0] using (show PyData.strOk s = true from h), by simp only [PyData.depth]; omega⟩
 | n + 1, .tuple ds, h => by
  obtain ⟨a, b⟩ := zm4 n ds h
  exact ⟨by simpa [PyData.canLay0] using a, by simp only [PyData.depth]; omega⟩
 | n + 1, .list ds, h => by
  obtain ⟨a, b⟩ := zm4 n ds h
  exact ⟨by simpa [PyData.canLay0] using a, by simp only [PyData.depth]; omega⟩
 | 0, .tuple _, h => by cases h
 | 0, .list _, h => by cases h
 | 0, .dict _, h => by cases h
 | n + 1, .dict _, h => by cases h
theorem zm4 : ∀ (n : Nat) (ds : List PyData), ds.all (zeq n) = true → PyData.canLayAll0 ds = true ∧ PyData.depthAll ds ≤ n + 1
 | _, [], _ => ⟨by simp [PyData.canLayAll0], by simp only [PyData.depthAll]; omega⟩
 | n, d :: ds, h => by
  rw [List.all_cons, Bool.and_eq_true] at h
  obtain ⟨a1, b1⟩ := zp0 n d h.1
  obtain ⟨a2, b2⟩ := zm4 n ds h.2
  exact ⟨by simp [PyData.canLayAll0, a1, a2], by simp only [PyData.depthAll]; omega⟩
end
theorem zj8 {n : Nat} {d : PyData} (h : zeq n d = true) (hn : n ≤ 62) : SeqAt.shaped d = true := by
 obtain ⟨a, b⟩ := zp0 n d h
 unfold SeqAt.shaped
 rw [Bool.and_eq_true]
 exact ⟨a, decide_eq_true (by omega)⟩
theorem zuf {n : Nat} {d : PyData} (h : zeq n d = true) : PyData.eqv d d = true := zg9 d (zp0 n d h).1
def zks (k : Nat) : PyData := .int (k : Int)
theorem zj9 {H : Hp} : ∀ l : List Nat, DnL H (l.map zks) (zal l)
 | [] => rfl
 | k :: l => ⟨_, _, rfl, rfl, zj9 l⟩
theorem zoi (n : Nat) (l : List Nat) : (l.map zks).all (zeq n) = true := by
 rw [List.all_eq_true]
 intro d hd
 obtain ⟨k, _, rfl⟩ := List.mem_map.mp hd
 cases n <;> rfl
theorem zlk (n : Nat) (l : List (Nat × Bool)) : (l.map zbm).all (zeq (n + 1)) = true := by
 rw [List.all_eq_true]
 intro d hd
 obtain ⟨k, _, rfl⟩ := List.mem_map.mp hd
 cases n <;> rfl
structure EntL (H : Hp) (es : List (PyData × Nat)) (xs : List V) : Prop where
 len : xs.length = es.length
 at_ : ∀ (j : Nat) (e : PyData × Nat), es[j]? = some e → ∃ q v, xs[j]? = some (.ref q) ∧ H q = some (.tup [v, .int (e.2 : Int)]) ∧ Dn H e.1 v
theorem EntL.same {H H' : Hp} {es : List (PyData × Nat)} {xs : List V} (h : EntL H es xs) (s : Same H H') : EntL H' es xs := ⟨h.len, fun j e he => by
 obtain ⟨q, v, h1, h2, h3⟩ := h.at_ j e he
 exact ⟨q, v, h1, s _ _ h2, Dn.same s _ _ h3⟩⟩
def zcq (ts : List Tie) (m : Nat) (il : List Nat) (left : List (Nat × Bool)) (p : Nat × Bool) : List (PyData × Nat) :=
 il.map (fun t => (zks t, (zbc ts (zbq il t) m 9 (zaj (left ++ [p])) (zaq (left ++ [p]))).getD 0)) ++ left.map fun q => (zbm q, (zbc ts il m 9 (zaj (zbb left q ++ [p])) (zaq (zbb left q ++ [p]))).getD 0)
theorem zrv (ts : List Tie) (m : Nat) (il : List Nat) (left : List (Nat × Bool)) (p : Nat × Bool) : (zcq ts m il left p).map (·.1) = il.map zks ++ left.map zbm := by
 unfold zcq
 rw [List.map_append, List.map_map, List.map_map]
 rfl
theorem mem_woPk {left : List (Nat × Bool)} {p r : Nat × Bool} : r ∈ zbb left p ↔ r ∈ left ∧ r ≠ p := by
 unfold zbb
 rw [List.mem_filter]
 simp
theorem zt6 {ps qs : List (Nat × Bool)} {s : Nat} (h : ∀ p, p ∈ ps → p ∈ qs) (i : InS (zaj qs) (zaq qs) s) : InS (zaj ps) (zaq ps) s :=
 ⟨fun k hk => i.1 k (by
  rcases (zbs _ k).mp hk with y | y
  ·exact (zbs _ k).mpr (.inl y)
  ·exact (zbs _ k).mpr (.inr (h _ y))), fun k hk => i.2 k ((zc6 _ k).mpr (h _ ((zc6 _ k).mp hk)))⟩
theorem in_picks {ps : List (Nat × Bool)} {s : Nat} : InS (zaj ps) (zaq ps) s ↔ s.testBit 0 = true ∧ ∀ p ∈ ps, s.testBit p.1 = p.2 := by
 constructor
 ·intro h
  refine ⟨h.1 0 (zdq _), fun p hp => ?_⟩
  obtain ⟨k, b⟩ := p
  cases b with
  | true => exact h.1 k ((zbs _ k).mpr (.inr hp))
  | false => exact h.2 k ((zc6 _ k).mpr hp)
 ·rintro ⟨h0, h⟩
  refine ⟨fun k hk => ?_, fun k hk => h (k, false) ((zc6 _ k).mp hk)⟩
  rcases (zbs _ k).mp hk with y | y
  ·rw [y]; exact h0
  ·exact h (k, true) y
theorem zqs {ts : List Tie} {il : List Nat} {m : Nat} {ps qs : List (Nat × Bool)} (ok : ∀ t ∈ ts, t.Ok m) (m9 : m ≤ 9) (m1 : 1 ≤ m) (P : PickOk m ps) (R : PickOk m qs) (h : ∀ p, p ∈ ps → p ∈ qs) (b : zcn ts il m (zaj qs) (zaq qs) = false) : zcn ts il m (zaj ps) (zaq ps) = false := by
 rw [Bool.eq_false_iff] at b ⊢
 intro z
 refine b ((zel ok m9 (R.stand m1)).mpr fun s h1 h2 => (zel ok m9 (P.stand m1)).mp z s h1 (zt6 h h2))
theorem PickOk.subl {m : Nat} {ps qs : List (Nat × Bool)} (h : PickOk m ps) (s : qs.Sublist ps) : PickOk m qs := h.sub (List.Perm.refl _) s
theorem zee (left : List (Nat × Bool)) (q : Nat × Bool) (p : List (Nat × Bool)) : (zbb left q ++ p).Sublist (left ++ p) := List.Sublist.append List.filter_sublist (List.Sublist.refl _)
theorem zg2 {ts : List Tie} {il : List Nat} {m : Nat} {a : Nat × Bool} (ok : ∀ t ∈ ts, t.Ok m) (m9 : m ≤ 9) (m1 : 1 ≤ m) : ∀ (r left : List (Nat × Bool)) (q : Nat × Bool), PickOk m (left ++ [a]) → q ∈ r → q ∈ lpk ts il m a r left → zcn ts il m (zaj (zbb (lpk ts il m a r left) q ++ [a])) (zaq (zbb (lpk ts il m a r left) q ++ [a])) = false
 | [], _, _, _, h, _ => nomatch h
 | q' :: r, left, q, P, hq, hl => by
  unfold lpk at hl ⊢
  split at hl
  ·rename_i c
   rw [if_pos c]
   rcases List.mem_cons.mp hq with rfl | h
   ·exact absurd rfl (mem_woPk.mp ((zc7 r _).subset hl)).2
   ·exact zg2 ok m9 m1 r _ q (P.subl (zee _ _ _)) h hl
  ·rename_i c
   rw [if_neg c]
   rcases List.mem_cons.mp hq with rfl | h
   ·have P2 : PickOk m (zbb left q ++ [a]) := P.subl (zee _ _ _)
    have P3 : PickOk m (zbb (lpk ts il m a r left) q ++ [a]) := P.subl ((zee _ _ _).trans (List.Sublist.append (zc7 r left) (List.Sublist.refl _)))
    refine zqs ok m9 m1 P3 P2 (fun x hx => ?_) (Bool.eq_false_iff.mpr c)
    rcases List.mem_append.mp hx with z | z
    ·exact List.mem_append.mpr (.inl (mem_woPk.mpr ⟨(zc7 r left).subset (mem_woPk.mp z).1, (mem_woPk.mp z).2⟩))
    ·exact List.mem_append.mpr (.inr z)
   ·exact zg2 ok m9 m1 r left q P h hl
theorem zir {ts : List Tie} {il : List Nat} {m y n : Nat} (ok : ∀ t ∈ ts, t.Ok m) (S : Stand m y n) (m9 : m ≤ 9) (b : zcn ts il m y n = false) : ∃ s, zbc ts il m 9 y n = some s ∧ s < 2 ^ m ∧ InS y n s ∧ zbn ts il s = true ∧ ∀ s', s' < 2 ^ m → InS y n s' → zbn ts il s' = true → s ≤ s' := by
 have of := zcj m y n
 have F := zce (il := il) ok 9 y n (by omega) S
 unfold zcn at b
 rw [decide_eq_false_iff_not] at b
 cases e : zbc ts il m 9 y n with
 | none => exact absurd e b
 | some s => rw [e] at F; exact ⟨s, rfl, F⟩
structure WhyOk (ts : List Tie) (m : Nat) (il : List Nat) (left : List (Nat × Bool)) (p : Nat × Bool) : Prop where
 tie : ∀ t ∈ il, ∃ s, zbc ts (zbq il t) m 9 (zaj (left ++ [p])) (zaq (left ++ [p])) = some s ∧ s < 2 ^ m ∧ InS (zaj (left ++ [p])) (zaq (left ++ [p])) s ∧ zbn ts (zbq il t) s = true ∧ ze3 ts t s = false
 pick : ∀ q ∈ left, ∃ s, zbc ts il m 9 (zaj (zbb left q ++ [p])) (zaq (zbb left q ++ [p])) = some s ∧ s < 2 ^ m ∧ InS (zaj (zbb left q ++ [p])) (zaq (zbb left q ++ [p])) s ∧ zbn ts il s = true ∧ s.testBit q.1 = !q.2
theorem zs7 {ts : List Tie} {m : Nat} {ps ps' : List (Nat × Bool)} {p : Nat × Bool} (ok : ∀ t ∈ ts, t.Ok m) (m9 : m ≤ 9) (m1 : 1 ≤ m) (sp : zkl ps' ps) (P : PickOk m (ps ++ [p])) (h : zcn ts (zcd ts) m (zaj (ps ++ [p])) (zaq (ps ++ [p])) = true) : WhyOk ts m (zbf ts m (zaj (ps ++ [p])) (zaq (ps ++ [p]))) (zcc ts (zbf ts m (zaj (ps ++ [p])) (zaq (ps ++ [p]))) m ps' p) p := by
 have B1 := zvx sp h
 have nee := fun t => zkv (t := t) ok m9 (P.stand m1)
 generalize zbf ts m (zaj (ps ++ [p])) (zaq (ps ++ [p])) = il at B1 nee
 have P' : PickOk m (ps' ++ [p]) := P.perm (sp.pm.append (List.Perm.refl _))
 have sub : (zcc ts il m ps' p).Sublist ps' := zc7 _ _
 have PL : PickOk m (zcc ts il m ps' p ++ [p]) := P'.subl (sub.append (List.Sublist.refl _))
 have nd := fun q => zg2 (il := il) (a := p) ok m9 m1 ps' ps' q P'
 refine ⟨fun t ht => ?_, fun q hq => ?_⟩
 ·have b2 : zcn ts (zbq il t) m (zaj (zcc ts il m ps' p ++ [p])) (zaq (zcc ts il m ps' p ++ [p])) = false := by
   refine zqs ok m9 m1 PL P (fun x hx => ?_) (nee t ht)
   rcases List.mem_append.mp hx with z | z
   ·exact List.mem_append.mpr (.inl (sp.pm.mem_iff.mp (sub.subset z)))
   ·exact List.mem_append.mpr (.inr z)
  obtain ⟨s, e, h1, h2, h3, _⟩ := zir ok (PL.stand m1) m9 b2
  refine ⟨s, e, h1, h2, h3, ?_⟩
  rw [Bool.eq_false_iff]
  intro z
  have := (zel ok m9 (PL.stand m1)).mp B1 s h1 h2
  have y : zbn ts il s = true := by
   unfold zbn at h3 ⊢
   rw [List.all_eq_true] at h3 ⊢
   intro i hi
   by_cases e : i = t
   ·rw [e]; exact z
   ·exact h3 i (mem_without.mpr ⟨hi, e⟩)
  rw [this] at y
  cases y
 ·have b2 := nd q (sub.subset hq) hq
  have PW : PickOk m (zbb (zcc ts il m ps' p) q ++ [p]) := PL.subl (zee _ _ _)
  obtain ⟨s, e, h1, h2, h3, _⟩ := zir ok (PW.stand m1) m9 b2
  refine ⟨s, e, h1, h2, h3, ?_⟩
  have i2 := in_picks.mp h2
  have : ¬ s.testBit q.1 = q.2 := fun z => by
   have := (zel ok m9 (PL.stand m1)).mp B1 s h1 (in_picks.mpr ⟨i2.1, fun r hr => by
    rcases List.mem_append.mp hr with y | y
    ·by_cases e : r = q
     ·rw [e]; exact z
     ·exact i2.2 r (List.mem_append.mpr (.inl (mem_woPk.mpr ⟨y, e⟩)))
    ·exact i2.2 r (List.mem_append.mpr (.inr y))⟩)
   rw [h3] at this
   cases this
  cases c : s.testBit q.1 <;> cases d : q.2 <;> simp_all
theorem WhyOk.ent {H : Hp} {o1 o2 : Addr} {xs ys : List V} {ts : List Tie} {m : Nat} {il : List Nat} {left : List (Nat × Bool)} {p : Nat × Bool} (h : WhyOk ts m il left p) (oth : zpx H o1 ts m (zaj (left ++ [p])) (zaq (left ++ [p])) il) (othP : zm8 H o2 ts il m p left) (h1 : H o1 = some (.lst xs)) (h2 : H o2 = some (.lst ys)) : EntL H (zcq ts m il left p) (xs ++ ys) := by
 obtain ⟨zs, hz, lz, az⟩ := oth.ex
 obtain ⟨us, hu, lu, au⟩ := othP.ex
 rw [h1] at hz
 cases hz
 rw [h2] at hu
 cases hu
 refine ⟨by unfold zcq; rw [List.length_append, List.length_append, List.length_map, List.length_map, lz, lu], fun j e he => ?_⟩
 unfold zcq at he
 by_cases c : j < il.length
 ·rw [List.getElem?_append_left (by rw [List.length_map]; exact c), List.getElem?_map] at he
  obtain ⟨t, ht, rfl⟩ := Option.map_eq_some_iff.mp he
  obtain ⟨q, e1, e2⟩ := az j t ht
  obtain ⟨s, es, _⟩ := h.tie t (List.mem_of_getElem? ht)
  rw [es] at e2
  refine ⟨q, _, by rw [List.getElem?_append_left (by omega)]; exact e1, ?_, rfl⟩
  rw [es]
  exact e2
 ·rw [List.getElem?_append_right (by rw [List.length_map]; omega), List.length_map, List.getElem?_map] at he
  obtain ⟨r, hr, rfl⟩ := Option.map_eq_some_iff.mp he
  obtain ⟨q, t, e1, e2, e3⟩ := au _ r hr
  obtain ⟨s, es, _⟩ := h.pick r (List.mem_of_getElem? hr)
  rw [es] at e2
  refine ⟨q, _, by rw [List.getElem?_append_right (by omega), lz]; exact e1, ?_, zer e3⟩
  rw [es]
  exact e2
theorem zjl {ts : List Tie} {i s : Nat} (h : i < ts.length) : (brk ts s ts.length).testBit i = !ze3 ts i s := by
 rw [zgi, decide_eq_true h, Bool.true_and]
 unfold ze3
 rw [List.getElem?_eq_getElem h]
 rfl
theorem zlr : ∀ {l l' : List (Nat × Bool)}, l.Perm l' → (l.map (·.1)).Pairwise (· < ·) → (l'.map (·.1)).Pairwise (· < ·) → l = l' := fun {l l'} p a b => by
 rw [List.pairwise_map] at a b
 refine List.Perm.eq_of_pairwise (le := fun x y : Nat × Bool => x.1 < y.1) (fun a b _ _ h1 h2 => absurd (Nat.lt_trans h1 h2) (Nat.lt_irrefl _)) a b p
theorem zju {H : Hp} {l : Addr} {ps : List (Nat × Bool)} (pa : PicksAt H l ps) (nd : (ps.map (·.1)).Nodup) : ∃ es : List (Int × Addr), H l = some (.lst (es.map fun e => V.ref e.2)) ∧ zt3 H es ∧ es.length < 64 ∧ ∀ es' : List (Int × Addr), es'.Perm es → (es'.map (·.1)).Pairwise (· < ·) → ∃ ps', zkl ps' ps ∧ PickL H ps' (es'.map fun e => V.ref e.2) := by
 obtain ⟨xs, hl, px⟩ := pa.ex
 obtain ⟨es, e1, e2, e3, e4⟩ := px.es
 have few := pa.few
 refine ⟨es, by rw [← e1]; exact hl, ⟨fun e he => ⟨_, (e4 e he).1⟩, ?_⟩, ?_, fun es' pe pw => ?_⟩
 ·rw [e2]
  have : (ps.map fun p => ((p.1 : Nat) : Int)) = (ps.map (·.1)).map fun k : Nat => (k : Int) := by rw [List.map_map]; rfl
  rw [this, List.nodup_iff_pairwise_ne, List.pairwise_map]
  exact List.Pairwise.imp (fun {a b} h z => h (by omega)) (List.nodup_iff_pairwise_ne.mp nd)
 ·have := congrArg List.length e3
  rw [List.length_map] at this
  omega
 have e4' : ∀ e ∈ es', H e.2 = some (.tup [.int e.1, .bl (zb9 H e.2).2]) ∧ e.1 = (((zb9 H e.2).1 : Nat) : Int) := fun e he => e4 e (pe.mem_iff.mp he)
 refine ⟨es'.map fun e => zb9 H e.2, ⟨by rw [← e3]; exact pe.map _, ?_⟩, PickL.of_es es' e4'⟩
 rw [List.map_map, List.pairwise_map]
 rw [List.pairwise_map] at pw
 refine List.Pairwise.imp_of_mem (fun {a b} ha hb h => ?_) pw
 have a1 := (e4' a ha).2
 have b1 := (e4' b hb).2
 show (zb9 H a.2).1 < (zb9 H b.2).1
 omega
theorem DnL.len2 {H : Hp} : ∀ {ds : List PyData} {xs : List V}, DnL H ds xs → ds.length = xs.length
 | [], _, h => by rw [show _ = [] from h]; rfl
 | _ :: _, _, ⟨_, _, e, _, z⟩ => by rw [e, List.length_cons, List.length_cons, DnL.len2 z]
theorem zn4 {K : PySem.W.Frag} {a : Addr} {ps : List (Nat × Bool)} {xs : List V} {σ0 σr : St} {H : Hp} {tc : TT} {Q : VK} (gB : Nat × Bool → Bool) (h0 : σ0 = none :: σr) (ha : H a = some (.lst xs)) (pk : PickL H ps xs) (few : ps.length ≤ 1000)
  (ht : ∀ p ∈ ps, ∀ t, H t = some (.tup [.int (p.1 : Int), .bl p.2]) → ∀ R : Bool → Hp → Prop, R (gB p) H → tc (some (.ref t) :: σr) H R)
  (hd : ∀ q ys, H q = none → PickL H (ps.filter gB) ys → Q (.ref q) (upd H q (.lst ys))) :
  zma (Itl K a) (zlj 0) tc (zuv 0) σ0 H Q := by
 have lx := pk.length
 refine zco (K := K) (a := a) (xs := xs) (fun i ys σ H2 => (∃ v, σ = v :: σr) ∧ H2 = H ∧ ys.length ≤ i ∧ PickL H ((ps.take i).filter gB) ys) ⟨⟨none, h0⟩, rfl, Nat.le_refl _, rfl⟩ (fun i ys σ H2 hi pv => ?_) (fun i ys σ H2 hi pv => ?_) (fun i x ys σ H2 hx pv => ?_) (fun ys σ H2 pv p hp => ?_)
 ·exact zam (by have := pv.2.2.1; omega)
 ·rw [pv.2.1]; exact SqL.of ha
 ·obtain ⟨⟨v, rfl⟩, rfl, h1, h2⟩ := pv
  obtain ⟨p, t, hp, rfl, htp⟩ := pk.get hx
  refine ht p (List.mem_of_getElem? hp) t htp _ ?_
  have e : (ps.take (i + 1)).filter gB = (ps.take i).filter gB ++ (if gB p = true then [p] else []) := by
   rw [List.take_add_one, hp, Option.toList_some, List.filter_append]
   cases c : gB p <;> simp [c]
  cases c : gB p
  ·refine zek ?_
   rw [c, if_neg (by decide), List.append_nil] at e
   exact ⟨⟨_, rfl⟩, rfl, by omega, by rw [e]; exact h2⟩
  ·refine zl9 ?_
   rw [c, if_pos rfl] at e
   exact ⟨_, rfl, ⟨_, rfl⟩, rfl, by rw [List.length_append, List.length_singleton]; omega, by rw [e]; exact PickL.snoc htp h2⟩
 ·obtain ⟨_, rfl, _, h2⟩ := pv
  rw [← lx, List.take_length] at h2
  exact hd p ys hp h2
end Wd
set_option maxRecDepth 100000
set_option maxHeartbeats 4000000
namespace Wd
open PySem L2 Ow
def zct (M : Nat) (il : List Nat) : Prop := ∀ k, M.testBit k = decide (k ∈ il)
theorem zto (n : Nat) : zct (2 ^ n - 1) (List.range n) := fun k => by
 rw [Nat.testBit_two_pow_sub_one, Bool.eq_iff_iff, decide_eq_true_iff, decide_eq_true_iff, List.mem_range]
theorem zuw {M t : Nat} (h : M.testBit t = true) (k : Nat) : (M - 2 ^ t).testBit k = (M.testBit k && !decide (k = t)) := by
 obtain ⟨c, hc⟩ : ∃ c, M / 2 ^ t = 2 * c + 1 := by
  rw [Nat.testBit_eq_decide_div_mod_eq, decide_eq_true_iff] at h
  exact ⟨M / 2 ^ t / 2, by omega⟩
 have rl : M % 2 ^ t < 2 ^ t := Nat.mod_lt _ (Nat.two_pow_pos t)
 have eM : M = 2 ^ t * (2 * c + 1) + M % 2 ^ t := by rw [← hc]; exact (Nat.div_add_mod M (2 ^ t)).symm
 clear h hc
 generalize M % 2 ^ t = r at rl eM
 subst eM
 have e2 : 2 ^ t * (2 * c + 1) + r - 2 ^ t = 2 ^ t * (2 * c) + r := by rw [Nat.mul_add, Nat.mul_one]; omega
 rw [e2, Nat.two_pow_add_eq_or_of_lt rl, Nat.two_pow_add_eq_or_of_lt rl, Nat.testBit_or, Nat.testBit_or, Nat.testBit_two_pow_mul, Nat.testBit_two_pow_mul]
 rcases Nat.lt_trichotomy k t with z | z | z
 ·rw [decide_eq_false (show ¬ k ≥ t by omega), decide_eq_false (show ¬ k = t by omega)]
  simp
 ·subst z
  rw [Nat.testBit_lt_two_pow rl, Nat.sub_self, decide_eq_true (rfl : k = k)]
  simp
 ·obtain ⟨j, hj⟩ : ∃ j, k - t = j + 1 := ⟨k - t - 1, by omega⟩
  rw [hj, Nat.testBit_succ, Nat.testBit_succ, decide_eq_false (show ¬ k = t by omega), show 2 * c / 2 = c by omega, show (2 * c + 1) / 2 = c by omega]
  simp
theorem zqk {M t : Nat} {il : List Nat} (h : zct M il) (ht : t ∈ il) : zct (M - 2 ^ t) (zbq il t) := fun k => by
 rw [zuw (by rw [h]; exact decide_eq_true ht), h, Bool.eq_iff_iff, Bool.and_eq_true, decide_eq_true_iff, Bool.not_eq_true', decide_eq_false_iff_not, decide_eq_true_iff, mem_without]
theorem zqt {M t : Nat} {il : List Nat} (h : zct M il) (ht : t ∈ il) : 2 ^ t ≤ M := Nat.ge_two_pow_of_testBit (by rw [h]; exact decide_eq_true ht)
theorem zlz {M s : Nat} {ts : List Tie} {il : List Nat} (h : zct M il) (ilt : ∀ i ∈ il, i < ts.length) : Builtin.bitAnd ((brk ts s ts.length : Nat) : Int) (M : Int) = 0 ↔ zbn ts il s = true := by
 rw [zdv]
 unfold zbn
 rw [List.all_eq_true]
 constructor
 ·intro z i hi
  have z : brk ts s ts.length &&& M = 0 := by omega
  have := congrArg (fun x => Nat.testBit x i) z
  simp only [Nat.testBit_and, Nat.zero_testBit] at this
  rw [zjl (ilt i hi), h, decide_eq_true hi, Bool.and_true] at this
  simpa using this
 ·intro z
  have : brk ts s ts.length &&& M = 0 := Nat.eq_of_testBit_eq fun k => by
   rw [Nat.testBit_and, Nat.zero_testBit, h]
   by_cases hk : k ∈ il
   ·rw [zjl (ilt k hk), z k hk]
    rfl
   ·rw [decide_eq_false hk, Bool.and_false]
  rw [this]
  rfl
theorem zdf {m s y n M : Nat} {ts : List Tie} {il : List Nat} (h : zct M il) (ilt : ∀ i ∈ il, i < ts.length) : s ∈ zbk (brN m ts) (M : Int) y n ↔ s < 2 ^ m ∧ InS y n s ∧ zbn ts il s = true := by
 unfold zbk
 rw [List.mem_filter, List.mem_range, zb4]
 constructor
 ·rintro ⟨h1, h2⟩
  unfold zfn at h2
  rw [zmo h1, Option.getD_some] at h2
  simp only [Bool.and_eq_true, decide_eq_true_eq] at h2
  exact ⟨h1, in_iff.mpr ⟨h2.1, h2.2.1⟩, (zlz h ilt).mp h2.2.2⟩
 ·rintro ⟨h1, i, h3⟩
  refine ⟨h1, ?_⟩
  unfold zfn
  rw [zmo h1, Option.getD_some]
  simp only [Bool.and_eq_true, decide_eq_true_eq]
  exact ⟨(in_iff.mp i).1, (in_iff.mp i).2, (zlz h ilt).mpr h3⟩
theorem zlm {m y n M : Nat} {ts : List Tie} {il : List Nat} (ok : ∀ t ∈ ts, t.Ok m) (m9 : m ≤ 9) (S : Stand m y n) (h : zct M il) (ilt : ∀ i ∈ il, i < ts.length) : zbk (brN m ts) (M : Int) y n = [] ↔ zcn ts il m y n = true := by
 rw [zel ok m9 S, List.eq_nil_iff_forall_not_mem]
 constructor
 ·intro z s h1 h2
  rw [Bool.eq_false_iff]
  exact fun c => z s ((zdf h ilt).mpr ⟨h1, h2, c⟩)
 ·intro z s hs
  obtain ⟨h1, h2, h3⟩ := (zdf h ilt).mp hs
  rw [z s h1 h2] at h3
  cases h3
theorem zns {B : List Nat} {ti : Int} {y n s : Nat} (hs : s ∈ zbk B ti y n) (h : ∀ s' ∈ zbk B ti y n, s ≤ s') : ∃ r, zbk B ti y n = s :: r := by
 have pw := zqv B ti y n
 generalize zbk B ti y n = l at hs h pw
 cases l with
 | nil => cases hs
 | cons x r =>
  rcases List.mem_cons.mp hs with rfl | z
  ·exact ⟨r, rfl⟩
  ·have := (List.pairwise_cons.mp pw).1 s z
   have := h x List.mem_cons_self
   omega
theorem znt {m y n M : Nat} {ts : List Tie} {il : List Nat} (ok : ∀ t ∈ ts, t.Ok m) (m9 : m ≤ 9) (S : Stand m y n) (h : zct M il) (ilt : ∀ i ∈ il, i < ts.length) {s : Nat} (e : zbc ts il m 9 y n = some s) : ∃ r, zbk (brN m ts) (M : Int) y n = s :: r := by
 have of := zcj m y n
 have F := zce (il := il) ok 9 y n (by omega) S
 rw [e] at F
 obtain ⟨h1, h2, h3, h4⟩ := F
 refine zns ((zdf h ilt).mpr ⟨h1, h2, h3⟩) fun s' hs' => ?_
 obtain ⟨a1, a2, a3⟩ := (zdf h ilt).mp hs'
 exact h4 s' a1 a2 a3
theorem ztr : zct 0 [] := fun k => by rw [Nat.zero_testBit]; rfl
theorem zpb {m y n : Nat} {ts : List Tie} (S : Stand m y n) : zbk (brN m ts) 0 y n = za0 m y n := by
 have e : ∀ s, s ∈ zbk (brN m ts) ((0 : Nat) : Int) y n ↔ _ := fun s => zdf (s := s) (y := y) (n := n) (m := m) (ts := ts) ztr (fun _ z => nomatch z)
 unfold za0 zbk
 rw [zb4]
 refine List.filter_congr fun s hs => ?_
 rw [Bool.eq_iff_iff, ze5 S]
 have := e s
 unfold zbk at this
 rw [List.mem_filter, zb4] at this
 have hs' := List.mem_range.mp hs
 constructor
 ·intro z
  exact (this.mp ⟨hs, z⟩).2.1
 ·intro z
  exact (this.mpr ⟨hs', z, rfl⟩).2
theorem znx {m M : Nat} {ts : List Tie} {il : List Nat} {left : List (Nat × Bool)} {q p : Nat × Bool} (ok : ∀ t ∈ ts, t.Ok m) (m9 : m ≤ 9) (m1 : 1 ≤ m) (P : PickOk m (left ++ [p])) (h : zct M il) (ilt : ∀ i ∈ il, i < ts.length) {s : Nat} (e : zbc ts il m 9 (zaj (zbb left q ++ [p])) (zaq (zbb left q ++ [p])) = some s) (eq : s.testBit q.1 = !q.2) : ∃ r, zbk (brN m ts) (M : Int) (zaj (zbb left q ++ [(q.1, !q.2), p])) (zaq (zbb left q ++ [(q.1, !q.2), p])) = s :: r := by
 have PW : PickOk m (zbb left q ++ [p]) := P.subl (zee _ _ _)
 have of := zcj m (zaj (zbb left q ++ [p])) (zaq (zbb left q ++ [p]))
 have F := zce (il := il) ok 9 _ _ (by omega) (PW.stand m1)
 rw [e] at F
 obtain ⟨h1, h2, h3, h4⟩ := F
 have i2 := in_picks.mp h2
 refine zns ((zdf h ilt).mpr ⟨h1, in_picks.mpr ⟨i2.1, fun r hr => ?_⟩, h3⟩) fun s' hs' => ?_
 ·rcases List.mem_append.mp hr with z | z
  ·exact i2.2 r (List.mem_append.mpr (.inl z))
  ·simp only [List.mem_cons, List.not_mem_nil, or_false] at z
   rcases z with rfl | rfl
   ·exact eq
   ·exact i2.2 r (List.mem_append.mpr (.inr (List.mem_singleton.mpr rfl)))
 ·obtain ⟨a1, a2, a3⟩ := (zdf h ilt).mp hs'
  refine h4 s' a1 (zt6 (fun r hr => ?_) a2) a3
  rcases List.mem_append.mp hr with z | z
  ·exact List.mem_append.mpr (.inl z)
  ·exact List.mem_append.mpr (.inr (List.mem_cons_of_mem _ z))
theorem ziw {ts : List Tie} {m y n x : Nat} : ∀ (l left : List Nat), x ∈ left → x ∉ l → x ∈ l.foldl (za1 ts m y n) left
 | [], _, h, _ => h
 | t :: l, left, h, hl => by
  rw [List.foldl_cons]
  refine ziw l _ ?_ fun z => hl (List.mem_cons_of_mem _ z)
  unfold za1
  split
  ·exact mem_without.mpr ⟨h, fun z => hl (by rw [z]; exact List.mem_cons_self)⟩
  ·exact h
def zpz : Sp := fun vs H Q _ => ∃ (lb lc : Addr) (m : Nat) (ts : List Tie) (ps : List (Nat × Bool)), vs = [.ref lb, .ref lc, .int (ts.length : Int)] ∧ H lb = some (.lst (zal (brN m ts))) ∧ PicksAt H lc ps ∧ PickOk m ps ∧ (∀ t ∈ ts, t.Ok m) ∧ 1 ≤ m ∧ m ≤ 9 ∧ ts.length ≤ 17 ∧ ∀ (M : Nat) (H' : Hp), Same H H' → zct M (zbf ts m (zaj ps) (zaq ps)) → Q (.int (M : Int)) H'
theorem zqo {A B : List Nat} (a : A.Pairwise (· < ·)) (b : B.Pairwise (· < ·)) (h : ∀ x, x ∈ A ↔ x ∈ B) : A = B := by
 refine List.Perm.eq_of_pairwise (le := (· < ·)) (fun a b _ _ h1 h2 => absurd (Nat.lt_trans h1 h2) (Nat.lt_irrefl _)) a b ?_
 have na : A.Nodup := List.nodup_iff_pairwise_ne.mpr (a.imp fun h z => by omega)
 have nb : B.Nodup := List.nodup_iff_pairwise_ne.mpr (b.imp fun h z => by omega)
 exact (List.perm_ext_iff_of_nodup na nb).mpr h
theorem zuk {m y n : Nat} {ts : List Tie} (S : Stand m y n) (ok : ∀ t ∈ ts, t.Ok m) (k : Nat) : ((za0 m y n).all fun s => (brk ts s ts.length).testBit k) = (decide (k < ts.length) && zfs ts k y n) := by
 obtain ⟨s0, l', el⟩ : ∃ s0 l', za0 m y n = s0 :: l' := by
  cases h : za0 m y n with
  | nil => have := zhd S; rw [h] at this; cases this
  | cons a b => exact ⟨a, b, rfl⟩
 obtain ⟨r, _, h⟩ := zms (fun s => brk ts s ts.length) l' (brk ts s0 ts.length)
 have h' : ∀ k, r.testBit k = (za0 m y n).all fun s => (brk ts s ts.length).testBit k := fun k => by rw [h k, el, List.all_cons]
 rw [← h' k]
 exact zrb S ok h' k
theorem zye {m y n r M : Nat} {ts : List Tie} {il : List Nat} (S : Stand m y n) (ok : ∀ t ∈ ts, t.Ok m) (h : zct M il) (ilt : ∀ i ∈ il, i < ts.length) (hr : ∀ k, r.testBit k = (M.testBit k && (za0 m y n).all fun s => (brk ts s ts.length).testBit k)) (k : Nat) : r.testBit k = (decide (k ∈ il) && zfs ts k y n) := by
 rw [hr, h, zuk S ok]
 by_cases c : k ∈ il
 ·rw [decide_eq_true (ilt k c), Bool.true_and]
 ·rw [decide_eq_false c]
  rfl
theorem zn2 {y n r : Nat} {ts : List Tie} {il : List Nat} (pw : il.Pairwise (· < ·)) (l17 : ∀ i ∈ il, i < 17) (h : ∀ k, r.testBit k = (decide (k ∈ il) && zfs ts k y n)) : za5 ts il y n = ((List.range 17).filter fun k => r.testBit k).head? := by
 unfold za5
 rw [← List.head?_filter]
 congr 1
 refine zqo (pw.filter _) (List.pairwise_lt_range.filter _) fun x => ?_
 rw [List.mem_filter, List.mem_filter, List.mem_range, h, Bool.and_eq_true, decide_eq_true_iff]
 exact ⟨fun z => ⟨l17 x z.1, z⟩, fun z => z.2⟩
theorem zjz {y n r : Nat} {ts : List Tie} {il : List Nat} (h : ∀ k, r.testBit k = (decide (k ∈ il) && zfs ts k y n)) : r = 0 ↔ za5 ts il y n = none := by
 unfold za5
 rw [List.find?_eq_none]
 constructor
 ·intro z x hx c
  have := h x
  rw [z, Nat.zero_testBit, decide_eq_true hx, c] at this
  cases this
 ·intro z
  refine Nat.eq_of_testBit_eq fun k => ?_
  rw [h, Nat.zero_testBit]
  by_cases c : k ∈ il
  ·rw [Bool.eq_false_iff.mpr (z k c), Bool.and_false]
  ·rw [decide_eq_false c]
   rfl
def zl8 (f : Nat) : Sp := fun vs H Q _ => ∃ (bl sl : Addr) (m : Nat) (ts : List Tie) (il : List Nat) (y n F M : Nat), vs = [.ref bl, .int (M : Int), .ref sl] ∧ H bl = some (.lst (zal (brN m ts))) ∧ H sl = some (.lst (zal (za0 m y n))) ∧ Stand m y n ∧ m ≤ 9 ∧ (∀ t ∈ ts, t.Ok m) ∧ zct M il ∧ il.Pairwise (· < ·) ∧ (∀ i ∈ il, i < 17) ∧ (∀ i ∈ il, i < ts.length) ∧ (zay m y n).length < f ∧ (zay m y n).length ≤ F ∧ ∀ (v : V) (H' : Hp), Same H H' → Dn H' (zb3 ts il m F y n).toD v → Q v H'
def zuc (e : PyData × Nat) : PyData := .tuple [e.1, zks e.2]
def zt4 (ts : List Tie) (m : Nat) (il : List Nat) (left : List (Nat × Bool)) (p : Nat × Bool) : PyData := .tuple [.list (il.map zks), .list (left.map zbm), (zb3 ts il m 9 (zaj (left ++ [p])) (zaq (left ++ [p]))).toD, .list ((zcq ts m il left p).map zuc)]
theorem zs6 {H : Hp} : ∀ {ds : List PyData} {xs : List V}, xs.length = ds.length → (∀ (i : Nat) (d : PyData), ds[i]? = some d → ∃ x, xs[i]? = some x ∧ Dn H d x) → DnL H ds xs
 | [], [], _, _ => rfl
 | [], _ :: _, h, _ => by simp at h
 | _ :: _, [], h, _ => by simp at h
 | d :: ds, x :: xs, h, e => by
  obtain ⟨x', h1, h2⟩ := e 0 d rfl
  cases h1
  exact ⟨x, xs, rfl, h2, zs6 (by simpa using h) fun i d' hd => e (i + 1) d' (by simpa using hd)⟩
theorem EntL.dn {H : Hp} {es : List (PyData × Nat)} {xs : List V} (h : EntL H es xs) : DnL H (es.map zuc) xs := zs6 (by rw [List.length_map]; exact h.len) fun i d hd => by
 rw [List.getElem?_map] at hd
 obtain ⟨e, he, rfl⟩ := Option.map_eq_some_iff.mp hd
 obtain ⟨q, v, h1, h2, h3⟩ := h.at_ i e he
 exact ⟨_, h1, ⟨q, _, rfl, h2, _, _, rfl, h3, _, _, rfl, rfl, rfl⟩⟩
theorem zm2 (n : Nat) {s : Str} (h : PyData.strOk s = true) : zeq n (.str s) = true := by cases n <;> exact h
theorem zqx (n : Nat) (i : Int) : zeq n (.int i) = true := by cases n <;> rfl
theorem zxc : ∀ (t : CT) (n : Nat), t.depth < n → zeq n t.toD = true := by
 intro t
 induction t with
 | broken i =>
  intro n h
  obtain ⟨n, rfl⟩ : ∃ k, n = k + 1 := ⟨n - 1, by omega⟩
  show ([PyData.str ("broken" : Str), .int (i : Int)].all (zeq n)) = true
  rw [List.all_cons, List.all_cons, zm2 n (by decide +kernel), zqx]
  rfl
 | ware =>
  intro n h
  obtain ⟨n, rfl⟩ : ∃ k, n = k + 1 := ⟨n - 1, by omega⟩
  show ([PyData.str ("ware" : Str)].all (zeq n)) = true
  rw [List.all_cons, zm2 n (by decide +kernel)]
  rfl
 | split k a b iha ihb =>
  intro n h
  obtain ⟨n, rfl⟩ : ∃ k, n = k + 1 := ⟨n - 1, by omega⟩
  have ha : a.depth < n := by have := h; simp only [CT.depth] at this; omega
  have hb : b.depth < n := by have := h; simp only [CT.depth] at this; omega
  show ([PyData.str ("split" : Str), .int (k : Int), a.toD, b.toD].all (zeq n)) = true
  rw [List.all_cons, List.all_cons, List.all_cons, List.all_cons, zm2 n (by decide +kernel), zqx, iha n ha, ihb n hb]
  rfl
theorem zvq (ts : List Tie) (m : Nat) (il : List Nat) (left : List (Nat × Bool)) (p : Nat × Bool) : zeq 12 (zt4 ts m il left p) = true := by
 have d9 := zfm (ts := ts) (il := il) (m := m) 9 (zaj (left ++ [p])) (zaq (left ++ [p]))
 have h3 := zxc (zb3 ts il m 9 (zaj (left ++ [p])) (zaq (left ++ [p]))) 11 (by omega)
 have h4 : ((zcq ts m il left p).map zuc).all (zeq 10) = true := by
  rw [List.all_eq_true]
  intro d hd
  obtain ⟨e, he, rfl⟩ := List.mem_map.mp hd
  have : e.1 ∈ (zcq ts m il left p).map (·.1) := List.mem_map.mpr ⟨e, he, rfl⟩
  rw [zrv] at this
  have l1 : zeq 9 e.1 = true := by
   rcases List.mem_append.mp this with z | z
   ·exact List.all_eq_true.mp (zoi 9 il) _ z
   ·exact List.all_eq_true.mp (zlk 8 left) _ z
  show ([e.1, zks e.2].all (zeq 9)) = true
  rw [List.all_cons, l1]
  rfl
 show ([PyData.list (il.map zks), .list (left.map zbm), (zb3 ts il m 9 (zaj (left ++ [p])) (zaq (left ++ [p]))).toD, .list ((zcq ts m il left p).map zuc)].all (zeq 11)) = true
 simp only [List.all_cons, List.all_nil, h3, Bool.and_true, Bool.true_and]
 show ((il.map zks).all (zeq 10) && ((left.map zbm).all (zeq 10) && ((zcq ts m il left p).map zuc).all (zeq 10))) = true
 rw [zoi, zlk, h4]
 rfl
theorem WhyAt.dn {H0 H : Hp} {v : V} {ts : List Tie} {m : Nat} {il : List Nat} {ps' : List (Nat × Bool)} {p : Nat × Bool} (h : WhyAt H0 H v ts m il ps' p) (wo : WhyOk ts m il (zcc ts il m ps' p) p) : Dn H (zt4 ts m il (zcc ts il m ps' p) p) v := by
 obtain ⟨q, lf, lp, ol, o1, o2, tv, xs, ys, rfl, hq, hlf, plp, dtv, oth, othP, ho1, ho2, hol⟩ := h.ex
 obtain ⟨ls, hls, pkl⟩ := plp.ex
 exact ⟨q, _, rfl, hq, _, _, rfl, ⟨lf, _, rfl, hlf, zj9 _⟩, _, _, rfl, ⟨lp, _, rfl, hls, pkl.dn⟩, _, _, rfl, dtv, _, _, rfl, ⟨ol, _, rfl, hol, (wo.ent oth othP ho1 ho2).dn⟩, rfl⟩
def zxk : Sp := fun vs H Q _ => ∃ (lb lc tp : Addr) (m : Nat) (ts : List Tie) (ps : List (Nat × Bool)) (p : Nat × Bool), vs = [.ref lb, .ref lc, .ref tp, .int (ts.length : Int)] ∧ H lb = some (.lst (zal (brN m ts))) ∧ PicksAt H lc ps ∧ PickOk m (ps ++ [p]) ∧ H tp = some (.tup [.int (p.1 : Int), .bl p.2]) ∧ (∀ t ∈ ts, t.Ok m) ∧ 1 ≤ m ∧ m ≤ 9 ∧ ts.length ≤ 17 ∧ zcn ts (zcd ts) m (zaj (ps ++ [p])) (zaq (ps ++ [p])) = true ∧
 ∀ (v : V) (H' : Hp) (ps' : List (Nat × Bool)), zkl ps' ps → Same H H' → Dn H' (zt4 ts m (zbf ts m (zaj (ps ++ [p])) (zaq (ps ++ [p]))) (zcc ts (zbf ts m (zaj (ps ++ [p])) (zaq (ps ++ [p]))) m ps' p) p) v → Q v H'
theorem zsg {M n : Nat} {il : List Nat} (h : zct M il) (pw : il.Pairwise (· < ·)) (ilt : ∀ i ∈ il, i < n) : (List.range n).filter (fun k => M.testBit k) = il := by
 refine zqo (List.pairwise_lt_range.filter _) pw fun x => ?_
 rw [List.mem_filter, List.mem_range, h, decide_eq_true_iff]
 exact ⟨fun z => z.2, fun z => ⟨ilt x z, z⟩⟩
def zmz (d : PyData) : Prop := (∃ k, d = zks k) ∨ ∃ p, d = zbm p
theorem zj4 {ts : List Tie} {m : Nat} {il : List Nat} {left : List (Nat × Bool)} {p : Nat × Bool} : ∀ e ∈ zcq ts m il left p, zmz e.1 := fun e he => by
 unfold zcq at he
 rcases List.mem_append.mp he with z | z
 ·obtain ⟨t, _, rfl⟩ := List.mem_map.mp z
  exact .inl ⟨t, rfl⟩
 ·obtain ⟨q, _, rfl⟩ := List.mem_map.mp z
  exact .inr ⟨q, rfl⟩
theorem Dn.pickT {H H' : Hp} {d : PyData} {v : V} (t : zc5 H H') (f : zmz d) (h : Dn H d v) : Dn H' d v := by
 rcases f with ⟨k, rfl⟩ | ⟨p, rfl⟩
 ·exact h
 ·obtain ⟨a, xs, rfl, ha, x, r, rfl, hx, y, r2, rfl, hy, hn⟩ := h
  exact ⟨a, _, rfl, t _ _ ha, x, _, rfl, hx, y, _, rfl, hy, hn⟩
theorem EntL.tup {H H' : Hp} {es : List (PyData × Nat)} {xs : List V} (h : EntL H es xs) (f : ∀ e ∈ es, zmz e.1) (t : zc5 H H') : EntL H' es xs := ⟨h.len, fun j e he => by
 obtain ⟨q, v, h1, h2, h3⟩ := h.at_ j e he
 exact ⟨q, v, h1, t _ _ h2, Dn.pickT t (f e (List.mem_of_getElem? he)) h3⟩⟩
theorem EntL.snoc {H : Hp} {es : List (PyData × Nat)} {xs : List V} {q : Addr} {v : V} {d : PyData} {n : Nat} (h : EntL H es xs) (hq : H q = some (.tup [v, .int (n : Int)])) (hd : Dn H d v) : EntL H (es ++ [(d, n)]) (xs ++ [.ref q]) := by
 have hl := h.len
 refine ⟨by rw [List.length_append, List.length_append, hl]; rfl, fun j e he => ?_⟩
 by_cases c : j < es.length
 ·rw [List.getElem?_append_left c] at he
  obtain ⟨q', v', h1, h2, h3⟩ := h.at_ j e he
  exact ⟨q', v', by rw [List.getElem?_append_left (by omega)]; exact h1, h2, h3⟩
 ·rw [List.getElem?_append_right (by omega)] at he
  have : j - es.length = 0 := by
   have := (List.getElem?_eq_some_iff.mp he).1
   simp only [List.length_cons, List.length_nil] at this
   omega
  rw [this] at he
  cases he
  exact ⟨q, v, by rw [List.getElem?_append_right (by omega), show j - xs.length = 0 by omega]; rfl, hq, hd⟩
theorem zrw {ts : List Tie} {m i t : Nat} {il : List Nat} {left : List (Nat × Bool)} {p : Nat × Bool} (h : il[i]? = some t) : (zcq ts m il left p)[i]? = some (zks t, (zbc ts (zbq il t) m 9 (zaj (left ++ [p])) (zaq (left ++ [p]))).getD 0) := by
 unfold zcq
 rw [List.getElem?_append_left (by rw [List.length_map]; exact (List.getElem?_eq_some_iff.mp h).1), List.getElem?_map, h]
 rfl
theorem zp2 {ts : List Tie} {m i : Nat} {il : List Nat} {left : List (Nat × Bool)} {p q : Nat × Bool} (h : left[i]? = some q) : (zcq ts m il left p)[il.length + i]? = some (zbm q, (zbc ts il m 9 (zaj (zbb left q ++ [p])) (zaq (zbb left q ++ [p]))).getD 0) := by
 unfold zcq
 rw [List.getElem?_append_right (by rw [List.length_map]; omega), List.length_map, show il.length + i - il.length = i by omega, List.getElem?_map, h]
 rfl
theorem zh0 {ts : List Tie} {m : Nat} {il : List Nat} {left : List (Nat × Bool)} {p : Nat × Bool} : (zcq ts m il left p).length = il.length + left.length := by
 unfold zcq
 rw [List.length_append, List.length_map, List.length_map]
theorem PicksAt.snocC {H : Hp} {l l' tp : Addr} {ps : List (Nat × Bool)} {p : Nat × Bool} {xs : List V} (h : PicksAt H l ps) (hx : H l = some (.lst xs)) (few : ps.length < 20) (pl : p.1 ≤ 20) (ht : H tp = some (.tup [.int (p.1 : Int), .bl p.2])) (hl : H l' = some (.lst (xs ++ [.ref tp]))) : PicksAt H l' (ps ++ [p]) := h.snoc hx few pl ht (Same.refl H) hl
def zr4 (K : PySem.W.Frag) (C : Addr) : Sp := fun vs H Q _ => ∃ (pen sp : Addr) (ns : List Int) (k : Int) (c dx wd pl lb lg : Addr) (m : Nat) (ts : List Tie) (ps0 : List (Nat × Bool)), vs = [.ref pen, .ref c, .ref lb, .int (m : Int), .ref lg] ∧ (∀ k' H', KeepA [pen, c, pl] H H' → H' pen = some (.lst [.ref sp, .int k']) → Pen K H' pen sp ns k') ∧ H pen = some (.lst [.ref sp, .int k]) ∧ 0 ≤ k ∧ k ≤ 900000 ∧
 H c = some (.ins C dx (chF wd pl)) ∧ PicksAt H pl ps0 ∧ PicksAt H lg ps0 ∧ PickOk m ps0 ∧ lb ≠ pl ∧ (∀ H', zc5 H H' → WoodT H' wd m ts) ∧ H lb = some (.lst (zal (brN m ts))) ∧ lb ≠ pen ∧ 1 ≤ m ∧ m ≤ 9 ∧ (∃ s, s < 2 ^ m ∧ InS (zaj ps0) (zaq ps0) s ∧ zbg ts s = true) ∧
 ∀ (lc pl' : Addr) (ps : List (Nat × Bool)) (k' : Int) (H' : Hp), KeepA [pen, c, pl] H H' → zc5 H H' → H' pen = some (.lst [.ref sp, .int k']) → k ≤ k' → k' ≤ k + 60 → H' c = some (.ins C dx (chF wd pl')) → PicksAt H' pl' ps → PicksAt H' lc ps → lc ≠ pl' → (pl' = pl ∨ H pl' = none) → H lc = none → PickOk m ps → (∃ s, s < 2 ^ m ∧ InS (zaj ps) (zaq ps) s ∧ zbg ts s = true) → Q (.ref lc) H'
def zuo (C t : Addr) : Sp := fun vs H Q _ => ∃ (c dx wd pl lb lc tp : Addr) (m : Nat) (ts : List Tie) (ps : List (Nat × Bool)) (p : Nat × Bool), vs = [.ref c, .ref lb, .ref lc, .ref tp, .int (ts.length : Int)] ∧ zcw H t ∧ H c = some (.ins C dx (chF wd pl)) ∧ PicksAt H pl ps ∧ PicksAt H lc ps ∧ PickOk m ps ∧ WoodT H wd m ts ∧ H lb = some (.lst (zal (brN m ts))) ∧ 1 ≤ m ∧ m ≤ 9 ∧ ts.length ≤ 17 ∧ H tp = some (.tup [.int (p.1 : Int), .bl p.2]) ∧ p.1 ∈ zay m (zaj ps) (zaq ps) ∧ ∀ H', Same H H' → Q (.bl true) H'
def zwf (K : PySem.W.Frag) (C t : Addr) : Sp := fun vs H Q _ => ∃ (pen sp : Addr) (ns : List Int) (k : Int) (c dx wd pl lb lc : Addr) (m : Nat) (ts : List Tie) (ps : List (Nat × Bool)), vs = [.ref pen, .ref c, .ref lb, .ref wd, .ref lc] ∧ zcw H t ∧ Pen K H pen sp ns k ∧ 0 ≤ k ∧ k ≤ 900000 ∧ H c = some (.ins C dx (chF wd pl)) ∧ PicksAt H pl ps ∧ PicksAt H lc ps ∧ PickOk m ps ∧ (∀ H', zc5 H H' → WoodT H' wd m ts) ∧ H lb = some (.lst (zal (brN m ts))) ∧ lb ≠ pen ∧ 1 ≤ m ∧ m ≤ 9 ∧ ts.length ≤ 17 ∧ ∀ (k' : Int) (H' : Hp), SameX pen H H' → H' pen = some (.lst [.ref sp, .int k']) → k ≤ k' → k' ≤ k + 2 → Q (.bl true) H'
theorem WoodX.many {H : Hp} {wd : Addr} {m : Nat} {bs cs : List PyData} {ts : List Tie} (h : WoodX H wd m bs cs) (w : WoodT H wd m ts) : ts.length = bs.length + cs.length := by
 obtain ⟨xs, ys, ⟨tb, tc, a1, a2, a3⟩, db, dc⟩ := h.ex
 obtain ⟨xs1, ys1, ⟨tb1, tc1, b1, b2, b3⟩, dn⟩ := w.ex
 rw [a1] at b1
 cases b1
 rw [a2] at b2
 cases b2
 rw [a3] at b3
 cases b3
 have := DnL.len2 dn
 rw [List.length_map, List.length_append] at this
 rw [this, DnL.len2 db, DnL.len2 dc]
end Wd
set_option maxRecDepth 100000
set_option maxHeartbeats 4000000
namespace Ow
open PySem L2 Wd
def top (i : Nat) : Stmt := PySem.Challenge.pw_optionwood_k42_why_told.main.body.getD i (.Pass ⟨0, 0, 0, 0⟩)
abbrev ztv : Stmt := top 2
abbrev zew : Stmt := top 3
abbrev zda : Stmt := top 4
abbrev zf6 : Stmt := top 10
abbrev zjr : Stmt := top 11
abbrev zfe : Stmt := top 13
abbrev zf3 : Stmt := top 14
abbrev ze2 : Stmt := top 15
abbrev zet : Stmt := top 16
abbrev za4 : Stmt := top 17
abbrev zcs : Stmt := top 18
abbrev zck : Stmt := top 20
abbrev zf8 : Stmt := top 21
abbrev zdm : Stmt := top 22
abbrev zfi : Stmt := top 24
abbrev zb7 : Stmt := top 25
abbrev zpf : Stmt := top 27
abbrev zfl : Stmt := top 28
abbrev zd9 : Stmt := top 29
abbrev zch : Stmt := top 30
abbrev zgu : Stmt := top 33
abbrev zig : Stmt := top 34
abbrev zdz : Stmt := top 35
abbrev zg3 : Stmt := top 36
abbrev zfj : Stmt := top 37
abbrev zey : Stmt := top 38
abbrev ze0 : Stmt := top 39
abbrev zeg : Stmt := top 41
abbrev zcm : Stmt := top 42
abbrev zbv : Stmt := top 43
abbrev zem : Stmt := top 44
abbrev zdt : Stmt := top 45
abbrev zd6 : Stmt := top 46
abbrev zfx : Stmt := top 47
abbrev zgt : Stmt := top 48
abbrev zdg : Stmt := top 49
abbrev zcp : Stmt := top 50
abbrev zd1 : Stmt := top 51
abbrev zc3 : Stmt := top 52
abbrev zdp : Stmt := top 53
abbrev zdc : Stmt := top 54
abbrev zon : Stmt := top 55
abbrev zc9 : Stmt := (zge (top 32)).getD 0 (.Pass ⟨0, 0, 0, 0⟩)
abbrev zdy : Stmt := (zge (top 32)).getD 2 (.Pass ⟨0, 0, 0, 0⟩)
abbrev zd2 : Stmt := (zge (top 32)).getD 4 (.Pass ⟨0, 0, 0, 0⟩)
abbrev zbp : Stmt := (zge (top 32)).getD 5 (.Pass ⟨0, 0, 0, 0⟩)
abbrev zev : Stmt := (zge (top 32)).getD 6 (.Pass ⟨0, 0, 0, 0⟩)
abbrev zfd : Stmt := (zge (top 32)).getD 7 (.Pass ⟨0, 0, 0, 0⟩)
set_option genInjectivity false
set_option genSizeOfSpec false
set_option genSizeOf false
structure Adr where
 (f_has f_with_option f_open_options f_many_ties f_tie_at f_count_in f_every_tie f_sure_broken f_least_sum f_sure_broken_bough f_first_sure_broken f_cases_of f_ware_leaf f_told_tree f_first_ware f_first_keeping f_bars f_least_ties f_tie_others f_left_without f_stand_of f_open_at f_first_ware_at f_leads_on f_why_barred f_least_picks f_pick_others f_law_take f_law_boughs f_law_cross f_law_wood f_law_keeps f_law_broken f_law_stand f_law_sets f_law_tree f_law_played f_law_left_ties f_law_due f_law_right f_law_all f_law f_Choice___init__ f_Choice_chosen f_Choice_choose f_Choice_take_back f_Choice_ware f_Choice_why : Addr)
 (c_cases_of t_cases_of x_Choice : Addr)
structure Fds where
 (f_has f_with_option f_open_options f_many_ties f_tie_at f_count_in f_every_tie f_sure_broken f_least_sum f_sure_broken_bough f_first_sure_broken f_cases_of f_ware_leaf f_told_tree f_first_ware f_first_keeping f_bars f_least_ties f_tie_others f_left_without f_stand_of f_open_at f_first_ware_at f_leads_on f_why_barred f_least_picks f_pick_others f_law_take f_law_boughs f_law_cross f_law_wood f_law_keeps f_law_broken f_law_stand f_law_sets f_law_tree f_law_played f_law_left_ties f_law_due f_law_right f_law_all f_law f_Choice___init__ f_Choice_chosen f_Choice_choose f_Choice_take_back f_Choice_ware f_Choice_why : FuncData)
structure Txt (K : PySem.W.Frag) (mg : Str → Option Value) (a : Adr) (d : Fds) : Prop where
 m_range : mg "range" = none
 m_len : mg "len" = none
 m_isinstance : mg "isinstance" = none
 m_max : mg "max" = none
 m_int : mg "int" = none
 m_list : mg "list" = none
 m_tuple : mg "tuple" = none
 m_sorted : mg "sorted" = none
 m_enumerate : mg "enumerate" = none
 m_sum : mg "sum" = none
 K_has : Df K mg "has" ztv a.f_has d.f_has ["some", "k"]
 K_with_option : Df K mg "with_option" zew a.f_with_option d.f_with_option ["some", "k"]
 K_open_options : Df K mg "open_options" zda a.f_open_options d.f_open_options ["many", "yes", "no"]
 K_many_ties : Df K mg "many_ties" zf6 a.f_many_ties d.f_many_ties ["wood"]
 K_tie_at : Df K mg "tie_at" zjr a.f_tie_at d.f_tie_at ["wood", "t"]
 K_count_in : Df K mg "count_in" zfe a.f_count_in d.f_count_in ["kids", "some"]
 K_every_tie : Df K mg "every_tie" zf3 a.f_every_tie d.f_every_tie ["wood"]
 K_sure_broken : Df K mg "sure_broken" ze2 a.f_sure_broken d.f_sure_broken ["tie", "yes", "no"]
 K_least_sum : Df K mg "least_sum" zet a.f_least_sum d.f_least_sum ["pairs", "yes", "no"]
 K_sure_broken_bough : Df K mg "sure_broken_bough" za4 a.f_sure_broken_bough d.f_sure_broken_bough ["bough", "yes", "no"]
 K_first_sure_broken : Df K mg "first_sure_broken" zcs a.f_first_sure_broken d.f_first_sure_broken ["wood", "ties", "yes", "no"]
 K_cases_of : Df K mg "cases_of" zck a.f_cases_of d.f_cases_of ["wood", "ties", "yes", "no"]
 K_ware_leaf : Df K mg "ware_leaf" zf8 a.f_ware_leaf d.f_ware_leaf ["wood", "yes", "no"]
 K_told_tree : Df K mg "told_tree" zdm a.f_told_tree d.f_told_tree ["wood", "ties", "yes", "no", "leaf_at"]
 K_first_ware : Df K mg "first_ware" zfi a.f_first_ware d.f_first_ware ["wood", "yes", "no"]
 K_first_keeping : Df K mg "first_keeping" zb7 a.f_first_keeping d.f_first_keeping ["wood", "ties", "yes", "no"]
 K_bars : Df K mg "bars" zpf a.f_bars d.f_bars ["wood", "ties", "yes", "no"]
 K_least_ties : Df K mg "least_ties" zfl a.f_least_ties d.f_least_ties ["wood", "yes", "no"]
 K_tie_others : Df K mg "tie_others" zd9 a.f_tie_others d.f_tie_others ["wood", "ties", "yes", "no"]
 K_left_without : Df K mg "left_without" zch a.f_left_without d.f_left_without ["things", "one"]
 K_stand_of : Df K mg "stand_of" zgu a.f_stand_of d.f_stand_of ["picks"]
 K_open_at : Df K mg "open_at" zig a.f_open_at d.f_open_at ["wood", "picks"]
 K_first_ware_at : Df K mg "first_ware_at" zdz a.f_first_ware_at d.f_first_ware_at ["wood", "picks"]
 K_leads_on : Df K mg "leads_on" zg3 a.f_leads_on d.f_leads_on ["wood", "picks", "pick"]
 K_why_barred : Df K mg "why_barred" zfj a.f_why_barred d.f_why_barred ["wood", "picks", "asked"]
 K_least_picks : Df K mg "least_picks" zey a.f_least_picks d.f_least_picks ["wood", "ties", "picks", "asked"]
 K_pick_others : Df K mg "pick_others" ze0 a.f_pick_others d.f_pick_others ["wood", "ties", "picks", "asked"]
 K_law_take : Df K mg "_law_take" zeg a.f_law_take d.f_law_take ["_law_state", "_law_most"]
 K_law_boughs : Df K mg "_law_boughs" zcm a.f_law_boughs d.f_law_boughs ["_law_state", "_law_many"]
 K_law_cross : Df K mg "_law_cross" zbv a.f_law_cross d.f_law_cross ["_law_state", "_law_many", "_law_most"]
 K_law_wood : Df K mg "_law_wood" zem a.f_law_wood d.f_law_wood ["_law_state", "_law_most"]
 K_law_keeps : Df K mg "_law_keeps" zdt a.f_law_keeps d.f_law_keeps ["_law_tie", "_law_some"]
 K_law_broken : Df K mg "_law_broken" zd6 a.f_law_broken d.f_law_broken ["_law_wood_here"]
 K_law_stand : Df K mg "_law_stand" zfx a.f_law_stand d.f_law_stand ["_law_chosen"]
 K_law_sets : Df K mg "_law_sets" zgt a.f_law_sets d.f_law_sets ["_law_broken_here", "_law_ties", "_law_chosen"]
 K_law_tree : Df K mg "_law_tree" zdg a.f_law_tree d.f_law_tree ["_law_broken_here", "_law_ties", "_law_sets_here"]
 K_law_played : Df K mg "_law_played" zcp a.f_law_played d.f_law_played ["_law_state", "_law_choice", "_law_broken_here", "_law_many", "_law_begun"]
 K_law_left_ties : Df K mg "_law_left_ties" zd1 a.f_law_left_ties d.f_law_left_ties ["_law_broken_here", "_law_chosen", "_law_count"]
 K_law_due : Df K mg "_law_due" zc3 a.f_law_due d.f_law_due ["_law_broken_here", "_law_chosen", "_law_put", "_law_count"]
 K_law_right : Df K mg "_law_right" zdp a.f_law_right d.f_law_right ["_law_choice", "_law_broken_here", "_law_chosen", "_law_put", "_law_count"]
 K_law_all : Df K mg "_law_all" zdc a.f_law_all d.f_law_all ["_law_state", "_law_choice", "_law_broken_here", "_law_wood_here", "_law_chosen"]
 K_law : Df K mg "law" zon a.f_law d.f_law ["_law_script"]
 g_Choice___init__ : Mk K a.x_Choice a.f_Choice___init__
 K_Choice___init__ : Dm K "__init__" "Choice.__init__" zc9 a.f_Choice___init__ d.f_Choice___init__ ["self", "wood"]
 g_Choice_chosen : znp K a.x_Choice "chosen" a.f_Choice_chosen
 K_Choice_chosen : Dm K "chosen" "Choice.chosen" zdy a.f_Choice_chosen d.f_Choice_chosen ["self"]
 g_Choice_choose : znp K a.x_Choice "choose" a.f_Choice_choose
 K_Choice_choose : Dm K "choose" "Choice.choose" zd2 a.f_Choice_choose d.f_Choice_choose ["self", "k", "value"]
 g_Choice_take_back : znp K a.x_Choice "take_back" a.f_Choice_take_back
 K_Choice_take_back : Dm K "take_back" "Choice.take_back" zbp a.f_Choice_take_back d.f_Choice_take_back ["self", "k"]
 g_Choice_ware : znp K a.x_Choice "ware" a.f_Choice_ware
 K_Choice_ware : Dm K "ware" "Choice.ware" zev a.f_Choice_ware d.f_Choice_ware ["self"]
 g_Choice_why : znp K a.x_Choice "why" a.f_Choice_why
 K_Choice_why : Dm K "why" "Choice.why" zfd a.f_Choice_why d.f_Choice_why ["self", "k", "value"]
 code_cases_of : d.f_cases_of.code = .ref a.c_cases_of
 g_Choice : mg "Choice" = some (.ref a.x_Choice)
 C_Choice : Cls K a.x_Choice
 n_Choice_picks : NoAttr K a.x_Choice "picks"
 n_Choice_wood : NoAttr K a.x_Choice "wood"
theorem zww : zav ["some", "k"] ["some", "k"] (zai ztv) := scm rfl rfl rfl rfl (by decide +kernel)
theorem zki : zav ["some", "k"] ["some", "k"] (zai zew) := scm rfl rfl rfl rfl (by decide +kernel)
theorem zi0 : zav ["many", "yes", "no"] ["many", "yes", "no"] (zai zda) := scm rfl rfl rfl rfl (by decide +kernel)
theorem zmm : zav ["wood"] ["wood"] (zai zf6) := scm rfl rfl rfl rfl (by decide +kernel)
theorem sc_tie_at : zav ["wood", "t", "boughs"] ["wood", "t"] (zai zjr) := scm rfl rfl rfl rfl (by decide +kernel)
theorem znj : zav ["kids", "some"] ["kids", "some"] (zai zfe) := scm rfl rfl rfl rfl (by decide +kernel)
theorem zmq : zav ["wood"] ["wood"] (zai zf3) := scm rfl rfl rfl rfl (by decide +kernel)
theorem zke : zav ["tie", "yes", "no"] ["tie", "yes", "no"] (zai ze2) := scm rfl rfl rfl rfl (by decide +kernel)
theorem zm6 : zav ["pairs", "yes", "no"] ["pairs", "yes", "no"] (zai zet) := scm rfl rfl rfl rfl (by decide +kernel)
theorem sc_sure_broken_bough : zav ["bough", "yes", "no", "least", "greatest", "some_with_up", "some_without_up"] ["bough", "yes", "no"] (zai za4) := scm rfl rfl rfl rfl (by decide +kernel)
theorem sc_first_sure_broken : zav ["wood", "ties", "yes", "no", "t"] ["wood", "ties", "yes", "no"] (zai zcs) := scm rfl rfl rfl rfl (by decide +kernel)
theorem zno : zav ["wood", "ties", "yes", "no"] ["wood", "ties", "yes", "no"] (zai zck) := scm rfl rfl rfl rfl (by decide +kernel)
theorem znb : zav ["wood", "yes", "no"] ["wood", "yes", "no"] (zai zf8) := scm rfl rfl rfl rfl (by decide +kernel)
theorem sc_told_tree : zav ["wood", "ties", "yes", "no", "leaf_at", "broken", "leaf", "k", "one", "other"] ["wood", "ties", "yes", "no", "leaf_at"] (zai zdm) := scm rfl rfl rfl rfl (by decide +kernel)
theorem zk3 : zav ["wood", "yes", "no"] ["wood", "yes", "no"] (zai zfi) := scm rfl rfl rfl rfl (by decide +kernel)
theorem sc_first_keeping : zav ["wood", "ties", "yes", "no", "left", "k", "found"] ["wood", "ties", "yes", "no"] (zai zb7) := scm rfl rfl rfl rfl (by decide +kernel)
theorem zvd : zav ["wood", "ties", "yes", "no"] ["wood", "ties", "yes", "no"] (zai zpf) := scm rfl rfl rfl rfl (by decide +kernel)
theorem sc_least_ties : zav ["wood", "yes", "no", "left", "t", "fewer"] ["wood", "yes", "no"] (zai zfl) := scm rfl rfl rfl rfl (by decide +kernel)
theorem zk5 : zav ["wood", "ties", "yes", "no"] ["wood", "ties", "yes", "no"] (zai zd9) := scm rfl rfl rfl rfl (by decide +kernel)
theorem zfr : zav ["things", "one"] ["things", "one"] (zai zch) := scm rfl rfl rfl rfl (by decide +kernel)
theorem sc_stand_of : zav ["picks", "yes", "no", "k", "value"] ["picks"] (zai zgu) := scm rfl rfl rfl rfl (by decide +kernel)
theorem sc_open_at : zav ["wood", "picks", "stand"] ["wood", "picks"] (zai zig) := scm rfl rfl rfl rfl (by decide +kernel)
theorem sc_first_ware_at : zav ["wood", "picks", "stand"] ["wood", "picks"] (zai zdz) := scm rfl rfl rfl rfl (by decide +kernel)
theorem zn1 : zav ["wood", "picks", "pick"] ["wood", "picks", "pick"] (zai zg3) := scm rfl rfl rfl rfl (by decide +kernel)
theorem sc_why_barred : zav ["wood", "picks", "asked", "stand", "ties", "left", "tree", "others"] ["wood", "picks", "asked"] (zai zfj) := scm rfl rfl rfl rfl (by decide +kernel)
theorem sc_least_picks : zav ["wood", "ties", "picks", "asked", "left", "pick", "fewer", "stand"] ["wood", "ties", "picks", "asked"] (zai zey) := scm rfl rfl rfl rfl (by decide +kernel)
theorem sc_pick_others : zav ["wood", "ties", "picks", "asked", "others", "pick", "stand"] ["wood", "ties", "picks", "asked"] (zai ze0) := scm rfl rfl rfl rfl (by decide +kernel)
theorem sc_law_take : zav ["_law_state", "_law_most", "_law_script", "_law_at", "_law_number"] ["_law_state", "_law_most"] (zai zeg) := scm rfl rfl rfl rfl (by decide +kernel)
theorem sc_law_boughs : zav ["_law_state", "_law_many", "_law_groups", "_law_k", "_law_up", "_law_old", "_law_boughs_here", "_law_kids", "_law_size", "_law_low", "_law_high"] ["_law_state", "_law_many"] (zai zcm) := scm rfl rfl rfl rfl (by decide +kernel)
theorem sc_law_cross : zav ["_law_state", "_law_many", "_law_most", "_law_cross_here", "_law_turn", "_law_one", "_law_other", "_law_way", "_law_far", "_law_pairs", "_law_total", "_law_top"] ["_law_state", "_law_many", "_law_most"] (zai zbv) := scm rfl rfl rfl rfl (by decide +kernel)
theorem sc_law_wood : zav ["_law_state", "_law_most", "_law_many"] ["_law_state", "_law_most"] (zai zem) := scm rfl rfl rfl rfl (by decide +kernel)
theorem sc_law_keeps : zav ["_law_tie", "_law_some", "_law_up", "_law_low", "_law_high", "_law_kids", "_law_count"] ["_law_tie", "_law_some"] (zai zdt) := scm rfl rfl rfl rfl (by decide +kernel)
theorem sc_law_broken : zav ["_law_wood_here", "_law_found", "_law_t", "_law_tie", "_law_some"] ["_law_wood_here"] (zai zd6) := scm rfl rfl rfl rfl (by decide +kernel)
theorem sc_law_stand : zav ["_law_chosen", "_law_yes", "_law_no", "_law_k", "_law_value"] ["_law_chosen"] (zai zfx) := scm rfl rfl rfl rfl (by decide +kernel)
theorem sc_law_sets : zav ["_law_broken_here", "_law_ties", "_law_chosen", "_law_yes", "_law_no", "_law_found", "_law_some"] ["_law_broken_here", "_law_ties", "_law_chosen"] (zai zgt) := scm rfl rfl rfl rfl (by decide +kernel)
theorem sc_law_tree : zav ["_law_broken_here", "_law_ties", "_law_sets_here", "_law_sure", "_law_some", "_law_k", "_law_one", "_law_other"] ["_law_broken_here", "_law_ties", "_law_sets_here"] (zai zdg) := scm rfl rfl rfl rfl (by decide +kernel)
theorem sc_law_played : zav ["_law_state", "_law_choice", "_law_broken_here", "_law_many", "_law_begun", "_law_chosen", "_law_turn", "_law_k", "_law_value", "_law_left"] ["_law_state", "_law_choice", "_law_broken_here", "_law_many", "_law_begun"] (zai zcp) := scm rfl rfl rfl rfl (by decide +kernel)
theorem sc_law_left_ties : zav ["_law_broken_here", "_law_chosen", "_law_count", "_law_ties", "_law_t"] ["_law_broken_here", "_law_chosen", "_law_count"] (zai zd1) := scm rfl rfl rfl rfl (by decide +kernel)
theorem sc_law_due : zav ["_law_broken_here", "_law_chosen", "_law_put", "_law_count", "_law_ties", "_law_left", "_law_one", "_law_fewer", "_law_tree_here", "_law_others", "_law_numbers", "_law_t", "_law_turned"] ["_law_broken_here", "_law_chosen", "_law_put", "_law_count"] (zai zc3) := scm rfl rfl rfl rfl (by decide +kernel)
theorem sc_law_right : zav ["_law_choice", "_law_broken_here", "_law_chosen", "_law_put", "_law_count", "_law_due_here", "_law_turn", "_law_got", "_law_part"] ["_law_choice", "_law_broken_here", "_law_chosen", "_law_put", "_law_count"] (zai zdp) := scm rfl rfl rfl rfl (by decide +kernel)
theorem sc_law_all : zav ["_law_state", "_law_choice", "_law_broken_here", "_law_wood_here", "_law_chosen", "_law_puts", "_law_k", "_law_put"] ["_law_state", "_law_choice", "_law_broken_here", "_law_wood_here", "_law_chosen"] (zai zdc) := scm rfl rfl rfl rfl (by decide +kernel)
theorem sc_law : zav ["_law_script", "_law_state", "_law_wood_here", "_law_broken_here", "_law_choice", "_law_chosen", "_law_turn"] ["_law_script"] (zai zon) := scm rfl rfl rfl rfl (by decide +kernel)
theorem zgw : zav ["self", "wood"] ["self", "wood"] (zai zc9) := scm rfl rfl rfl rfl (by decide +kernel)
theorem zih : zav ["self"] ["self"] (zai zdy) := scm rfl rfl rfl rfl (by decide +kernel)
theorem zia : zav ["self", "k", "value"] ["self", "k", "value"] (zai zd2) := scm rfl rfl rfl rfl (by decide +kernel)
theorem zgl : zav ["self", "k"] ["self", "k"] (zai zbp) := scm rfl rfl rfl rfl (by decide +kernel)
theorem zkq : zav ["self"] ["self"] (zai zev) := scm rfl rfl rfl rfl (by decide +kernel)
theorem zk8 : zav ["self", "k", "value"] ["self", "k", "value"] (zai zfd) := scm rfl rfl rfl rfl (by decide +kernel)
end Ow
namespace Ow
open PySem L2 Wd
section
variable {P : Program} {w : World} {K : PySem.W.Frag} {mg : Str → Option Value} {base : Heap} {a : Adr} {d : Fds}
def zya : Sp := fun vs H Q _ => ∃ n k : Int, vs = [.int n, .int k] ∧ Q (.bl (zn7 n k)) H
theorem zif (T : Txt K mg a d) : FnOk P w K mg base CX0 1 a.f_has d.f_has ["some", "k"] zya := by
 refine T.K_has.ok zww (fun vs H Q E h => ?_) (fun cdv A outer s H vs Q E hr h => ?_)
 ·obtain ⟨n, k, rfl, _⟩ := h
  rfl
 obtain ⟨n, k, rfl, q⟩ := h
 refine ⟨_, (zah (zau (zg1 (zbw zxn (pv 1) zaf (zat _)) (zh9 (zbw zbx (zap zcu (zap zdw (pv 0) (pv 1)) zaf) zaf (zat _)))))), ?_⟩
 refine ⟨_, rfl, _, _, rfl, rfl, _, rfl, ?_⟩
 refine zcv (fun c => ?_) (fun c => ?_)
 ·have hk : (0 : Int) ≤ k := of_decide_eq_true c
  refine ⟨_, rfl, _, rfl, _, _, rfl, rfl, hk, _, _, rfl, rfl, rfl, ?_⟩
  have e : decide (V.int (Builtin.bitAnd (n / 2 ^ k.toNat) 1) = V.int 1) = zn7 n k := by
   unfold zn7
   rw [decide_eq_true hk, Bool.true_and, zi8, zx0]
   by_cases z : n / 2 ^ k.toNat % 2 = 1
   ·rw [decide_eq_true z]
    simpa using z
   ·rw [decide_eq_false z]
    simpa using z
  show Q (.bl (decide (V.int (Builtin.bitAnd (n / 2 ^ k.toNat) 1) = V.int 1))) H
  rw [e]
  exact q
 ·have hk : ¬ (0 : Int) ≤ k := of_decide_eq_false (Bool.eq_false_iff.mpr c)
  have e : zn7 n k = false := by
   unfold zn7
   rw [decide_eq_false hk, Bool.false_and]
  rw [e] at q
  exact q
end
section
variable {P : Program} {w : World} {K : PySem.W.Frag} {mg : Str → Option Value} {base : Heap} {a : Adr} {d : Fds}
theorem zc4 (T : Txt K mg a d) : FnOk P w K mg base CX0 1 a.f_with_option d.f_with_option ["some", "k"] zvf := by
 refine T.K_with_option.ok zki (fun vs H Q E h => ?_) (fun cdv A outer s H vs Q E hr h => ?_)
 ·obtain ⟨n, k, rfl, _⟩ := h
  rfl
 obtain ⟨n, k, rfl, hk, q⟩ := h
 refine ⟨_, (zah (zau (zap zoe (pv 0) (zap ze4 zaf (pv 1))))), ?_⟩
 refine ⟨_, rfl, _, rfl, _, _, rfl, rfl, ⟨by omega, by omega, by decide⟩, _, _, rfl, rfl, ?_⟩
 have e : Builtin.bitOr (n : Int) (1 * 2 ^ ((k : Nat) : Int).toNat) = ((n ||| 2 ^ k : Nat) : Int) := by rw [zhx, zhp]
 show Q (.int (Builtin.bitOr (n : Int) (1 * 2 ^ ((k : Nat) : Int).toNat))) H
 rw [e]
 exact q
end
section
variable {P : Program} {w : World} {K : PySem.W.Frag} {mg : Str → Option Value} {base : Heap} {a : Adr} {d : Fds}
theorem zcx (T : Txt K mg a d) : FnOk P w K mg base CX0 2 a.f_open_options d.f_open_options ["many", "yes", "no"] zwt := by
 have G_has := zif (P := P) (w := w) (base := base) T
 refine T.K_open_options.ok zi0 (fun vs H Q E h => ?_) (fun cdv A outer s H vs Q E hr h => ?_)
 ·obtain ⟨m, y, n, rfl, _⟩ := h
  rfl
 obtain ⟨m, y, n, rfl, m9, q⟩ := h
 have p62 : (2 : Int) ^ 62 = 4611686018427387904 := by decide
 refine ⟨_, (zah (zau (zef (sc0 := zai zda) (XN := ["many", "yes", "no"]) (N' := ["k", "yes", "no"]) (n := 1) (kp := [1, 2]) rfl (zbi rfl T.m_range (zaa (pv 0) zac)) rfl rfl (by decide +kernel) (fun _ _ _ _ _ => (zao (i := 0) (by show List.Nodup (["k", "yes", "no"] : List Str); decide +kernel) rfl (Or.inl rfl))) (fun _ _ _ _ _ => (zbu (zf1 (zcf (zag G_has hr.lv rfl T.K_has (zaa (zap zoe (pv 1) (pv 2)) (zaa (pv 0) zac))))))) (fun _ _ _ _ _ => (pv 0))))), ?_⟩
 refine ⟨_, rfl, _, rfl, by rw [p62]; omega, by rw [p62]; omega, ?_⟩
 rw [Int.toNat_natCast]
 refine zeb (k := m) (fun i ys σ H2 => (∃ v, σ = [v, some (.int y), some (.int n)]) ∧ H2 = H ∧ i ≤ m ∧ ys = zal ((List.range i).filter fun k => !(y ||| n).testBit k)) ⟨⟨none, rfl⟩, rfl, Nat.zero_le _, rfl⟩ (fun i ys σ H2 hi pv => ?_) (fun i ys σ H2 hi pv => ?_) (fun ys σ H2 pv fl hfl => ?_)
 ·obtain ⟨_, _, h1, rfl⟩ := pv
  rw [List.length_map]
  refine zam (Nat.le_trans (List.length_filter_le _ _) ?_)
  rw [List.length_range]
  omega
 ·obtain ⟨⟨v0, rfl⟩, rfl, h1, rfl⟩ := pv
  refine ⟨_, rfl, _, rfl, _, _, rfl, rfl, _, rfl, _, _, rfl, _, rfl, ?_⟩
  have ee := zhb (fun k => !(y ||| n).testBit k) i
  rw [zhp, zcl]
  refine zcv (fun c2 => ?_) (fun c2 => ?_)
  ·refine ⟨_, rfl, ⟨_, rfl⟩, rfl, hi, ?_⟩
   rw [ee, if_pos c2]
   show _ = List.map _ (_ ++ [i])
   rw [List.map_append]
   rfl
  ·refine ⟨⟨_, rfl⟩, rfl, hi, ?_⟩
   rw [ee, if_neg c2, List.append_nil]
 obtain ⟨_, rfl, _, rfl⟩ := pv
 exact q fl _ (zad hfl _) hfl zab
end
section
variable {P : Program} {w : World} {K : PySem.W.Frag} {mg : Str → Option Value} {base : Heap} {a : Adr} {d : Fds}
theorem zmv (T : Txt K mg a d) : FnOk P w K mg base CX0 1 a.f_many_ties d.f_many_ties ["wood"] zwn := by
 refine T.K_many_ties.ok zmm (fun vs H Q E h => ?_) (fun cdv A outer s H vs Q E hr h => ?_)
 ·obtain ⟨wd, many, xs, ys, rfl, _⟩ := h
  rfl
 obtain ⟨wd, many, xs, ys, rfl, ⟨tb, tc, hw, hb, hc⟩, q⟩ := h
 refine ⟨_, (zah (zau (zap zb6 (za3 (zep (K := K)) rfl T.m_len PySem.boot_len (zaa (zaw (ixT (K := K)) (pv 0) zaf (fun _ _ => rfl)) zac)) (za3 (zep (K := K)) rfl T.m_len PySem.boot_len (zaa (zaw (ixT (K := K)) (pv 0) zaf (fun _ _ => rfl)) zac))))), ?_⟩
 exact ⟨_, rfl, wd, _, _, _, rfl, rfl, sqT hw, at1, tb, _, rfl, .inr (sqT hb), _, rfl, wd, _, _, _, rfl, rfl, sqT hw, at2, tc, _, rfl, .inr (sqT hc), _, _, rfl, rfl, q⟩
end
section
variable {P : Program} {w : World} {K : PySem.W.Frag} {mg : Str → Option Value} {base : Heap} {a : Adr} {d : Fds}
theorem zry (T : Txt K mg a d) : FnOk P w K mg base CX0 1 a.f_tie_at d.f_tie_at ["wood", "t"] zu3 := by
 refine T.K_tie_at.ok sc_tie_at (fun vs H Q E h => ?_) (fun cdv A outer s H vs Q E hr h => ?_)
 ·obtain ⟨wd, many, xs, ys, t, v, rfl, _⟩ := h
  rfl
 obtain ⟨wd, many, xs, ys, t, v, rfl, ⟨tb, tc, hw, hb, hc⟩, hv, q⟩ := h
 refine ⟨_, (zae (zan (i := 2) sc_tie_at.nd rfl (Or.inl rfl) (zaw (ixT (K := K)) (pv 0) zaf (fun _ _ => rfl)))
   (zae (za8 (zar zjv (pv 1) (za3 (zep (K := K)) rfl T.m_len PySem.boot_len (zaa (pv 2) zac)) (zat _)) (zah (zau (zaw (ixT (K := K)) (pv 2) (pv 1) (fun _ _ => rfl)))) zaz)
   (zah (zau (zaw (ixT (K := K)) (zaw (ixT (K := K)) (pv 0) zaf (fun _ _ => rfl)) (zap zeo (pv 1) (za3 (zep (K := K)) rfl T.m_len PySem.boot_len (zaa (pv 2) zac))) (fun _ _ => rfl)))))), ?_⟩
 refine ⟨_, rfl, wd, _, _, _, rfl, rfl, sqT hw, at1, ?_⟩
 refine ⟨_, rfl, _, rfl, tb, _, rfl, .inr (sqT hb), _, _, rfl, rfl, _, rfl, ?_⟩
 refine zcv (fun c => ?_) (fun c => ?_)
 ·have c' : (t : Int) < (xs.length : Nat) := of_decide_eq_true c
  rw [List.getElem?_append_left (by omega)] at hv
  exact ⟨_, rfl, _, rfl, tb, _, _, _, rfl, rfl, sqT hb, zdj hv, q⟩
 ·have c' : ¬ (t : Int) < (xs.length : Nat) := of_decide_eq_false (Bool.eq_false_iff.mpr c)
  rw [List.getElem?_append_right (by omega)] at hv
  have e : ((t : Int) - ((xs.length : Nat) : Int)) = ((t - xs.length : Nat) : Int) := by omega
  refine ⟨_, rfl, wd, _, _, _, rfl, rfl, sqT hw, at2, _, rfl, _, rfl, tb, _, rfl, .inr (sqT hb), _, _, rfl, rfl, tc, _, _, _, rfl, rfl, sqT hc, ?_, q⟩
  show atI ys ((t : Int) - ((xs.length : Nat) : Int)) = some v
  rw [e]
  exact zdj hv
end
section
variable {P : Program} {w : World} {K : PySem.W.Frag} {mg : Str → Option Value} {base : Heap} {a : Adr} {d : Fds}
def zve : Sp := fun vs H Q _ => ∃ (p : Addr) (ks : List Nat) (n : Nat), vs = [.ref p, .int n] ∧ H p = some (.tup (ks.map fun k : Nat => V.int (k : Int))) ∧ ks.length ≤ 1000 ∧ ∀ H', Same H H' → Q (.int (cnt ks n : Nat)) H'
theorem zoh (T : Txt K mg a d) : FnOk P w K mg base CX0 2 a.f_count_in d.f_count_in ["kids", "some"] zve := by
 have G_has := zif (P := P) (w := w) (base := base) T
 refine T.K_count_in.ok znj (fun vs H Q E h => ?_) (fun cdv A outer s H vs Q E hr h => ?_)
 ·obtain ⟨p, ks, n, rfl, _⟩ := h
  rfl
 obtain ⟨p, ks, n, rfl, hp, hk, q⟩ := h
 refine ⟨_, (zah (zau (za3 (zep (K := K)) rfl T.m_len PySem.boot_len (zaa (zef (sc0 := zai zfe) (XN := ["kids", "some"]) (N' := ["k", "some"]) (n := 1) (kp := [1]) rfl (piT (K := K) (pv 0)) rfl rfl (by decide +kernel) (fun _ _ _ _ _ => (zao (i := 0) (by show List.Nodup (["k", "some"] : List Str); decide +kernel) rfl (Or.inl rfl))) (fun _ _ _ _ _ => (zbu (zcf (zag G_has hr.lv rfl T.K_has (zaa (pv 1) (zaa (pv 0) zac)))))) (fun _ _ _ _ _ => (pv 0))) zac)))), ?_⟩
 refine ⟨_, rfl, p, rfl, ⟨_, sqT hp⟩, ?_⟩
 refine zmx (K := K) (a := p) (xs := ks.map fun k : Nat => V.int (k : Int)) (fun i ys σ H2 => (∃ v, σ = [v, some (.int n)]) ∧ H2 = H ∧ i ≤ ks.length ∧ ys = ((ks.take i).filter fun k => n.testBit k).map fun k : Nat => V.int (k : Int)) ⟨⟨none, rfl⟩, rfl, Nat.zero_le _, rfl⟩ (fun i ys σ H2 hi pv => ?_) (fun i ys σ H2 hi pv => ?_) (fun i x ys σ H2 hx pv => ?_) (fun ys σ H2 pv l hl => ?_)
 ·obtain ⟨_, _, h1, rfl⟩ := pv
  rw [List.length_map]
  refine zam (Nat.le_trans (List.length_filter_le _ _) ?_)
  rw [List.length_take]
  omega
 ·rw [pv.2.1]
  exact sqT hp
 ·obtain ⟨⟨v, rfl⟩, rfl, h1, rfl⟩ := pv
  rw [List.getElem?_map] at hx
  obtain ⟨k, hk', rfl⟩ := Option.map_eq_some_iff.mp hx
  have hj : i < ks.length := (List.getElem?_eq_some_iff.mp hk').1
  have ee := PySem.take_succ_filter (fun k => n.testBit k) ks i k hk'
  refine ⟨_, rfl, _, rfl, _, _, rfl, _, rfl, ?_⟩
  rw [zcl]
  refine zcv (fun c => ?_) (fun c => ?_)
  ·refine ⟨_, rfl, ⟨_, rfl⟩, rfl, hj, ?_⟩
   rw [ee, if_pos c, List.map_append]
   rfl
  ·refine ⟨⟨_, rfl⟩, rfl, hj, ?_⟩
   rw [ee, if_neg c, List.append_nil]
 ·obtain ⟨_, rfl, _, rfl⟩ := pv
  have fin : ∀ L : List V, L.length = cnt ks n → ∀ H', Same H2 H' → Q (.int (L.length : Nat)) H' := fun L e H' sm => by
   rw [e]
   exact q H' sm
  exact ⟨l, _, rfl, .inl (SqL.of zab), fin _ (by simp [cnt]) _ (zad hl _)⟩
end
section
variable {P : Program} {w : World} {K : PySem.W.Frag} {mg : Str → Option Value} {base : Heap} {a : Adr} {d : Fds}
theorem zg8 (T : Txt K mg a d) : FnOk P w K mg base CX0 2 a.f_every_tie d.f_every_tie ["wood"] zvi := by
 have G_many_ties := zmv (P := P) (w := w) (base := base) T
 refine T.K_every_tie.ok zmq (fun vs H Q E h => ?_) (fun cdv A outer s H vs Q E hr h => ?_)
 ·obtain ⟨wd, m, ts, rfl, _⟩ := h
  rfl
 obtain ⟨wd, m, ts, rfl, W, q⟩ := h
 have p62 : (2 : Int) ^ 62 = 4611686018427387904 := by decide
 obtain ⟨xs, ys, WA, dn⟩ := W.ex
 have few := W.few
 have ln : ts.length = xs.length + ys.length := by
  have := dn.length
  rw [List.length_map, List.length_append] at this
  exact this
 refine ⟨_, (zah (zau (zb0 (zky rfl) rfl T.m_list PyProof.Rows.boot_list (zaa (zb0 zrj rfl T.m_range PyProof.Rows.boot_range (zaa (zag G_many_ties hr.lv rfl T.K_many_ties (zaa (pv 0) zac)) zac)) zac)))), ?_⟩
 refine ⟨_, rfl, wd, m, xs, ys, rfl, WA, _, rfl, fun rp hrp => ?_⟩
 refine ⟨rp, 0, _, rfl, zab, by rw [p62]; omega, by rw [p62]; omega, by rw [p62]; omega, by rw [p62]; omega, by omega, fun l hl => ?_⟩
 have e : ((List.range' 0 ((xs.length : Int) + (ys.length : Int) - 0).toNat).map fun i : Nat => V.int (0 + (i : Int))) = (List.range ts.length).map fun i : Nat => V.int (i : Int) := by
  have e1 : ((xs.length : Int) + (ys.length : Int) - 0).toNat = ts.length := by omega
  rw [e1, List.range_eq_range']
  simp
 rw [e]
 have s1 := (zad hrp (.rng 0 ((xs.length : Int) + (ys.length : Int)))).trans (zad hl (.lst ((List.range ts.length).map fun i : Nat => V.int (i : Int))))
 exact q l _ s1 ((zad hrp (.rng 0 ((xs.length : Int) + (ys.length : Int)))).free hl) zab
end
section
variable {P : Program} {w : World} {K : PySem.W.Frag} {mg : Str → Option Value} {base : Heap} {a : Adr} {d : Fds}
theorem zfw (T : Txt K mg a d) : FnOk P w K mg base CX0 3 a.f_sure_broken_bough d.f_sure_broken_bough ["bough", "yes", "no"] (zvz Tie.sb) := by
 have G_has := zif (P := P) (w := w) (base := base) T
 have G_count_in := zoh (P := P) (w := w) (base := base) T
 refine T.K_sure_broken_bough.ok sc_sure_broken_bough (fun vs H Q E h => ?_) (fun cdv A outer s H vs Q E hr h => ?_)
 ·obtain ⟨u, lo, hi, ks, m, y, n, v, rfl, _⟩ := h
  rfl
 obtain ⟨u, lo, hi, ks, m, y, n, v, rfl, hd, ok, hm, q⟩ := h
 obtain ⟨p, pk, rfl, hp, hpk⟩ := zjn hd
 have few := ok.few
 have rest4 : ∃ t, PSs (zd0 CX0 P w K mg base ["bough", "yes", "no", "least", "greatest", "some_with_up", "some_without_up"] "sure_broken_bough" (zai za4) a.f_sure_broken_bough cdv A outer s H E).nox ((zba za4).drop 4) t ∧ ∀ (v3 v4 : Option V) (b5 b6 : Bool) (H1 : Hp), Same H H1 → (!b5 && !b6) = (Tie.bough u lo hi ks).sb y n → t { nx := fun _ H' => Q .non H', rt := Q } [some (.ref p), some (.int y), some (.int n), v3, v4, some (.bl b5), some (.bl b6)] H1 := by
  refine ⟨_, (zah (zau (zg1 (zhv (pv 5)) (zh9 (zhv (pv 6)))))), ?_⟩
  intro v3 v4 b5 b6 H1 s1 e
  have q1 := q H1 s1
  rw [← e] at q1
  refine ⟨_, rfl, _, rfl, _, rfl, ?_⟩
  refine zcv (fun c => ?_) (fun c => ?_)
  ·rw [c, Bool.true_and] at q1
   exact ⟨_, rfl, _, rfl, q1⟩
  ·rw [Bool.eq_false_iff.mpr c, Bool.false_and] at q1
   exact q1
 obtain ⟨t4, h4, r4⟩ := rest4
 have rest3 : ∃ t, PSs (zd0 CX0 P w K mg base ["bough", "yes", "no", "least", "greatest", "some_with_up", "some_without_up"] "sure_broken_bough" (zai za4) a.f_sure_broken_bough cdv A outer s H E).nox ((zba za4).drop 3) t ∧ ∀ (g : Int) (b5 : Bool) (H1 : Hp), Same H H1 → g = (ks.length : Int) - cnt ks n → b5 = (!n.testBit u && (decide ((cnt ks y : Int) ≤ hi) && decide (lo ≤ g))) → t { nx := fun _ H' => Q .non H', rt := Q } [some (.ref p), some (.int y), some (.int n), some (.int (cnt ks y : Nat)), some (.int g), some (.bl b5), none] H1 := by
  refine ⟨_, (zae (zan (i := 6) sc_sure_broken_bough.nd rfl (Or.inl rfl) (zg1 (zhv (zag G_has hr.lv rfl T.K_has (zaa (pv 1) (zaa (zaw (ixT (K := K)) (pv 0) zaf (fun _ _ => rfl)) zac)))) (zh9 (zbw zbx (pv 3) zaf (zat _)))))
   h4), ?_⟩
  intro g b5 H1 s1 eg e5
  have hp1 := s1 _ _ hp
  refine ⟨_, rfl, _, rfl, p, _, _, _, rfl, rfl, sqT hp1, at0, _, _, rfl, _, rfl, _, rfl, ?_⟩
  rw [zcl]
  refine zcv (fun c => ?_) (fun c => ?_)
  ·refine ⟨_, rfl, rfl, ?_⟩
   refine r4 _ _ _ _ _ s1 ?_
   rw [e5, eg, zhh]
   show _ = (!_ && !(!y.testBit u && decide (cnt ks y = 0)))
   rw [c, Bool.true_and]
  ·refine r4 _ _ _ _ _ s1 ?_
   rw [e5, eg]
   show _ = (!_ && !(!y.testBit u && decide (cnt ks y = 0)))
   rw [Bool.eq_false_iff.mpr c, Bool.false_and]
 obtain ⟨t3, h3, r3⟩ := rest3
 have rest2 : ∃ t, PSs (zd0 CX0 P w K mg base ["bough", "yes", "no", "least", "greatest", "some_with_up", "some_without_up"] "sure_broken_bough" (zai za4) a.f_sure_broken_bough cdv A outer s H E).nox ((zba za4).drop 2) t ∧ ∀ (g : Int) (H1 : Hp), Same H H1 → g = (ks.length : Int) - cnt ks n → t { nx := fun _ H' => Q .non H', rt := Q } [some (.ref p), some (.int y), some (.int n), some (.int (cnt ks y : Nat)), some (.int g), none, none] H1 := by
  refine ⟨_, (zae (zan (i := 5) sc_sure_broken_bough.nd rfl (Or.inl rfl) (zg1 (zhv (zag G_has hr.lv rfl T.K_has (zaa (pv 2) (zaa (zaw (ixT (K := K)) (pv 0) zaf (fun _ _ => rfl)) zac)))) (zg1 (zbw zlh (pv 3) (zaw (ixT (K := K)) (pv 0) zaf (fun _ _ => rfl)) (zat _)) (zh9 (zbw zlh (zaw (ixT (K := K)) (pv 0) zaf (fun _ _ => rfl)) (pv 4) (zat _))))))
   h3), ?_⟩
  intro g H1 s1 eg
  have hp1 := s1 _ _ hp
  refine ⟨_, rfl, _, rfl, p, _, _, _, rfl, rfl, sqT hp1, at0, _, _, rfl, _, rfl, _, rfl, ?_⟩
  rw [zcl]
  refine zcv (fun c => ?_) (fun c => ?_)
  ·refine ⟨_, rfl, _, rfl, p, _, _, _, rfl, rfl, sqT hp1, at2, _, _, rfl, rfl, _, rfl, ?_⟩
   refine zcv (fun c2 => ?_) (fun c2 => ?_)
   ·refine ⟨_, rfl, p, _, _, _, rfl, rfl, sqT hp1, at1, _, rfl, _, _, rfl, rfl, ?_⟩
    exact r3 _ _ _ s1 eg (by rw [c, Bool.true_and, c2, Bool.true_and])
   ·exact r3 _ _ _ s1 eg (by rw [c, Bool.true_and, Bool.eq_false_iff.mpr c2, Bool.false_and])
  ·exact r3 _ _ _ s1 eg (by rw [Bool.eq_false_iff.mpr c, Bool.false_and])
 obtain ⟨t2, h2, r2⟩ := rest2
 refine ⟨_, (zae (zan (i := 3) sc_sure_broken_bough.nd rfl (Or.inl rfl) (zag G_count_in hr.lv rfl T.K_count_in (zaa (zaw (ixT (K := K)) (pv 0) zaf (fun _ _ => rfl)) (zaa (pv 1) zac))))
   (zae (zan (i := 4) sc_sure_broken_bough.nd rfl (Or.inl rfl) (zap zeo (za3 (zep (K := K)) rfl T.m_len PySem.boot_len (zaa (zaw (ixT (K := K)) (pv 0) zaf (fun _ _ => rfl)) zac)) (zag G_count_in hr.lv rfl T.K_count_in (zaa (zaw (ixT (K := K)) (pv 0) zaf (fun _ _ => rfl)) (zaa (pv 2) zac)))))
   h2)), ?_⟩
 refine ⟨_, rfl, p, _, _, _, rfl, rfl, sqT hp, at3, _, rfl, pk, ks, y, rfl, hpk, by omega, fun H1 s1 => ?_⟩
 have hp1 := s1 _ _ hp
 have hpk1 := s1 _ _ hpk
 refine ⟨_, rfl, p, _, _, _, rfl, rfl, sqT hp1, at3, pk, _, rfl, .inr (sqT hpk1), ?_⟩
 refine ⟨_, rfl, p, _, _, _, rfl, rfl, sqT hp1, at3, _, rfl, pk, ks, n, rfl, hpk1, by omega, fun H2 s2 => ?_⟩
 refine ⟨_, _, rfl, rfl, ?_⟩
 exact r2 _ _ (s1.trans s2) (by rw [List.length_map])
end
section
variable {P : Program} {w : World} {K : PySem.W.Frag} {mg : Str → Option Value} {base : Heap} {a : Adr} {d : Fds}
theorem zk7 (T : Txt K mg a d) : FnOk P w K mg base CX0 2 a.f_least_sum d.f_least_sum ["pairs", "yes", "no"] (zsq zej) := by
 have G_has := zif (P := P) (w := w) (base := base) T
 refine T.K_least_sum.ok zm6 (fun vs H Q E h => ?_) (fun cdv A outer s H vs Q E hr h => ?_)
 ·obtain ⟨pq, xs, ps, y, n, rfl, _⟩ := h
  rfl
 obtain ⟨pq, xs, ps, y, n, rfl, hq, hps, few, q⟩ := h
 have lx : xs.length = ps.length := by rw [← hps.length, List.length_map]
 refine ⟨_, (zah (zau (za3 (ze1 rfl) rfl T.m_sum PyProof.Rows.boot_sum (zaa (zef (sc0 := zai zet) (XN := ["pairs", "yes", "no"]) (N' := ["k", "number", "yes", "no"]) (n := 2) (kp := [1, 2]) rfl (zws (pv 0)) rfl rfl (by decide +kernel) (fun _ _ _ _ _ => (pgT (K := K) (n := 2) rfl (za6 (zao (i := 0) (by show List.Nodup (["k", "number", "yes", "no"] : List Str); decide +kernel) rfl (Or.inl rfl)) (za6 (zao (i := 1) (by show List.Nodup (["k", "number", "yes", "no"] : List Str); decide +kernel) rfl (Or.inl rfl)) zcy)))) (fun _ _ _ _ _ => (zbu (PW.pt (zsy (zcf (zag G_has hr.lv rfl T.K_has (zaa (pv 2) (zaa (pv 0) zac)))) (zo3 (PW.pt (zfu (zar zjv (pv 1) zaf (zat _)) (zfc (zf1 (zcf (zag G_has hr.lv rfl T.K_has (zaa (pv 3) (zaa (pv 0) zac))))))))))))) (fun _ _ _ _ _ => (pv 1))) zac)))), ?_⟩
 refine ⟨_, rfl, pq, rfl, ?_⟩
 refine zw7 (K := K) (a := pq) (xs := xs) hq (fun i ys σ H2 => (∃ v v', σ = [v, v', some (.int y), some (.int n)]) ∧ H2 = H ∧ i ≤ ps.length ∧ ys = (((ps.take i).filter fun p => y.testBit p.1 || (decide (p.2 < 0) && !n.testBit p.1)).map (·.2)).map V.int) ⟨⟨none, none, rfl⟩, rfl, Nat.zero_le _, rfl⟩ (fun i ys σ H2 hi pv => ?_) (fun i ys σ H2 hi pv => ?_) (fun i x ys σ H2 hx pv => ?_) (fun ys σ H2 pv l hl => ?_)
 ·obtain ⟨_, _, h1, rfl⟩ := pv
  rw [List.length_map, List.length_map]
  refine zam (Nat.le_trans (List.length_filter_le _ _) ?_)
  rw [List.length_take]
  omega
 ·rw [pv.2.1]
 ·obtain ⟨⟨v, v', rfl⟩, rfl, h1, rfl⟩ := pv
  obtain ⟨pr, r, hpr, rfl, hr'⟩ := zqw hps hx
  have hj : i < ps.length := (List.getElem?_eq_some_iff.mp hpr).1
  have ee := PySem.take_succ_filter (fun p : Nat × Int => y.testBit p.1 || (decide (p.2 < 0) && !n.testBit p.1)) ps i pr hpr
  have yes : (y.testBit pr.1 || (decide (pr.2 < 0) && !n.testBit pr.1)) = true → ((((ps.take i).filter fun p => y.testBit p.1 || (decide (p.2 < 0) && !n.testBit p.1)).map (·.2)).map V.int) ++ [V.int pr.2] = (((ps.take (i + 1)).filter fun p => y.testBit p.1 || (decide (p.2 < 0) && !n.testBit p.1)).map (·.2)).map V.int := fun c => by
   rw [ee, if_pos c, List.map_append, List.map_append]
   rfl
  have noo : (y.testBit pr.1 || (decide (pr.2 < 0) && !n.testBit pr.1)) = false → ((((ps.take i).filter fun p => y.testBit p.1 || (decide (p.2 < 0) && !n.testBit p.1)).map (·.2)).map V.int) = (((ps.take (i + 1)).filter fun p => y.testBit p.1 || (decide (p.2 < 0) && !n.testBit p.1)).map (·.2)).map V.int := fun c => by
   rw [ee, if_neg (by rw [c]; exact Bool.false_ne_true), List.append_nil]
  refine ⟨r, _, rfl, sqT hr', rfl, _, _, rfl, _, _, rfl, rfl, ?_⟩
  refine ⟨_, rfl, _, rfl, _, _, rfl, _, rfl, ?_⟩
  rw [zcl]
  refine zcv (fun c => ?_) (fun c => ?_)
  ·refine zl9 ?_
   exact ⟨_, rfl, ⟨_, _, rfl⟩, rfl, hj, yes (by rw [c, Bool.true_or])⟩
  ·have c' := Bool.eq_false_iff.mpr c
   refine ⟨_, rfl, _, _, rfl, rfl, _, rfl, ?_⟩
   refine zcv (fun c2 => ?_) (fun c2 => ?_)
   ·refine ⟨_, rfl, _, rfl, _, _, rfl, _, rfl, ?_⟩
    rw [zcl]
    refine zcv (fun c3 => ?_) (fun c3 => ?_)
    ·exact ⟨_, rfl, ⟨_, _, rfl⟩, rfl, hj, yes (by rw [c', Bool.false_or, c2, Bool.true_and, c3])⟩
    ·exact ⟨⟨_, _, rfl⟩, rfl, hj, noo (by rw [c', Bool.false_or, c2, Bool.true_and, Bool.eq_false_iff.mpr c3])⟩
   ·refine zek ?_
    exact ⟨⟨_, _, rfl⟩, rfl, hj, noo (by rw [c', Bool.false_or, Bool.eq_false_iff.mpr c2, Bool.false_and])⟩
 ·obtain ⟨_, rfl, _, rfl⟩ := pv
  refine ⟨l, _, rfl, SqL.of zab, ?_⟩
  have q1 := q _ (zad hl (.lst ((((ps.take xs.length).filter fun p => y.testBit p.1 || (decide (p.2 < 0) && !n.testBit p.1)).map (·.2)).map V.int)))
  have e : zej ps y n = (((ps.take xs.length).filter fun p => y.testBit p.1 || (decide (p.2 < 0) && !n.testBit p.1)).map (·.2)).sum := by
   rw [lx, List.take_length]
   rfl
  rw [e] at q1
  exact q1
theorem zmc (T : Txt K mg a d) : FnOk P w K mg base CX0 2 a.f_least_sum d.f_least_sum ["pairs", "yes", "no"] (zwc zej) := (zk7 T).imp fun _ _ _ _ => zq8
end
section
variable {P : Program} {w : World} {K : PySem.W.Frag} {mg : Str → Option Value} {base : Heap} {a : Adr} {d : Fds}
theorem zkh (T : Txt K mg a d) : FnOk P w K mg base CX0 4 a.f_sure_broken d.f_sure_broken ["tie", "yes", "no"] (zw0 Tie.sb) := by
 have G_has := zif (P := P) (w := w) (base := base) T
 have G_least_sum := zmc (P := P) (w := w) (base := base) T
 have G_sure_broken_bough := zfw (P := P) (w := w) (base := base) T
 refine T.K_sure_broken.ok zke (fun vs H Q E h => ?_) (fun cdv A outer s H vs Q E hr h => ?_)
 ·obtain ⟨t, m, y, n, v, rfl, _⟩ := h
  rfl
 obtain ⟨t, m, y, n, v, rfl, hd, ok, hm, q⟩ := h
 have q0 := q H (Same.refl H)
 refine ⟨_, (zae (za8 (zar zbx (zaw (ixT (K := K)) (pv 0) zaf (fun _ _ => rfl)) zc0 (zat _)) (zah (zau (zg1 (zag G_has hr.lv rfl T.K_has (zaa (pv 1) (zaa (zaw (ixT (K := K)) (pv 0) zaf (fun _ _ => rfl)) zac))) (zh9 (zag G_has hr.lv rfl T.K_has (zaa (pv 2) (zaa (zaw (ixT (K := K)) (pv 0) zaf (fun _ _ => rfl)) zac))))))) zaz)
   (zae (za8 (zar zbx (zaw (ixT (K := K)) (pv 0) zaf (fun _ _ => rfl)) zc0 (zat _)) (zah (zau (zg1 (zag G_has hr.lv rfl T.K_has (zaa (pv 1) (zaa (zaw (ixT (K := K)) (pv 0) zaf (fun _ _ => rfl)) zac))) (zh9 (zag G_has hr.lv rfl T.K_has (zaa (pv 1) (zaa (zaw (ixT (K := K)) (pv 0) zaf (fun _ _ => rfl)) zac))))))) zaz)
   (zae (za8 (zar zbx (zaw (ixT (K := K)) (pv 0) zaf (fun _ _ => rfl)) zc0 (zat _)) (zah (zau (zbw zhc (zag G_least_sum hr.lv rfl T.K_least_sum (zaa (zaw (ixT (K := K)) (pv 0) zaf (fun _ _ => rfl)) (zaa (pv 1) (zaa (pv 2) zac)))) (zaw (ixT (K := K)) (pv 0) zaf (fun _ _ => rfl)) (zat _)))) zaz)
   (zah (zau (zag G_sure_broken_bough hr.lv rfl T.K_sure_broken_bough (zaa (pv 0) (zaa (pv 1) (zaa (pv 2) zac))))))))), ?_⟩
 cases t with
 | needs x z =>
  obtain ⟨p, rfl, hp⟩ := zja hd
  refine ⟨_, rfl, p, _, _, _, rfl, rfl, sqT hp, at0, rfl, _, rfl, ?_⟩
  refine zfa rfl ?_
  refine ⟨_, rfl, _, rfl, p, _, _, _, rfl, rfl, sqT hp, at1, _, _, rfl, _, rfl, ?_⟩
  rw [zcl]
  have q1 : Q (.bl (y.testBit x && n.testBit z)) H := q0
  refine zcv (fun c => ?_) (fun c => ?_)
  ·rw [c, Bool.true_and] at q1
   refine ⟨_, rfl, _, rfl, p, _, _, _, rfl, rfl, sqT hp, at2, _, _, rfl, ?_⟩
   rw [zcl]
   exact q1
  ·rw [Bool.eq_false_iff.mpr c, Bool.false_and] at q1
   exact q1
 | bans x z =>
  obtain ⟨p, rfl, hp⟩ := zja hd
  refine ⟨_, rfl, p, _, _, _, rfl, rfl, sqT hp, at0, rfl, _, rfl, ?_⟩
  refine zb1 zkn ?_
  refine ⟨_, rfl, p, _, _, _, rfl, rfl, sqT hp, at0, rfl, _, rfl, ?_⟩
  refine zfa rfl ?_
  refine ⟨_, rfl, _, rfl, p, _, _, _, rfl, rfl, sqT hp, at1, _, _, rfl, _, rfl, ?_⟩
  rw [zcl]
  have q1 : Q (.bl (y.testBit x && y.testBit z)) H := q0
  refine zcv (fun c => ?_) (fun c => ?_)
  ·rw [c, Bool.true_and] at q1
   refine ⟨_, rfl, _, rfl, p, _, _, _, rfl, rfl, sqT hp, at2, _, _, rfl, ?_⟩
   rw [zcl]
   exact q1
  ·rw [Bool.eq_false_iff.mpr c, Bool.false_and] at q1
   exact q1
 | most top ps =>
  obtain ⟨p, pq, xs, rfl, hp, hq, hps⟩ := zql hd
  have few : ps.length ≤ m := ok.2.2.2
  refine ⟨_, rfl, p, _, _, _, rfl, rfl, sqT hp, at0, rfl, _, rfl, ?_⟩
  refine zb1 zj3 ?_
  refine ⟨_, rfl, p, _, _, _, rfl, rfl, sqT hp, at0, rfl, _, rfl, ?_⟩
  refine zb1 zl1 ?_
  refine ⟨_, rfl, p, _, _, _, rfl, rfl, sqT hp, at0, rfl, _, rfl, ?_⟩
  refine zfa rfl ?_
  refine ⟨_, rfl, p, _, _, _, rfl, rfl, sqT hp, at2, _, rfl, _, rfl, pq, xs, ps, y, n, rfl, hq, hps, by omega, fun H1 s1 => ?_⟩
  exact ⟨_, rfl, p, _, _, _, rfl, rfl, sqT (s1 _ _ hp), at1, _, _, rfl, rfl, q H1 s1⟩
 | bough u lo hi ks =>
  obtain ⟨p, pk, e, hp, hpk⟩ := zjn hd
  subst e
  refine ⟨_, rfl, p, _, _, _, rfl, rfl, sqT hp, at0, rfl, _, rfl, ?_⟩
  refine zb1 int_str ?_
  refine ⟨_, rfl, p, _, _, _, rfl, rfl, sqT hp, at0, rfl, _, rfl, ?_⟩
  refine zb1 int_str ?_
  refine ⟨_, rfl, p, _, _, _, rfl, rfl, sqT hp, at0, rfl, _, rfl, ?_⟩
  refine zb1 int_str ?_
  exact ⟨_, rfl, _, rfl, _, rfl, u, lo, hi, ks, m, y, n, _, rfl, hd, ok, hm, q⟩
end
section
variable {P : Program} {w : World} {K : PySem.W.Frag} {mg : Str → Option Value} {base : Heap} {a : Adr} {d : Fds}
theorem zdo (T : Txt K mg a d) : FnOk P w K mg base CX0 5 a.f_first_sure_broken d.f_first_sure_broken ["wood", "ties", "yes", "no"] zra := by
 have G_tie_at := zry (P := P) (w := w) (base := base) T
 have G_sure_broken := zkh (P := P) (w := w) (base := base) T
 refine T.K_first_sure_broken.ok sc_first_sure_broken (fun vs H Q E h => ?_) (fun cdv A outer s H vs Q E hr h => ?_)
 ·obtain ⟨wd, m, ts, tl, il, y, n, rfl, _⟩ := h
  rfl
 obtain ⟨wd, m, ts, tl, il, y, n, rfl, W, htl, ilt, q⟩ := h
 have m9 := W.m9
 refine ⟨_, (zae (zbo PassesOwn.never rfl (piL (K := K) (pv 1)) (zao (i := 4) sc_first_sure_broken.nd rfl (Or.inl rfl)) (zah (za8 (zcf (zag G_sure_broken hr.lv rfl T.K_sure_broken (zaa (zag G_tie_at hr.lv rfl T.K_tie_at (zaa (pv 0) (zaa (pv 4) zac))) (zaa (pv 2) (zaa (pv 3) zac))))) (zah (zau (pv 4))) zaz)))
   (zah (zau zc1))), ?_⟩
 refine ⟨_, rfl, tl, rfl, ⟨_, SqL.of htl⟩, ?_⟩
 refine zbz (K := K) (a := tl) (xs := zal il) (fun i σ H2 => (∃ v, σ = [some (.ref wd), some (.ref tl), some (.int y), some (.int n), v]) ∧ Same H H2 ∧ (il.take i).find? (fun i => zfs ts i y n) = none) ⟨⟨_, rfl⟩, Same.refl _, rfl⟩ (fun i σ H2 _ z => SqL.of (z.2.1 _ _ htl)) ?_ ?_
 ·rintro i x σ H2 hx ⟨⟨v, rfl⟩, s2, hb⟩
  rw [List.getElem?_map] at hx
  obtain ⟨t, ht, rfl⟩ := Option.map_eq_some_iff.mp hx
  have htl' := ilt t (List.mem_of_getElem? ht)
  have W2 := W.same s2
  obtain ⟨xs, ys, WA, dn⟩ := W2.ex
  have hts : ts[t]? = some ts[t] := List.getElem?_eq_getElem htl'
  obtain ⟨v2, hv2, hd⟩ := DnL.get' dn (i := t) (d := ts[t].toD) (by rw [List.getElem?_map, hts]; rfl)
  have esb : zfs ts t y n = ts[t].sb y n := by unfold zfs; rw [hts]
  refine ⟨_, rfl, _, rfl, wd, m, xs, ys, t, v2, rfl, WA, hv2, ?_⟩
  refine ⟨_, rfl, _, rfl, ts[t], m, y, n, v2, rfl, hd, W.ok _ (List.getElem_mem htl'), by omega, fun H3 s3 => ?_⟩
  refine ⟨_, rfl, ?_⟩
  refine zcv (fun c => ?_) (fun c => ?_)
  ·have q1 := q H3 (s2.trans s3)
   have e : za5 ts il y n = some t := by
    unfold za5
    have el : il = il.take i ++ t :: il.drop (i + 1) := by
     obtain ⟨hi, e⟩ := List.getElem?_eq_some_iff.mp ht
     rw [← e, List.getElem_cons_drop, List.take_append_drop]
    rw [el, List.find?_append, hb]
    simp [esb, c]
   rw [e] at q1
   exact ⟨_, rfl, q1⟩
  ·refine ⟨⟨_, rfl⟩, s2.trans s3, ?_⟩
   rw [List.take_add_one, ht, Option.toList_some, List.find?_append, hb]
   simp [esb, c]
 ·rintro σ H2 ⟨⟨v, rfl⟩, s2, hb⟩
  have q1 := q H2 s2
  rw [List.length_map, List.take_length] at hb
  have e : za5 ts il y n = none := hb
  rw [e] at q1
  exact q1
end
section
variable {P : Program} {w : World} {K : PySem.W.Frag} {mg : Str → Option Value} {base : Heap} {a : Adr} {d : Fds}
theorem zl4 (T : Txt K mg a d) (f : Nat) {p : Addr} {C : Hp → Prop} {m : Nat} {leaf : Nat → Nat → Option PyData} {fdL : FuncData} {pl : List Str} {φ : Heap → Prop}
  (L_leaf_at : FnOk P w K mg base CX0 7 p fdL pl (zwq C leaf)) (LB_leaf_at : Binds K fdL pl []) (LP_leaf_at : ∀ h : Heap, φ h → ∃ o fd', h.get? p = some o ∧ o.data = .func fd') (hC : ∀ H H', Same H H' → C H → C H') (hCp : ∀ H, C H → H p = some (.ext φ))
  (G_told_tree : f ≠ 0 → FnOk P w K mg base CX0 (f + 7) a.f_told_tree d.f_told_tree ["wood", "ties", "yes", "no", "leaf_at"] (zm3 (f - 1) p C m leaf)) : FnOk P w K mg base CX0 (f + 8) a.f_told_tree d.f_told_tree ["wood", "ties", "yes", "no", "leaf_at"] (zm3 f p C m leaf) := by
 have G_first_sure_broken := zdo (P := P) (w := w) (base := base) T
 have G_open_options := zcx (P := P) (w := w) (base := base) T
 have G_with_option := zc4 (P := P) (w := w) (base := base) T
 refine T.K_told_tree.ok sc_told_tree (fun vs H Q E h => ?_) (fun cdv A outer s H vs Q E hr h => ?_)
 ·obtain ⟨wd, ts, tl, il, y, n, rfl, _⟩ := h
  rfl
 obtain ⟨wd, ts, tl, il, y, n, rfl, W, htl, ilt, hf, c0, ends, q⟩ := h
 have m9 := W.m9
 obtain ⟨R, r0, rs, re⟩ := ends
 have rest : ∃ t, PSs (zd0 CX0 P w K mg base ["wood", "ties", "yes", "no", "leaf_at", "broken", "leaf", "k", "one", "other"] "told_tree" (zai zdm) a.f_told_tree cdv A outer s H E).nox ((zba zdm).drop 5) t ∧ (∀ (k : Nat) (r : List Nat) (v5 v6 : Option V) (H1 : Hp), Same H H1 → zay m y n = k :: r → za5 ts il y n = none → leaf y n = none → t { nx := fun _ H' => Q .non H', rt := Q } [some (.ref wd), some (.ref tl), some (.int y), some (.int n), some (.ref p), v5, v6, some (.int (k : Int)), none, none] H1) := by
  by_cases hf0 : f = 0
  ·refine ⟨zmk, zl3, ?_⟩
   intro k r v5 v6 H1 s1 ho hb
   rw [ho, hf0] at hf
   simp at hf
  ·have G_told_tree := G_told_tree hf0
   refine ⟨_, (zae (zan (i := 8) sc_told_tree.nd rfl (Or.inl rfl) (zag G_told_tree hr.lv rfl T.K_told_tree (zaa (pv 0) (zaa (pv 1) (zaa (zag G_with_option hr.lv rfl T.K_with_option (zaa (pv 2) (zaa (pv 7) zac))) (zaa (pv 3) (zaa (pv 4) zac)))))))
   (zae (zan (i := 9) sc_told_tree.nd rfl (Or.inl rfl) (zag G_told_tree hr.lv rfl T.K_told_tree (zaa (pv 0) (zaa (pv 1) (zaa (pv 2) (zaa (zag G_with_option hr.lv rfl T.K_with_option (zaa (pv 3) (zaa (pv 7) zac))) (zaa (pv 4) zac)))))))
   (zah (zau (za9 (zaa zc0 (zaa (pv 7) (zaa (pv 8) (zaa (pv 9) zac))))))))), ?_⟩
   intro k r v5 v6 H1 s1 ho hb hlf
   have hk : k ∈ zay m y n := by rw [ho]; exact List.mem_cons_self
   have km := (mem_open.mp hk).1
   have l1 := zei hk
   have l2 := zen hk
   refine ⟨_, rfl, _, rfl, _, rfl, _, rfl, y, k, rfl, by omega, _, rfl, _, rfl, wd, ts, tl, il, y ||| 2 ^ k, n, rfl, W.same s1, s1 _ _ htl, ilt, by omega, hC _ _ s1 c0, ⟨R, (rs y n k r0 hk).1, rs, re⟩, fun v1 H2 s2 d1 => ?_⟩
   refine ⟨_, rfl, _, rfl, _, rfl, _, rfl, _, rfl, n, k, rfl, by omega, _, rfl, wd, ts, tl, il, y, n ||| 2 ^ k, rfl, W.same (s1.trans s2), (s1.trans s2) _ _ htl, ilt, by omega, hC _ _ (s1.trans s2) c0, ⟨R, (rs y n k r0 hk).2, rs, re⟩, fun v2 H3 s3 d2 => ?_⟩
   refine ⟨_, rfl, _, rfl, _, rfl, zam (by show 4 ≤ 1000; decide), fun tp htp => ?_⟩
   have s4 := zad htp (.tup [.str ("split" : Str), .int (k : Int), v1, v2])
   refine q _ _ (((s1.trans s2).trans s3).trans s4) ?_
   obtain ⟨f', rfl⟩ : ∃ f', f = f' + 1 := ⟨f - 1, by omega⟩
   rw [zix hb hlf ho]
   exact ⟨tp, _, rfl, zab, _, _, rfl, rfl, _, _, rfl, rfl, _, _, rfl, Dn.same (s3.trans s4) _ _ d1, _, _, rfl, Dn.same s4 _ _ d2, rfl⟩
 obtain ⟨t4, h4, r4⟩ := rest
 refine ⟨_, (zae (zan (i := 5) sc_told_tree.nd rfl (Or.inl rfl) (zag G_first_sure_broken hr.lv rfl T.K_first_sure_broken (zaa (pv 0) (zaa (pv 1) (zaa (pv 2) (zaa (pv 3) zac))))))
   (zae (za8 (zar zfk (pv 5) zc1 (zat _)) (zah (zau (za9 (zaa zc0 (zaa (pv 5) zac))))) zaz)
   (zae (zan (i := 6) sc_told_tree.nd rfl (Or.inl rfl) (zt7 (i := 4) L_leaf_at hr.lv rfl (.inl rfl) LB_leaf_at LP_leaf_at (zaa (pv 2) (zaa (pv 3) zac))))
   (zae (za8 (zar zfk (pv 6) zc1 (zat _)) (zah (zau (pv 6))) zaz)
   (zae (zan (i := 7) sc_told_tree.nd rfl (Or.inl rfl) (zaw (ixL (K := K)) (zag G_open_options hr.lv rfl T.K_open_options (zaa (zaw (ixT (K := K)) (pv 0) zaf (fun _ _ => rfl)) (zaa (pv 2) (zaa (pv 3) zac)))) zaf (fun _ _ => rfl)))
   h4))))), ?_⟩
 refine ⟨_, rfl, _, rfl, _, rfl, _, rfl, wd, m, ts, tl, il, y, n, rfl, W, htl, ilt, fun H1 s1 => ?_⟩
 obtain ⟨o, ho⟩ : ∃ o, za5 ts il y n = o := ⟨_, rfl⟩
 rw [ho]
 obtain ⟨xs, ys, ⟨tb, tc, hw, hb, hc⟩, dn⟩ := W.ex
 rcases o with _ | t
 ·refine ⟨_, rfl, rfl, _, rfl, ?_⟩
  refine zgp rfl ?_
  refine ⟨rfl, _, rfl, _, rfl, hCp _ (hC _ _ s1 c0), y, n, rfl, hC _ _ s1 c0, fun v H2 s2 lv => ?_⟩
  unfold zlc at lv
  cases hl : leaf y n with
  | some dd =>
   rw [hl] at lv
   obtain ⟨dv, pp, rfl⟩ := lv
   refine ⟨_, rfl, rfl, _, rfl, ?_⟩
   refine ziq (by intro z; cases z) ?_
   refine ⟨_, rfl, ?_⟩
   refine q _ _ (s1.trans s2) ?_
   rw [zjm ho hl]
   exact dv
  | none =>
   rw [hl] at lv
   subst lv
   refine ⟨_, rfl, rfl, _, rfl, ?_⟩
   refine zgp rfl ?_
   have s12 := s1.trans s2
   refine ⟨_, rfl, wd, _, _, _, rfl, rfl, sqT (s12 _ _ hw), at0, _, rfl, _, rfl, m, y, n, rfl, by omega, fun l H3 s3 nl hl3 => ?_⟩
   obtain ⟨ol, hol⟩ : ∃ ol, zay m y n = ol := ⟨_, rfl⟩
   rw [hol] at hl3
   rcases ol with _ | ⟨k, r⟩
   ·exact absurd hl (re y n r0 ho hol)
   ·refine ⟨l, _, _, _, rfl, rfl, SqL.of hl3, at0, ?_⟩
    exact r4 k r _ _ H3 (s12.trans s3) hol ho hl
 ·refine ⟨_, rfl, rfl, _, rfl, ?_⟩
  refine ziq (by intro z; cases z) ?_
  refine ⟨_, rfl, zam (by show 2 ≤ 1000; decide), fun tp htp => ?_⟩
  have s2 := zad htp (.tup [.str ("broken" : Str), .int (t : Int)])
  refine q _ _ (s1.trans s2) ?_
  rw [zhm ho]
  exact ⟨tp, _, rfl, zab, _, _, rfl, rfl, _, _, rfl, rfl, rfl⟩
theorem zhi (T : Txt K mg a d) {p : Addr} {C : Hp → Prop} {m : Nat} {leaf : Nat → Nat → Option PyData} {fdL : FuncData} {pl : List Str} {φ : Heap → Prop}
  (L : FnOk P w K mg base CX0 7 p fdL pl (zwq C leaf)) (LB : Binds K fdL pl []) (LP : ∀ h : Heap, φ h → ∃ o fd', h.get? p = some o ∧ o.data = .func fd') (hC : ∀ H H', Same H H' → C H → C H') (hCp : ∀ H, C H → H p = some (.ext φ)) :
  ∀ f : Nat, FnOk P w K mg base CX0 (f + 8) a.f_told_tree d.f_told_tree ["wood", "ties", "yes", "no", "leaf_at"] (zm3 f p C m leaf)
 | 0 => zl4 T 0 L LB LP hC hCp fun h => absurd rfl h
 | f + 1 => zl4 T (f + 1) L LB LP hC hCp fun _ => zhi T L LB LP hC hCp f
end
section
variable {P : Program} {w : World} {K : PySem.W.Frag} {mg : Str → Option Value} {base : Heap} {a : Adr} {d : Fds}
def zo9 : Sp := fun vs H Q _ => ∃ (wd : Addr) (m : Nat) (ts : List Tie) (y n : Nat), vs = [.ref wd, .int y, .int n] ∧ WoodT H wd m ts ∧ ∀ (v : V) (H' : Hp), Same H H' → zlc (zdk m) y n H' v → Q v H'
theorem zl6 (T : Txt K mg a d) : FnOk P w K mg base CX0 3 a.f_ware_leaf d.f_ware_leaf ["wood", "yes", "no"] zo9 := by
 have G_open_options := zcx (P := P) (w := w) (base := base) T
 refine T.K_ware_leaf.ok znb (fun vs H Q E h => ?_) (fun cdv A outer s H vs Q E hr h => ?_)
 ·obtain ⟨wd, m, ts, y, n, rfl, _⟩ := h
  rfl
 obtain ⟨wd, m, ts, y, n, rfl, W, q⟩ := h
 have m9 := W.m9
 refine ⟨_, (zae (za8 (zar zbx (za3 (zep (K := K)) rfl T.m_len PySem.boot_len (zaa (zag G_open_options hr.lv rfl T.K_open_options (zaa (zaw (ixT (K := K)) (pv 0) zaf (fun _ _ => rfl)) (zaa (pv 1) (zaa (pv 2) zac)))) zac)) zaf (zat _)) (zah (zau (za9 (zaa zc0 zac)))) zaz)
   (zah (zau zc1))), ?_⟩
 obtain ⟨xs, ys, ⟨tb, tc, hw, hb, hc⟩, dn⟩ := W.ex
 refine ⟨_, rfl, wd, _, _, _, rfl, rfl, sqT hw, at0, _, rfl, _, rfl, m, y, n, rfl, by omega, fun l H2 s2 nl hl => ?_⟩
 refine ⟨l, _, rfl, .inl (SqL.of hl), rfl, _, rfl, ?_⟩
 rw [zhh, List.length_map]
 obtain ⟨ol, hol⟩ : ∃ ol, zay m y n = ol := ⟨_, rfl⟩
 rw [hol]
 rcases ol with _ | ⟨k, r⟩
 ·refine zfa rfl ?_
  refine ⟨zam (by show 1 ≤ 1000; decide), fun tp htp => ?_⟩
  have s3 := zad htp (.tup [.str ("ware" : Str)])
  refine q _ _ (s2.trans s3) ?_
  unfold zlc zdk
  rw [if_pos hol]
  exact ⟨⟨tp, _, rfl, zab, _, _, rfl, rfl, rfl⟩, tp, rfl⟩
 ·refine zb1 (by simp) ?_
  refine q _ _ s2 ?_
  unfold zlc zdk
  rw [if_neg (by rw [hol]; simp)]
end
section
variable {P : Program} {w : World} {K : PySem.W.Frag} {mg : Str → Option Value} {base : Heap} {a : Adr} {d : Fds}
theorem zn5 (T : Txt K mg a d) (LB : zi4 mg base a.c_cases_of a.t_cases_of) (f : Nat) : FnOk P w K mg base CX0 (f + 9) a.f_cases_of d.f_cases_of ["wood", "ties", "yes", "no"] (spT a.t_cases_of (ztd f)) := by
 refine T.K_cases_of.okC zno (fun vs H Q E h => ?_) (fun cdv A outer s H vs Q E hcd hr h => ?_)
 ·obtain ⟨_, wd, m, ts, tl, il, y, n, rfl, _⟩ := h
  rfl
 obtain ⟨tb, wd, m, ts, tl, il, y, n, rfl, W, htl, ilt, hf, q⟩ := h
 have LC : ((zd0 CX0 P w K mg base ["wood", "ties", "yes", "no"] "cases_of" (zai zck) a.f_cases_of cdv A outer s H E).nox).env.code = .ref a.c_cases_of := hcd.symm.trans T.code_cases_of
 have LF : ∀ y ∈ (zos (zqg (zxs (zba zck)[0]?))).names, y.2 = .free → ∃ c, ((zd0 CX0 P w K mg base ["wood", "ties", "yes", "no"] "cases_of" (zai zck) a.f_cases_of cdv A outer s H E).nox).env.cells.lookup y.1 = some c := by
  intro y hy hz
  have e : y = (("wood" : Str), NameKind.free) := by
   have h := (by decide +kernel : ∀ y ∈ (zos (zqg (zxs (zba zck)[0]?))).names, y.2 = NameKind.free → y = (("wood" : Str), NameKind.free))
   exact h y hy hz
  subst e
  exact ⟨_, rfl⟩
 refine ⟨_, (zah (zau (zud (k := f + 8) hr.lv rfl T.K_told_tree.g T.K_told_tree.kp T.K_told_tree.B (fun _ => rfl) (zaa (pv 0) (zaa (pv 1) (zaa (pv 2) (zaa (pv 3) (zaa (zwj LC LB rfl LF) zac)))))))), ?_⟩
 refine ⟨_, rfl, _, rfl, _, rfl, _, rfl, tb, fun p c' H1 np s1 hp hc base' ci _ _ => ?_⟩
 obtain ⟨cw, u, e1, r1, ic⟩ := ci 0 "wood" (.ref wd) rfl rfl rfl
 have hcells : ((zd0 CX0 P w K mg base ["wood", "ties", "yes", "no"] "cases_of" (zai zck) a.f_cases_of cdv A outer s H E).nox).env.cells = [(("wood" : Str), cw)] := by
  have z : cw = s.heap.objs.size + 1 := (Option.some.inj (show some (s.heap.objs.size + 1) = some cw from e1)).symm
  rw [z]
  rfl
 have G_ware_leaf := zl6 (P := P) (w := w) (base := base') T
 have L := zwg (P := P) (w := w) (K := K) (mg := mg) (base := base') (ps := ["come", "gone"]) (fr := ["wood"]) (fv := [.ref wd]) (k := 6) (leaf := zdk m) (fun H => WoodT H wd m ts) hp ⟨rfl, rfl, rfl, by decide +kernel, by decide +kernel, by decide +kernel, by decide +kernel⟩
  (fun x cc h => by
   have h' := zb8 LF h
   rw [hcells] at h'
   obtain ⟨_, rfl⟩ := zgx h'
   exact ⟨_, ic⟩)
  (fun x y cc h1 h2 => by
   have h1' := zb8 LF h1
   have h2' := zb8 LF h2
   rw [hcells] at h1' h2'
   rw [(zgx h1').1, (zgx h2').1])
  (fun y hy hz => by
   obtain ⟨c, hc⟩ := LF y hy hz
   exact ⟨c, zi5 LF (by rw [← hz]; exact hy) hc⟩)
  (fun i x v h1 h2 => by
   cases i with
   | zero =>
    cases h1
    cases h2
    exact ⟨cw, u, zi5 LF (by decide +kernel) e1, r1, ic⟩
   | succ i => cases h1)
  rfl (fun _ _ _ => rfl) rfl
  (fun q A outer s H y n Q hr W0 q' => ⟨_, zqm G_ware_leaf (hr.mono (by decide)) rfl T.K_ware_leaf.g T.K_ware_leaf.kp T.K_ware_leaf.B .nil zhg (zaa (pv 2) (zaa (pv 0) (zaa (pv 1) zac))), ⟨_, rfl, _, rfl, _, rfl, wd, m, ts, y, n, rfl, W0, q'⟩⟩)
 have G := zhi (P := P) (w := w) (base := base') (m := m) T L (.all fun us hl => match us, hl with | [_, _], _ => rfl) zvy (fun H H' s h => ⟨h.1.same s, s _ _ h.2.1, s _ _ h.2.2⟩) (fun H h => h.2.1) f
 refine ⟨_, G, wd, ts, tl, il, y, n, rfl, W.same s1, s1 _ _ htl, ilt, hf, ⟨W.same s1, hp, hc⟩, EndsR.all (fun y n hb ho => by unfold zdk; rw [if_pos ho]; simp) _ _, fun v H' s2 dv => q v H' (s1.trans s2) ?_⟩
 rw [← zg0 f y n hf]
 exact dv
end
section
variable {P : Program} {w : World} {K : PySem.W.Frag} {mg : Str → Option Value} {base : Heap} {a : Adr} {d : Fds}
theorem zhu (T : Txt K mg a d) (f : Nat) (G_first_keeping : f ≠ 0 → FnOk P w K mg base CX0 (f + 6) a.f_first_keeping d.f_first_keeping ["wood", "ties", "yes", "no"] (zna (f - 1))) : FnOk P w K mg base CX0 (f + 7) a.f_first_keeping d.f_first_keeping ["wood", "ties", "yes", "no"] (zna f) := by
 have G_first_sure_broken := zdo (P := P) (w := w) (base := base) T
 have G_open_options := zcx (P := P) (w := w) (base := base) T
 have G_with_option := zc4 (P := P) (w := w) (base := base) T
 refine T.K_first_keeping.ok sc_first_keeping (fun vs H Q E h => ?_) (fun cdv A outer s H vs Q E hr h => ?_)
 ·obtain ⟨wd, m, ts, tl, il, y, n, rfl, _⟩ := h
  rfl
 obtain ⟨wd, m, ts, tl, il, y, n, rfl, W, htl, ilt, hf, q⟩ := h
 have m9 := W.m9
 have rest : ∃ t, PSs (zd0 CX0 P w K mg base ["wood", "ties", "yes", "no", "left", "k", "found"] "first_keeping" (zai zb7) a.f_first_keeping cdv A outer s H E).nox ((zba zb7).drop 4) t ∧ (∀ (k : Nat) (v4 : Option V) (H1 : Hp), Same H H1 → (zay m y n).getLast? = some k → za5 ts il y n = none → t { nx := fun _ H' => Q .non H', rt := Q } [some (.ref wd), some (.ref tl), some (.int y), some (.int n), v4, some (.int (k : Int)), none] H1) := by
  by_cases hf0 : f = 0
  ·refine ⟨zmk, zl3, ?_⟩
   intro k v4 H1 s1 ho hb
   rw [hf0] at hf
   rw [List.eq_nil_of_length_eq_zero (Nat.le_zero.mp hf)] at ho
   cases ho
  ·have G_first_keeping := G_first_keeping hf0
   refine ⟨_, (zae (zan (i := 6) sc_first_keeping.nd rfl (Or.inl rfl) (zag G_first_keeping hr.lv rfl T.K_first_keeping (zaa (pv 0) (zaa (pv 1) (zaa (pv 2) (zaa (zag G_with_option hr.lv rfl T.K_with_option (zaa (pv 3) (zaa (pv 5) zac))) zac))))))
   (zae (za8 (zar zfk (pv 6) zc1 (zat _)) (zah (zau (pv 6))) zaz)
   (zah (zau (zag G_first_keeping hr.lv rfl T.K_first_keeping (zaa (pv 0) (zaa (pv 1) (zaa (zag G_with_option hr.lv rfl T.K_with_option (zaa (pv 2) (zaa (pv 5) zac))) (zaa (pv 3) zac))))))))), ?_⟩
   intro k v4 H1 s1 ho hb
   have hk := (zlo ho).1
   have km := (mem_open.mp hk).1
   have l1 := zei hk
   have l2 := zen hk
   have e : zbc ts il m f y n = (match zbc ts il m (f - 1) y (n ||| 2 ^ k) with | some s => some s | none => zbc ts il m (f - 1) (y ||| 2 ^ k) n) := by
    obtain ⟨f', rfl⟩ : ∃ f', f = f' + 1 := ⟨f - 1, by omega⟩
    exact zop hb ho
   refine ⟨_, rfl, _, rfl, _, rfl, _, rfl, _, rfl, n, k, rfl, by omega, wd, m, ts, tl, il, y, n ||| 2 ^ k, rfl, W.same s1, s1 _ _ htl, ilt, by omega, fun H2 s2 => ?_⟩
   obtain ⟨o, ho2⟩ : ∃ o, zbc ts il m (f - 1) y (n ||| 2 ^ k) = o := ⟨_, rfl⟩
   rw [ho2]
   rcases o with _ | g
   ·refine ⟨_, rfl, rfl, _, rfl, ?_⟩
    refine zgp rfl ?_
    refine ⟨_, rfl, _, rfl, _, rfl, _, rfl, y, k, rfl, by omega, _, rfl, wd, m, ts, tl, il, y ||| 2 ^ k, n, rfl, W.same (s1.trans s2), (s1.trans s2) _ _ htl, ilt, by omega, fun H3 s3 => ?_⟩
    have q1 := q H3 ((s1.trans s2).trans s3)
    rw [e, ho2] at q1
    exact q1
   ·refine ⟨_, rfl, rfl, _, rfl, ?_⟩
    refine ziq (by intro z; cases z) ?_
    have q1 := q H2 (s1.trans s2)
    rw [e, ho2] at q1
    exact ⟨_, rfl, q1⟩
 obtain ⟨t4, h4, r4⟩ := rest
 refine ⟨_, (zae (za8 (zar zfk (zag G_first_sure_broken hr.lv rfl T.K_first_sure_broken (zaa (pv 0) (zaa (pv 1) (zaa (pv 2) (zaa (pv 3) zac))))) zc1 (zat _)) (zah (zau zc1)) zaz)
   (zae (zan (i := 4) sc_first_keeping.nd rfl (Or.inl rfl) (zag G_open_options hr.lv rfl T.K_open_options (zaa (zaw (ixT (K := K)) (pv 0) zaf (fun _ _ => rfl)) (zaa (pv 2) (zaa (pv 3) zac)))))
   (zae (za8 (zar zbx (za3 (zep (K := K)) rfl T.m_len PySem.boot_len (zaa (pv 4) zac)) zaf (zat _)) (zah (zau (pv 2))) zaz)
   (zae (zan (i := 5) sc_first_keeping.nd rfl (Or.inl rfl) (zaw (ixL (K := K)) (pv 4) (zlv zh8 zaf) (fun _ _ => rfl)))
   h4)))), ?_⟩
 refine ⟨_, rfl, _, rfl, _, rfl, _, rfl, wd, m, ts, tl, il, y, n, rfl, W, htl, ilt, fun H1 s1 => ?_⟩
 obtain ⟨o, ho⟩ : ∃ o, za5 ts il y n = o := ⟨_, rfl⟩
 rw [ho]
 obtain ⟨xs, ys, ⟨tb, tc, hw, hb, hc⟩, dn⟩ := W.ex
 rcases o with _ | t
 ·refine ⟨rfl, _, rfl, ?_⟩
  refine zgp rfl ?_
  refine ⟨_, rfl, wd, _, _, _, rfl, rfl, sqT (s1 _ _ hw), at0, _, rfl, _, rfl, m, y, n, rfl, by omega, fun l H2 s2 nl hl => ?_⟩
  refine ⟨_, rfl, l, _, rfl, .inl (SqL.of hl), rfl, _, rfl, ?_⟩
  rw [zhh, List.length_map]
  by_cases hn : zay m y n = []
  ·refine zfa (by rw [hn]; rfl) ?_
   have q1 := q H2 (s1.trans s2)
   have e : zbc ts il m f y n = some y := by
    exact zpa ho hn
   rw [e] at q1
   exact ⟨_, rfl, q1⟩
  ·refine zb1 (fun z => hn (List.eq_nil_of_length_eq_zero z)) ?_
   obtain ⟨k, hk⟩ : ∃ k, (zay m y n).getLast? = some k := by
    cases e : (zay m y n).getLast? with
    | none => exact absurd (List.getLast?_eq_none_iff.mp e) hn
    | some k => exact ⟨k, rfl⟩
   have hat : atI (zal (zay m y n)) (-1) = some (.int (k : Int)) := by
    obtain ⟨l', e⟩ := List.getLast?_eq_some_iff.mp hk
    rw [e]
    exact zvc l' k
   refine ⟨_, rfl, _, rfl, l, _, _, _, rfl, rfl, SqL.of hl, hat, ?_⟩
   exact r4 k _ H2 (s1.trans s2) hk ho
 ·refine ⟨rfl, _, rfl, ?_⟩
  refine ziq (by intro z; cases z) ?_
  have q1 := q H1 s1
  have e : zbc ts il m f y n = none := by
   exact znd ho
  rw [e] at q1
  exact q1
theorem zby (T : Txt K mg a d) : ∀ f : Nat, FnOk P w K mg base CX0 (f + 7) a.f_first_keeping d.f_first_keeping ["wood", "ties", "yes", "no"] (zna f)
 | 0 => zhu T 0 fun h => absurd rfl h
 | f + 1 => zhu T (f + 1) fun _ => zby T f
end
section
variable {P : Program} {w : World} {K : PySem.W.Frag} {mg : Str → Option Value} {base : Heap} {a : Adr} {d : Fds}
theorem zk0 (T : Txt K mg a d) : FnOk P w K mg base CX0 17 a.f_first_ware d.f_first_ware ["wood", "yes", "no"] zs4 := by
 have G_has := zif (P := P) (w := w) (base := base) T
 have G_with_option := zc4 (P := P) (w := w) (base := base) T
 have G_every_tie := zg8 (P := P) (w := w) (base := base) T
 have G_first_keeping := zby (P := P) (w := w) (base := base) T 9
 refine T.K_first_ware.ok zk3 (fun vs H Q E h => ?_) (fun cdv A outer s H vs Q E hr h => ?_)
 ·obtain ⟨wd, m, ts, y, n, rfl, _⟩ := h
  rfl
 obtain ⟨wd, m, ts, y, n, rfl, W, m9, m1, S, q⟩ := h
 refine ⟨_, (zae (za8 (zcf (zag G_has hr.lv rfl T.K_has (zaa (pv 2) (zaa zaf zac)))) (zah (zau zc1)) zaz)
   (zah (zau (zag G_first_keeping hr.lv rfl T.K_first_keeping (zaa (pv 0) (zaa (zag G_every_tie hr.lv rfl T.K_every_tie (zaa (pv 0) zac)) (zaa (zag G_with_option hr.lv rfl T.K_with_option (zaa (pv 1) (zaa zaf zac))) (zaa (pv 2) zac)))))))), ?_⟩
 refine ⟨_, rfl, _, _, rfl, _, rfl, ?_⟩
 have e0 : zn7 (n : Int) 0 = n.testBit 0 := zcl n 0
 rw [e0]
 refine zcv (fun c => ?_) (fun c => ?_)
 ·refine q H none (Same.refl H) fun s' sm hs => ?_
  unfold zbg
  rw [hs.2 0 c, Bool.false_and]
 ·have c' := Bool.eq_false_iff.mpr c
  have of := zcj m (y ||| 2 ^ 0) n
  have S' : Stand m (y ||| 2 ^ 0) n := ⟨zt9 S.dj c', zpk S.ym (by omega), S.nm⟩
  refine ⟨_, rfl, _, rfl, wd, m, ts, rfl, W, fun l H1 s1 nl hl => ?_⟩
  refine ⟨_, rfl, y, 0, rfl, by omega, _, rfl, wd, m, ts, l, zcd ts, y ||| 2 ^ 0, n, rfl, W.same s1, hl, fun i hi => List.mem_range.mp hi, by omega, fun H2 s2 => ?_⟩
  have F := zce (il := zcd ts) W.ok 9 (y ||| 2 ^ 0) n (by omega) S'
  have iff : ∀ s', InS (y ||| 2 ^ 0) n s' ∧ zbn ts (zcd ts) s' = true ↔ InS y n s' ∧ zbg ts s' = true := fun s' => by
   unfold zbg
   rw [zik, Bool.and_eq_true]
   constructor
   ·rintro ⟨a1, a2⟩
    exact ⟨⟨fun j hj => a1.1 j (by rw [zca, hj, Bool.true_or]), a1.2⟩, a1.1 0 (by rw [zca, decide_eq_true rfl, Bool.or_true]), a2⟩
   ·rintro ⟨a1, a2, a3⟩
    refine ⟨⟨fun j hj => ?_, a1.2⟩, a3⟩
    rw [zca, Bool.or_eq_true, decide_eq_true_eq] at hj
    rcases hj with z | rfl
    ·exact a1.1 j z
    ·exact a2
  generalize zbc ts (zcd ts) m 9 (y ||| 2 ^ 0) n = o at F ⊢
  refine q H2 o (s1.trans s2) ?_
  cases o with
  | none =>
   intro s' sm hs
   cases e : zbg ts s' with
   | false => rfl
   | true =>
    have := (iff s').mpr ⟨hs, e⟩
    rw [F s' sm this.1] at this
    cases this.2
  | some g =>
   obtain ⟨b1, b2, b3, b4⟩ := F
   obtain ⟨c1, c2⟩ := (iff g).mp ⟨b2, b3⟩
   refine ⟨b1, c1, c2, fun s' sm hs hw => ?_⟩
   have := (iff s').mpr ⟨hs, hw⟩
   exact b4 s' sm this.1 this.2
end
section
variable {P : Program} {w : World} {K : PySem.W.Frag} {mg : Str → Option Value} {base : Heap} {a : Adr} {d : Fds}
theorem zqq (T : Txt K mg a d) : FnOk P w K mg base CX0 17 a.f_bars d.f_bars ["wood", "ties", "yes", "no"] zw4 := by
 have G_first_keeping := zby (P := P) (w := w) (base := base) T 9
 refine T.K_bars.ok zvd (fun vs H Q E h => ?_) (fun cdv A outer s H vs Q E hr h => ?_)
 ·obtain ⟨wd, m, ts, tl, il, y, n, rfl, _⟩ := h
  rfl
 obtain ⟨wd, m, ts, tl, il, y, n, rfl, W, m9, htl, ilt, q⟩ := h
 have of := zcj m y n
 refine ⟨_, (zah (zau (zbw zt0 (zag G_first_keeping hr.lv rfl T.K_first_keeping (zaa (pv 0) (zaa (pv 1) (zaa (pv 2) (zaa (pv 3) zac))))) zc1 (zat _)))), ?_⟩
 refine ⟨_, rfl, _, rfl, _, rfl, _, rfl, wd, m, ts, tl, il, y, n, rfl, W, htl, ilt, by omega, fun H1 s1 => ?_⟩
 have q1 := q H1 s1
 unfold zcn at q1
 rw [← zub] at q1
 exact ⟨rfl, q1⟩
end
section
variable {P : Program} {w : World} {K : PySem.W.Frag} {mg : Str → Option Value} {base : Heap} {a : Adr} {d : Fds}
theorem zfp (T : Txt K mg a d) : FnOk P w K mg base CX0 1 a.f_left_without d.f_left_without ["things", "one"] zpp := by
 refine T.K_left_without.ok zfr (fun vs H Q E h => ?_) (fun cdv A outer s H vs Q E hr h => ?_)
 ·obtain ⟨l, il, t, rfl, _⟩ := h
  rfl
 obtain ⟨l, il, t, rfl, hl, few, q⟩ := h
 refine ⟨_, (zah (zau (zef (sc0 := zai zch) (XN := ["things", "one"]) (N' := ["other", "one"]) (n := 1) (kp := [1]) rfl (piL (K := K) (pv 0)) rfl rfl (by decide +kernel) (fun _ _ _ _ _ => (zao (i := 0) (by show List.Nodup (["other", "one"] : List Str); decide +kernel) rfl (Or.inl rfl))) (fun _ _ _ _ _ => (zbu (zar zqz (pv 0) (pv 1) (zat _)))) (fun _ _ _ _ _ => (pv 0))))), ?_⟩
 refine ⟨_, rfl, l, rfl, ⟨_, SqL.of hl⟩, ?_⟩
 refine zco (K := K) (a := l) (xs := zal il) (fun j ys σ H2 => (∃ v, σ = [v, some (.int (t : Int))]) ∧ H2 = H ∧ ys = zal ((il.take j).filter fun i => !decide (i = t))) ⟨⟨none, rfl⟩, rfl, rfl⟩ (fun j ys σ H2 hj pv => ?_) (fun j ys σ H2 hj pv => ?_) (fun j x ys σ H2 hx pv => ?_) (fun ys σ H2 pv p hp => ?_)
 ·obtain ⟨_, _, rfl⟩ := pv
  rw [List.length_map]
  refine zam (Nat.le_trans (List.length_filter_le _ _) ?_)
  rw [List.length_take]
  omega
 ·rw [pv.2.1]
  exact SqL.of hl
 ·obtain ⟨⟨v0, rfl⟩, rfl, rfl⟩ := pv
  rw [List.getElem?_map] at hx
  obtain ⟨i, hi, rfl⟩ := Option.map_eq_some_iff.mp hx
  have et : il.take (j + 1) = il.take j ++ [i] := by rw [List.take_add_one, hi, Option.toList_some]
  refine ⟨_, rfl, _, rfl, rfl, _, rfl, ?_⟩
  by_cases c : i = t
  ·refine zgp (by rw [c]) ?_
   refine ⟨⟨_, rfl⟩, rfl, ?_⟩
   rw [et, List.filter_append]
   simp [c]
  ·refine ziq (fun z => c (by injection z with z; omega)) ?_
   refine ⟨_, rfl, ⟨_, rfl⟩, rfl, ?_⟩
   rw [et, List.filter_append]
   simp [c]
 obtain ⟨_, rfl, rfl⟩ := pv
 rw [List.length_map, List.take_length]
 exact q p _ (zad hp _) hp zab
end
section
variable {P : Program} {w : World} {K : PySem.W.Frag} {mg : Str → Option Value} {base : Heap} {a : Adr} {d : Fds}
def zum : Sp := fun vs H Q _ => ∃ (wd : Addr) (m : Nat) (ts : List Tie) (y n : Nat), vs = [.ref wd, .int y, .int n] ∧ WoodT H wd m ts ∧ m ≤ 9 ∧ ∀ (lf : Addr) (H' : Hp), Same H H' → H lf = none → H' lf = some (.lst (zal (zbf ts m y n))) → Q (.ref lf) H'
theorem zk1 (T : Txt K mg a d) : FnOk P w K mg base CX0 18 a.f_least_ties d.f_least_ties ["wood", "yes", "no"] zum := by
 have G_every_tie := zg8 (P := P) (w := w) (base := base) T
 have G_bars := zqq (P := P) (w := w) (base := base) T
 have G_left_without := zfp (P := P) (w := w) (base := base) T
 refine T.K_least_ties.ok sc_least_ties (fun vs H Q E h => ?_) (fun cdv A outer s H vs Q E hr h => ?_)
 ·obtain ⟨wd, m, ts, y, n, rfl, _⟩ := h
  rfl
 obtain ⟨wd, m, ts, y, n, rfl, W, m9, q⟩ := h
 have few := W.few
 have of := zcj m y n
 have allt : ∀ i ∈ zcd ts, i < ts.length := fun i hi => List.mem_range.mp hi
 have lall : (zcd ts).length = ts.length := List.length_range
 refine ⟨_, (zae (zan (i := 3) sc_least_ties.nd rfl (Or.inl rfl) (zag G_every_tie hr.lv rfl T.K_every_tie (zaa (pv 0) zac)))
   (zae (zbo PassesOwn.never rfl (piL (K := K) (zag G_every_tie hr.lv rfl T.K_every_tie (zaa (pv 0) zac))) (zao (i := 4) sc_least_ties.nd rfl (Or.inl rfl)) (zae (zan (i := 5) sc_least_ties.nd rfl (Or.inl rfl) (zag G_left_without hr.lv rfl T.K_left_without (zaa (pv 3) (zaa (pv 4) zac))))
   (zah (za8 (zcf (zag G_bars hr.lv rfl T.K_bars (zaa (pv 0) (zaa (pv 5) (zaa (pv 1) (zaa (pv 2) zac)))))) (zah (zan (i := 3) sc_least_ties.nd rfl (Or.inl rfl) (pv 5))) zaz))))
   (zah (zau (pv 3))))), ?_⟩
 refine ⟨_, rfl, wd, m, ts, rfl, W, fun l0 H1 s1 nl0 hl0 => ?_⟩
 refine ⟨_, rfl, wd, m, ts, rfl, W.same s1, fun l1 H3 s3 nl1 hl1 => ?_⟩
 refine ⟨l1, rfl, ⟨_, SqL.of hl1⟩, ?_⟩
 have s13 := s1.trans s3
 refine zbz (K := K) (a := l1) (xs := zal (zcd ts)) (fun i σ H4 => ∃ (lf : Addr) (v4 v5 : Option V), σ = [some (.ref wd), some (.int y), some (.int n), some (.ref lf), v4, v5] ∧ Same H3 H4 ∧ H4 lf = some (.lst (zal (((zcd ts).take i).foldl (za1 ts m y n) (zcd ts)))) ∧ H lf = none) ⟨l0, _, _, rfl, Same.refl _, s3 _ _ hl0, nl0⟩ (fun i σ H4 _ z => by obtain ⟨_, _, _, _, s4, _⟩ := z; exact SqL.of (s4 _ _ hl1)) ?_ ?_
 ·rintro i x σ H4 hx ⟨lf, v4, v5, rfl, s4, hlf, nlf⟩
  rw [List.getElem?_map] at hx
  obtain ⟨t, ht, rfl⟩ := Option.map_eq_some_iff.mp hx
  generalize hleft : ((zcd ts).take i).foldl (za1 ts m y n) (zcd ts) = left at hlf
  have sub : left.Sublist (zcd ts) := by rw [← hleft]; exact zea _ _
  have lle := sub.length_le
  have e1 : ((zcd ts).take (i + 1)).foldl (za1 ts m y n) (zcd ts) = za1 ts m y n left t := by
   rw [List.take_add_one, ht, Option.toList_some, List.foldl_append, hleft]
   rfl
  refine ⟨_, rfl, _, rfl, lf, left, t, rfl, hlf, by omega, fun p H5 s5 np hp => ?_⟩
  refine ⟨_, rfl, _, rfl, _, rfl, _, rfl, wd, m, ts, p, zbq left t, y, n, rfl, W.same ((s13.trans s4).trans s5), m9, hp, fun i hi => allt i (sub.subset (List.mem_filter.mp hi).1), fun H6 s6 => ?_⟩
  refine ⟨_, rfl, ?_⟩
  refine zcv (fun c2 => ?_) (fun c2 => ?_)
  ·refine ⟨_, rfl, p, _, _, rfl, (s4.trans s5).trans s6, ?_, (s13.trans s4).free np⟩
   rw [e1]
   unfold za1
   rw [if_pos c2]
   exact s6 _ _ hp
  ·refine ⟨lf, _, _, rfl, (s4.trans s5).trans s6, ?_, nlf⟩
   rw [e1]
   unfold za1
   rw [if_neg c2]
   exact (s5.trans s6) _ _ hlf
 ·rintro σ H4 ⟨lf, v4, v5, rfl, s4, hlf, nlf⟩
  rw [List.length_map, List.take_length] at hlf
  have sub : (zbf ts m y n).Sublist (zcd ts) := zea _ _
  have hlf : H4 lf = some (.lst (zal (zbf ts m y n))) := hlf
  exact ⟨_, rfl, q lf H4 (s13.trans s4) nlf hlf⟩
end
section
variable {P : Program} {w : World} {K : PySem.W.Frag} {mg : Str → Option Value} {base : Heap} {a : Adr} {d : Fds}
def zoo : Sp := fun vs H Q _ => ∃ (wd lf : Addr) (m : Nat) (ts : List Tie) (left : List Nat) (y n : Nat), vs = [.ref wd, .ref lf, .int y, .int n] ∧ WoodT H wd m ts ∧ m ≤ 9 ∧ H lf = some (.lst (zal left)) ∧ (∀ i ∈ left, i < ts.length) ∧ left.length ≤ 900 ∧ ∀ (ol : Addr) (H' : Hp), Same H H' → H ol = none → zpx H' ol ts m y n left → Q (.ref ol) H'
theorem zla (T : Txt K mg a d) : FnOk P w K mg base CX0 18 a.f_tie_others d.f_tie_others ["wood", "ties", "yes", "no"] zoo := by
 have G_left_without := zfp (P := P) (w := w) (base := base) T
 have G_first_keeping := zby (P := P) (w := w) (base := base) T 9
 refine T.K_tie_others.ok zk5 (fun vs H Q E h => ?_) (fun cdv A outer s H vs Q E hr h => ?_)
 ·obtain ⟨wd, lf, m, ts, left, y, n, rfl, _⟩ := h
  rfl
 obtain ⟨wd, lf, m, ts, left, y, n, rfl, W, m9, hlf, allt, lle, q⟩ := h
 have of := zcj m y n
 refine ⟨_, (zah (zau (zef (sc0 := zai zd9) (XN := ["wood", "ties", "yes", "no"]) (N' := ["t", "wood", "yes", "no", "ties"]) (n := 1) (kp := [0, 2, 3, 1]) rfl (piL (K := K) (pv 1)) rfl rfl (by decide +kernel) (fun _ _ _ _ _ => (zao (i := 0) (by show List.Nodup (["t", "wood", "yes", "no", "ties"] : List Str); decide +kernel) rfl (Or.inl rfl))) (fun _ _ _ _ _ => zgc) (fun _ _ _ _ _ => (za9 (zaa (pv 0) (zaa (zag G_first_keeping hr.lv rfl T.K_first_keeping (zaa (pv 1) (zaa (zag G_left_without hr.lv rfl T.K_left_without (zaa (pv 4) (zaa (pv 0) zac))) (zaa (pv 2) (zaa (pv 3) zac))))) zac))))))), ?_⟩
 refine ⟨_, rfl, lf, rfl, ⟨_, SqL.of hlf⟩, ?_⟩
 refine zco (K := K) (a := lf) (xs := zal left) (fun j ys σ H5 => (∃ v, σ = [v, some (.ref wd), some (.int y), some (.int n), some (.ref lf)]) ∧ Same H H5 ∧ ys.length = j ∧ ∀ (i t : Nat), i < j → left[i]? = some t → ∃ q, ys[i]? = some (.ref q) ∧ H5 q = some (.tup [.int (t : Int), zgn (zbc ts (zbq left t) m 9 y n)])) ⟨⟨none, rfl⟩, Same.refl _, rfl, fun i t hi => absurd hi (Nat.not_lt_zero i)⟩ (fun j ys σ H5 hj pv => ?_) (fun j ys σ H5 hj pv => ?_) (fun j x ys σ H5 hx pv => ?_) (fun ys σ H5 pv ol hol => ?_)
 ·obtain ⟨_, _, h1, _⟩ := pv
  rw [List.length_map] at hj
  exact zam (by omega)
 ·exact SqL.of (pv.2.1 _ _ hlf)
 ·obtain ⟨⟨v, rfl⟩, s5, h1, each⟩ := pv
  rw [List.getElem?_map] at hx
  obtain ⟨t, ht, rfl⟩ := Option.map_eq_some_iff.mp hx
  refine ⟨_, rfl, _, rfl, _, rfl, _, rfl, lf, left, t, rfl, s5 _ _ hlf, by omega, fun p H6 s6 np hp => ?_⟩
  refine ⟨_, rfl, _, rfl, wd, m, ts, p, zbq left t, y, n, rfl, W.same (s5.trans s6), hp, fun i hi => allt i (List.mem_filter.mp hi).1, by omega, fun H7 s7 => ?_⟩
  refine ⟨zam (by show 2 ≤ 1000; decide), fun tp htp => ?_⟩
  have s8 := zad htp (.tup [.int (t : Int), zgn (zbc ts (zbq left t) m 9 y n)])
  have s58 := (s6.trans s7).trans s8
  refine ⟨⟨_, rfl⟩, s5.trans s58, by rw [List.length_append, List.length_singleton, h1], fun i t' hi ht' => ?_⟩
  by_cases e : i = j
  ·subst e
   rw [ht] at ht'
   cases ht'
   refine ⟨tp, ?_, zab⟩
   rw [List.getElem?_append_right (by omega), h1, Nat.sub_self]
   rfl
  ·obtain ⟨p', a1, a2⟩ := each i t' (by omega) ht'
   refine ⟨p', ?_, s58 _ _ a2⟩
   rw [List.getElem?_append_left (by omega)]
   exact a1
 ·obtain ⟨_, s5, h1, each⟩ := pv
  rw [List.length_map] at h1 each
  have s6 := zad hol (.lst ys)
  refine q ol _ (s5.trans s6) (s5.free hol) ⟨ys, zab, h1, fun j t ht => ?_⟩
  obtain ⟨p', a1, a2⟩ := each j t (List.getElem?_eq_some_iff.mp ht).1 ht
  exact ⟨p', a1, s6 _ _ a2⟩
end
section
variable {P : Program} {w : World} {K : PySem.W.Frag} {mg : Str → Option Value} {base : Heap} {a : Adr} {d : Fds}
theorem zds (T : Txt K mg a d) : FnOk P w K mg base CX0 2 a.f_stand_of d.f_stand_of ["picks"] zl0 := by
 have G_with_option := zc4 (P := P) (w := w) (base := base) T
 refine T.K_stand_of.ok sc_stand_of (fun vs H Q E h => ?_) (fun cdv A outer s H vs Q E hr h => ?_)
 ·obtain ⟨pl, ps, rfl, _⟩ := h
  rfl
 obtain ⟨pl, ps, rfl, PA, q⟩ := h
 obtain ⟨xs, hpl, pk⟩ := PA.ex
 have lx := pk.length
 refine ⟨_, (zae (zan (i := 1) sc_stand_of.nd rfl (Or.inl rfl) (zag G_with_option hr.lv rfl T.K_with_option (zaa zaf (zaa zaf zac))))
   (zae (zan (i := 2) sc_stand_of.nd rfl (Or.inl rfl) zaf)
   (zae (zbo PassesOwn.never rfl (piL (K := K) (pv 0)) (pgT (K := K) (n := 2) rfl (za6 (zao (i := 3) sc_stand_of.nd rfl (Or.inl rfl)) (za6 (zao (i := 4) sc_stand_of.nd rfl (Or.inl rfl)) zcy))) (zah (za8 (zcf (pv 4)) (zah (zan (i := 1) sc_stand_of.nd rfl (Or.inl rfl) (zag G_with_option hr.lv rfl T.K_with_option (zaa (pv 1) (zaa (pv 3) zac))))) (zah (zan (i := 2) sc_stand_of.nd rfl (Or.inl rfl) (zag G_with_option hr.lv rfl T.K_with_option (zaa (pv 2) (zaa (pv 3) zac))))))))
   (zah (zau (za9 (zaa (pv 1) (zaa (pv 2) zac)))))))), ?_⟩
 refine ⟨0, 0, rfl, by decide, ?_⟩
 refine ⟨_, rfl, pl, rfl, ⟨_, SqL.of hpl⟩, ?_⟩
 refine zbz (K := K) (a := pl) (xs := xs) (fun i σ H2 => (∃ v3 v4 : Option V, σ = [some (.ref pl), some (.int (zaj (ps.take i) : Int)), some (.int (zaq (ps.take i) : Int)), v3, v4]) ∧ H2 = H) ⟨⟨none, none, rfl⟩, rfl⟩ (fun i σ H2 _ z => by rw [z.2]; exact SqL.of hpl) ?_ ?_
 ·rintro i x σ H2 hx ⟨⟨v3, v4, rfl⟩, rfl⟩
  obtain ⟨p, t, hp, rfl, ht⟩ := pk.get hx
  have et : ps.take (i + 1) = ps.take i ++ [p] := by rw [List.take_add_one, hp, Option.toList_some]
  have ple := PA.le p (List.mem_of_getElem? hp)
  refine ⟨t, _, rfl, sqT ht, rfl, _, _, rfl, _, _, rfl, rfl, ?_⟩
  refine ⟨_, rfl, _, rfl, ?_⟩
  cases e : p.2
  ·refine zek ?_
   refine ⟨_, rfl, _, rfl, zaq (ps.take i), p.1, rfl, by omega, ?_⟩
   refine ⟨⟨some (.int (p.1 : Int)), some (.bl false), ?_⟩, rfl⟩
   rw [et, zhk, zjd, e]
   rfl
  ·refine zl9 ?_
   refine ⟨_, rfl, _, rfl, zaj (ps.take i), p.1, rfl, by omega, ?_⟩
   refine ⟨⟨some (.int (p.1 : Int)), some (.bl true), ?_⟩, rfl⟩
   rw [et, zhk, zjd, e]
   rfl
 ·rintro σ H2 ⟨⟨v3, v4, rfl⟩, rfl⟩
  rw [← lx, List.take_length]
  refine ⟨_, rfl, _, rfl, zam (by show 2 ≤ 1000; decide), fun t ht => ?_⟩
  exact q t _ (zad ht _) zab
end
section
variable {P : Program} {w : World} {K : PySem.W.Frag} {mg : Str → Option Value} {base : Heap} {a : Adr} {d : Fds}
theorem zj7 (T : Txt K mg a d) : FnOk P w K mg base CX0 3 a.f_open_at d.f_open_at ["wood", "picks"] ztm := by
 have G_stand_of := zds (P := P) (w := w) (base := base) T
 have G_open_options := zcx (P := P) (w := w) (base := base) T
 refine T.K_open_at.ok sc_open_at (fun vs H Q E h => ?_) (fun cdv A outer s H vs Q E hr h => ?_)
 ·obtain ⟨wd, pl, m, xs, ys, ps, rfl, _⟩ := h
  rfl
 obtain ⟨wd, pl, m, xs, ys, ps, rfl, WA, m9, PA, q⟩ := h
 refine ⟨_, (zae (zan (i := 2) sc_open_at.nd rfl (Or.inl rfl) (zag G_stand_of hr.lv rfl T.K_stand_of (zaa (pv 1) zac)))
   (zah (zau (zag G_open_options hr.lv rfl T.K_open_options (zaa (zaw (ixT (K := K)) (pv 0) zaf (fun _ _ => rfl)) (zaa (zaw (ixT (K := K)) (pv 2) zaf (fun _ _ => rfl)) (zaa (zaw (ixT (K := K)) (pv 2) zaf (fun _ _ => rfl)) zac))))))), ?_⟩
 refine ⟨_, rfl, pl, ps, rfl, PA, fun t H1 s1 ht => ?_⟩
 obtain ⟨tb, tc, hw, hb, hc⟩ := WoodAt.same s1 WA
 refine ⟨_, rfl, wd, _, _, _, rfl, rfl, sqT hw, at0, _, rfl, t, _, _, _, rfl, rfl, sqT ht, at0, _, rfl, t, _, _, _, rfl, rfl, sqT ht, at1, ?_⟩
 exact ⟨m, zaj ps, zaq ps, rfl, m9, fun l H2 s2 nl hl => q l H2 (s1.trans s2) (s1.free nl) hl⟩
end
section
variable {P : Program} {w : World} {K : PySem.W.Frag} {mg : Str → Option Value} {base : Heap} {a : Adr} {d : Fds}
theorem zdh (T : Txt K mg a d) : FnOk P w K mg base CX0 18 a.f_first_ware_at d.f_first_ware_at ["wood", "picks"] zrm := by
 have G_stand_of := zds (P := P) (w := w) (base := base) T
 have G_first_ware := zk0 (P := P) (w := w) (base := base) T
 refine T.K_first_ware_at.ok sc_first_ware_at (fun vs H Q E h => ?_) (fun cdv A outer s H vs Q E hr h => ?_)
 ·obtain ⟨wd, pl, m, ts, ps, rfl, _⟩ := h
  rfl
 obtain ⟨wd, pl, m, ts, ps, rfl, W, m9, m1, PA, S, q⟩ := h
 refine ⟨_, (zae (zan (i := 2) sc_first_ware_at.nd rfl (Or.inl rfl) (zag G_stand_of hr.lv rfl T.K_stand_of (zaa (pv 1) zac)))
   (zah (zau (zag G_first_ware hr.lv rfl T.K_first_ware (zaa (pv 0) (zaa (zaw (ixT (K := K)) (pv 2) zaf (fun _ _ => rfl)) (zaa (zaw (ixT (K := K)) (pv 2) zaf (fun _ _ => rfl)) zac))))))), ?_⟩
 refine ⟨_, rfl, pl, ps, rfl, PA, fun t H1 s1 ht => ?_⟩
 refine ⟨_, rfl, _, rfl, t, _, _, _, rfl, rfl, sqT ht, at0, _, rfl, t, _, _, _, rfl, rfl, sqT ht, at1, ?_⟩
 exact ⟨wd, m, ts, zaj ps, zaq ps, rfl, W.same s1, m9, m1, S, fun H2 o s2 h => q H2 o (s1.trans s2) (by cases o <;> exact h)⟩
end
section
variable {P : Program} {w : World} {K : PySem.W.Frag} {mg : Str → Option Value} {base : Heap} {a : Adr} {d : Fds}
theorem zij (T : Txt K mg a d) : FnOk P w K mg base CX0 19 a.f_leads_on d.f_leads_on ["wood", "picks", "pick"] zu4 := by
 have G_first_ware_at := zdh (P := P) (w := w) (base := base) T
 refine T.K_leads_on.ok zn1 (fun vs H Q E h => ?_) (fun cdv A outer s H vs Q E hr h => ?_)
 ·obtain ⟨wd, pl, tp, m, ts, ps, p, rfl, _⟩ := h
  rfl
 obtain ⟨wd, pl, tp, m, ts, ps, p, rfl, W, m9, m1, PA, pf, p20, htp, S, q⟩ := h
 obtain ⟨xs, hpl, pk⟩ := PA.ex
 have lx := pk.length
 refine ⟨_, (zah (zau (zbw zfk (zag G_first_ware_at hr.lv rfl T.K_first_ware_at (zaa (pv 0) (zaa (zap zcz (pv 1) (za7 (zaa (pv 2) zac))) zac))) zc1 (zat _)))), ?_⟩
 refine ⟨_, rfl, _, rfl, _, rfl, zam (by show 1 ≤ 1000; decide), fun l1 hl1 => ?_⟩
 have s1 := zad hl1 (.lst [.ref tp])
 have h1 : L2.upd H l1 (.lst [.ref tp]) l1 = some (.lst [.ref tp]) := zab
 generalize L2.upd H l1 (.lst [.ref tp]) = H1 at s1 h1 ⊢
 refine ⟨pl, l1, _, _, rfl, rfl, s1 _ _ hpl, h1, zam (by show xs.length + 1 ≤ 1000; omega), fun l2 hl2 => ?_⟩
 have s2 := zad hl2 (.lst (xs ++ [.ref tp]))
 have h2 : L2.upd H1 l2 (.lst (xs ++ [.ref tp])) l2 = some (.lst (xs ++ [.ref tp])) := zab
 generalize L2.upd H1 l2 (.lst (xs ++ [.ref tp])) = H2 at s2 h2 ⊢
 have s12 := s1.trans s2
 have PB : PicksAt H2 l2 (ps ++ [p]) := ⟨⟨_, h2, PickL.snoc (s12 _ _ htp) (pk.same (Same.tup s12))⟩, by rw [List.length_append, List.length_singleton]; omega, fun x hx => by
  rcases List.mem_append.mp hx with z | z
  ·exact PA.le x z
  ·rw [List.mem_singleton.mp z]; exact p20⟩
 refine ⟨wd, l2, m, ts, ps ++ [p], rfl, W.same s12, m9, m1, PB, S, fun H3 o s3 ho => ?_⟩
 have q1 := q H3 o (s12.trans s3) ho
 refine ⟨rfl, ?_⟩
 cases o <;> exact q1
end
section
variable {P : Program} {w : World} {K : PySem.W.Frag} {mg : Str → Option Value} {base : Heap} {a : Adr} {d : Fds}
theorem ze7 (T : Txt K mg a d) : FnOk P w K mg base CX0 1 a.f_left_without d.f_left_without ["things", "one"] zpi := by
 refine T.K_left_without.ok zfr (fun vs H Q E h => ?_) (fun cdv A outer s H vs Q E hr h => ?_)
 ·obtain ⟨l, tp, ps, p, rfl, _⟩ := h
  rfl
 obtain ⟨l, tp, ps, p, rfl, pa, htp, q⟩ := h
 obtain ⟨xs, hl, pl⟩ := pa.ex
 have few := pa.few
 have lx := pl.length
 refine ⟨_, (zah (zau (zef (sc0 := zai zch) (XN := ["things", "one"]) (N' := ["other", "one"]) (n := 1) (kp := [1]) rfl (piL (K := K) (pv 0)) rfl rfl (by decide +kernel) (fun _ _ _ _ _ => (zao (i := 0) (by show List.Nodup (["other", "one"] : List Str); decide +kernel) rfl (Or.inl rfl))) (fun _ _ _ _ _ => (zbu (zar (zdd hr.units) (pv 0) (pv 1) (zat _)))) (fun _ _ _ _ _ => (pv 0))))), ?_⟩
 refine ⟨_, rfl, l, rfl, ⟨_, SqL.of hl⟩, ?_⟩
 refine zco (K := K) (a := l) (xs := xs) (fun j ys σ H2 => (∃ v, σ = [v, some (.ref tp)]) ∧ H2 = H ∧ ys.length ≤ j ∧ PickL H (zbb (ps.take j) p) ys) ⟨⟨none, rfl⟩, rfl, Nat.le_refl _, rfl⟩ (fun j ys σ H2 hj pv => ?_) (fun j ys σ H2 hj pv => ?_) (fun j x ys σ H2 hx pv => ?_) (fun ys σ H2 pv la hla => ?_)
 ·exact zam (by have := pv.2.2.1; omega)
 ·rw [pv.2.1]
  exact SqL.of hl
 ·obtain ⟨⟨v0, rfl⟩, rfl, lj, pk⟩ := pv
  obtain ⟨p1, t1, hp1, rfl, ht1⟩ := pl.get hx
  have et : zbb (ps.take (j + 1)) p = zbb (ps.take j) p ++ (if p1 = p then [] else [p1]) := by
   unfold zbb
   rw [List.take_add_one, hp1, Option.toList_some, List.filter_append]
   congr 1
   by_cases c : p1 = p
   ·rw [if_pos c, List.filter_cons_of_neg (by rw [decide_eq_true c]; exact Bool.false_ne_true)]
    rfl
   ·rw [if_neg c, List.filter_cons_of_pos (by rw [decide_eq_false c]; rfl)]
    rfl
  refine ⟨_, rfl, _, rfl, zbm p1, zbm p, zer ht1, zer htp, zc2 _, zc2 _, _, rfl, ?_⟩
  rw [zkr]
  by_cases c : p1 = p
  ·refine zgp c ?_
   refine ⟨⟨_, rfl⟩, rfl, by omega, ?_⟩
   rw [et, if_pos c, List.append_nil]
   exact pk
  ·refine ziq c ?_
   refine ⟨_, rfl, ⟨_, rfl⟩, rfl, by rw [List.length_append]; simp only [List.length_cons, List.length_nil]; omega, ?_⟩
   rw [et, if_neg c]
   exact PickL.snoc ht1 pk
 obtain ⟨_, rfl, lj, pk⟩ := pv
 rw [← lx, List.take_length] at pk
 have s1 := zad hla (.lst ys)
 exact q la _ s1 hla ⟨⟨ys, zab, pk.same (Same.tup s1)⟩, Nat.le_trans (List.length_filter_le _ _) few, fun x hx => pa.le x (List.mem_filter.mp hx).1⟩
theorem zjg (T : Txt K mg a d) : FnOk P w K mg base CX0 18 a.f_least_picks d.f_least_picks ["wood", "ties", "picks", "asked"] zsx := by
 have G_left_without := ze7 (P := P) (w := w) (base := base) T
 have G_stand_of := zds (P := P) (w := w) (base := base) T
 have G_bars := zqq (P := P) (w := w) (base := base) T
 refine T.K_least_picks.ok sc_least_picks (fun vs H Q E h => ?_) (fun cdv A outer s H vs Q E hr h => ?_)
 ·obtain ⟨wd, tl, l, tp, m, ts, il, ps, p, rfl, _⟩ := h
  rfl
 obtain ⟨wd, tl, l, tp, m, ts, il, ps, p, rfl, W, m9, htl, ilt, pa, few, htp, p20, q⟩ := h
 obtain ⟨xs, hl, pl⟩ := pa.ex
 refine ⟨_, (zae (zan (i := 4) sc_least_picks.nd rfl (Or.inl rfl) (pv 2))
   (zae (zbo PassesOwn.never rfl (piL (K := K) (pv 2)) (zao (i := 5) sc_least_picks.nd rfl (Or.inl rfl)) (zae (zan (i := 6) sc_least_picks.nd rfl (Or.inl rfl) (zag G_left_without hr.lv rfl T.K_left_without (zaa (pv 4) (zaa (pv 5) zac))))
   (zae (zan (i := 7) sc_least_picks.nd rfl (Or.inl rfl) (zag G_stand_of hr.lv rfl T.K_stand_of (zaa (zap zcz (pv 6) (za7 (zaa (pv 3) zac))) zac)))
   (zah (za8 (zcf (zag G_bars hr.lv rfl T.K_bars (zaa (pv 0) (zaa (pv 1) (zaa (zaw (ixT (K := K)) (pv 7) zaf (fun _ _ => rfl)) (zaa (zaw (ixT (K := K)) (pv 7) zaf (fun _ _ => rfl)) zac)))))) (zah (zan (i := 4) sc_least_picks.nd rfl (Or.inl rfl) (pv 6))) zaz)))))
   (zah (zau (pv 4))))), ?_⟩
 refine ⟨_, rfl, ?_⟩
 refine ⟨_, rfl, l, rfl, ⟨_, SqL.of hl⟩, ?_⟩
 refine zbz (K := K) (a := l) (xs := xs) (fun i σ H2 => ∃ (l2 : Addr) (o5 o6 o7 : Option V), σ = [some (.ref wd), some (.ref tl), some (.ref l), some (.ref tp), some (.ref l2), o5, o6, o7] ∧ Same H H2 ∧ (l2 = l ∨ H l2 = none) ∧ PicksAt H2 l2 (lpk ts il m p (ps.take i) ps)) ⟨l, none, none, none, rfl, Same.refl _, .inl rfl, pa⟩ (fun i σ H2 hi pv => ?_) (fun i x σ H2 hx pv => ?_) (fun σ H2 pv => ?_)
 ·obtain ⟨_, _, _, _, _, s2, _⟩ := pv
  exact SqL.of (s2 _ _ hl)
 ·obtain ⟨l2, o5, o6, o7, rfl, s2, n2, pa2⟩ := pv
  obtain ⟨p1, t1, hp1, rfl, ht1⟩ := pl.get hx
  have sub := (zc7 (ts := ts) (il := il) (m := m) (a := p) (ps.take i) ps).length_le
  refine ⟨_, rfl, _, rfl, l2, t1, _, p1, rfl, pa2, s2 _ _ ht1, fun l3 H3 s3 nl3 pa3 => ?_⟩
  have s23 := s2.trans s3
  obtain ⟨zs, hz, _⟩ := pa3.ex
  have lw : (zbb (lpk ts il m p (ps.take i) ps) p1).length ≤ 19 := Nat.le_trans (List.length_filter_le _ _) (by omega)
  refine ⟨_, rfl, _, rfl, zam (by show 1 ≤ 1000; decide), fun l4 nl4 => ?_⟩
  have s4 := zad nl4 (.lst [.ref tp])
  have g4 : L2.upd H3 l4 (.lst [.ref tp]) l4 = some (.lst [.ref tp]) := zab
  generalize L2.upd H3 l4 (.lst [.ref tp]) = H4 at s4 g4 ⊢
  have lz : zs.length ≤ 20 := by
   obtain ⟨zs', hz', pz⟩ := pa3.ex
   rw [hz] at hz'
   cases hz'
   rw [← pz.length]
   omega
  refine ⟨l3, l4, zs, _, rfl, rfl, s4 _ _ hz, g4, zam (by show zs.length + 1 ≤ 1000; omega), fun l5 nl5 => ?_⟩
  have s5 := zad nl5 (.lst (zs ++ [.ref tp]))
  have g5 : L2.upd H4 l5 (.lst (zs ++ [.ref tp])) l5 = some (.lst (zs ++ [.ref tp])) := zab
  generalize L2.upd H4 l5 (.lst (zs ++ [.ref tp])) = H5 at s5 g5 ⊢
  have s45 := s4.trans s5
  have pa5 := pa3.snoc hz (by omega) p20 (s23 _ _ htp) s45 g5
  refine ⟨l5, _, rfl, pa5, fun t6 H6 s6 ht6 => ?_⟩
  have s26 := (s23.trans s45).trans s6
  refine ⟨_, rfl, _, rfl, _, rfl, t6, _, _, _, rfl, rfl, sqT ht6, at0, _, rfl, t6, _, _, _, rfl, rfl, sqT ht6, at1, wd, m, ts, tl, il, _, _, rfl, W.same s26, m9, s26 _ _ htl, ilt, fun H7 s7 => ?_⟩
  refine ⟨_, rfl, ?_⟩
  have ev := zhl (ts := ts) (il := il) (m := m) (a := p) (p := p1) (ps.take i) ps
  have et : ps.take (i + 1) = ps.take i ++ [p1] := by rw [List.take_add_one, hp1, Option.toList_some]
  refine zcv (fun c => ?_) (fun c => ?_)
  ·refine ⟨_, rfl, l3, _, _, _, rfl, s26.trans s7, .inr (s2.free nl3), ?_⟩
   rw [et, ev, if_pos c]
   exact (pa3.same s45).same (s6.trans s7)
  ·refine ⟨l2, _, _, _, rfl, s26.trans s7, n2, ?_⟩
   rw [et, ev, if_neg c]
   exact pa2.same ((s3.trans s45).trans (s6.trans s7))
 obtain ⟨l2, o5, o6, o7, rfl, s2, n2, pa2⟩ := pv
 rw [← pl.length, List.take_length] at pa2
 exact ⟨_, rfl, q l2 H2 s2 n2 pa2⟩
end
section
variable {P : Program} {w : World} {K : PySem.W.Frag} {mg : Str → Option Value} {base : Heap} {a : Adr} {d : Fds}
theorem zjw (T : Txt K mg a d) : FnOk P w K mg base CX0 18 a.f_pick_others d.f_pick_others ["wood", "ties", "picks", "asked"] zl7 := by
 have G_left_without := ze7 (P := P) (w := w) (base := base) T
 have G_stand_of := zds (P := P) (w := w) (base := base) T
 have G_first_keeping := zby (P := P) (w := w) (base := base) T 9
 refine T.K_pick_others.ok sc_pick_others (fun vs H Q E h => ?_) (fun cdv A outer s H vs Q E hr h => ?_)
 ·obtain ⟨wd, tl, l, tp, m, ts, il, ps, p, rfl, _⟩ := h
  rfl
 obtain ⟨wd, tl, l, tp, m, ts, il, ps, p, rfl, W, m9, htl, ilt, pa, few, htp, p20, q⟩ := h
 obtain ⟨xs, hl, pl⟩ := pa.ex
 have lx := pl.length
 refine ⟨_, (zae (zan (i := 4) sc_pick_others.nd rfl (Or.inl rfl) (za7 zac))
   (zae (zbo PassesOwn.never rfl (piL (K := K) (pv 2)) (zao (i := 5) sc_pick_others.nd rfl (Or.inl rfl)) (zae (zan (i := 6) sc_pick_others.nd rfl (Or.inl rfl) (zag G_stand_of hr.lv rfl T.K_stand_of (zaa (zap zcz (zag G_left_without hr.lv rfl T.K_left_without (zaa (pv 2) (zaa (pv 5) zac))) (za7 (zaa (pv 3) zac))) zac)))
   (zah (zcb (zdx (K := K) PySem.F.plainAttrs_list PySem.F.slot_list_append PySem.F.type_list_append zb2 (pv 4) (zaa (za9 (zaa (pv 5) (zaa (zag G_first_keeping hr.lv rfl T.K_first_keeping (zaa (pv 0) (zaa (pv 1) (zaa (zaw (ixT (K := K)) (pv 6) zaf (fun _ _ => rfl)) (zaa (zaw (ixT (K := K)) (pv 6) zaf (fun _ _ => rfl)) zac))))) zac))) zac))))))
   (zah (zau (pv 4))))), ?_⟩
 refine ⟨zam (by show 0 ≤ 1000; decide), fun ol nol => ?_⟩
 have s0 := zad nol (.lst [])
 have g0 : L2.upd H ol (.lst []) ol = some (.lst []) := zab
 generalize L2.upd H ol (.lst []) = H0 at s0 g0 ⊢
 have hl0 := s0 _ _ hl
 have nlo : l ≠ ol := fun z => by rw [z, nol] at hl; cases hl
 have fromX : ∀ H2, SameX ol H0 H2 → Same H H2 := fun H2 x => SameX.freshW s0 nol g0 x
 refine ⟨_, rfl, l, rfl, ⟨_, SqL.of hl0⟩, ?_⟩
 refine zbz (K := K) (a := l) (xs := xs) (fun i σ H2 => ∃ (o5 o6 : Option V) (ys : List V), σ = [some (.ref wd), some (.ref tl), some (.ref l), some (.ref tp), some (.ref ol), o5, o6] ∧ SameX ol H0 H2 ∧ H2 ol = some (.lst ys) ∧ ys.length = i ∧ ∀ (j : Nat) p1, j < i → ps[j]? = some p1 → ∃ q t, ys[j]? = some (.ref q) ∧ H2 q = some (.tup [.ref t, zgn (zbc ts il m 9 (zaj (zbb ps p1 ++ [p])) (zaq (zbb ps p1 ++ [p])))]) ∧ H2 t = some (.tup [.int (p1.1 : Int), .bl p1.2])) ⟨none, none, [], rfl, SameX.refl _ _, g0, rfl, fun j p1 hj => absurd hj (Nat.not_lt_zero _)⟩ (fun i σ H2 hi pv => ?_) (fun i x σ H2 hx pv => ?_) (fun σ H2 pv => ?_)
 ·obtain ⟨_, _, _, _, x2, _⟩ := pv
  exact SqL.of (fromX H2 x2 _ _ hl)
 ·obtain ⟨o5, o6, ys, rfl, x2, hol, ly, ent⟩ := pv
  have il' := (List.getElem?_eq_some_iff.mp hx).1
  obtain ⟨p1, t1, hp1, rfl, ht1⟩ := pl.get hx
  have s2 := fromX H2 x2
  refine ⟨_, rfl, _, rfl, l, t1, ps, p1, rfl, pa.same s2, s2 _ _ ht1, fun l3 H3 s3 nl3 pa3 => ?_⟩
  have s23 := s2.trans s3
  obtain ⟨zs, hz, pz⟩ := pa3.ex
  have lw : (zbb ps p1).length ≤ 19 := Nat.le_trans (List.length_filter_le _ _) few
  have lz := pz.length
  refine ⟨_, rfl, zam (by show 1 ≤ 1000; decide), fun l4 nl4 => ?_⟩
  have s4 := zad nl4 (.lst [.ref tp])
  have g4 : L2.upd H3 l4 (.lst [.ref tp]) l4 = some (.lst [.ref tp]) := zab
  generalize L2.upd H3 l4 (.lst [.ref tp]) = H4 at s4 g4 ⊢
  refine ⟨l3, l4, zs, _, rfl, rfl, s4 _ _ hz, g4, zam (by show zs.length + 1 ≤ 1000; omega), fun l5 nl5 => ?_⟩
  have s5 := zad nl5 (.lst (zs ++ [.ref tp]))
  have g5 : L2.upd H4 l5 (.lst (zs ++ [.ref tp])) l5 = some (.lst (zs ++ [.ref tp])) := zab
  generalize L2.upd H4 l5 (.lst (zs ++ [.ref tp])) = H5 at s5 g5 ⊢
  have s45 := s4.trans s5
  have pa5 := pa3.snoc hz (by omega) p20 (s23 _ _ htp) s45 g5
  refine ⟨l5, _, rfl, pa5, fun t6 H6 s6 ht6 => ?_⟩
  have s36 := (s3.trans s45).trans s6
  have s26 := s2.trans s36
  have hol6 : H6 ol = some (.lst ys) := s36 _ _ hol
  have of := zcj m (zaj (zbb ps p1 ++ [p])) (zaq (zbb ps p1 ++ [p]))
  refine ⟨_, rfl, .inl ⟨rfl, _, SqL.of hol6⟩, ?_⟩
  refine ⟨_, rfl, _, rfl, _, rfl, _, rfl, t6, _, _, _, rfl, rfl, sqT ht6, at0, _, rfl, t6, _, _, _, rfl, rfl, sqT ht6, at1, wd, m, ts, tl, il, _, _, rfl, W.same s26, s26 _ _ htl, ilt, by omega, fun H7 s7 => ?_⟩
  refine ⟨zam (by show 2 ≤ 1000; decide), fun q8 nq8 => ?_⟩
  have s8 := zad nq8 (.tup [.ref t1, zgn (zbc ts il m 9 (zaj (zbb ps p1 ++ [p])) (zaq (zbb ps p1 ++ [p])))])
  have g8 : L2.upd H7 q8 (.tup [.ref t1, zgn (zbc ts il m 9 (zaj (zbb ps p1 ++ [p])) (zaq (zbb ps p1 ++ [p])))]) q8 = some (.tup [.ref t1, zgn (zbc ts il m 9 (zaj (zbb ps p1 ++ [p])) (zaq (zbb ps p1 ++ [p])))]) := zab
  generalize L2.upd H7 q8 (.tup [.ref t1, zgn (zbc ts il m 9 (zaj (zbb ps p1 ++ [p])) (zaq (zbb ps p1 ++ [p])))]) = H8 at s8 g8 ⊢
  have s28 := (s36.trans s7).trans s8
  have hol8 : H8 ol = some (.lst ys) := s28 _ _ hol
  refine ⟨ol, ys, _, rfl, rfl, hol8, zbd (by omega), ?_⟩
  have x9 := za2 (pen := ol) (H := H8) (.lst (ys ++ [.ref q8]))
  have t9 := SameX.tup hol8 x9
  have tt := zax (Same.tup s28) t9
  refine ⟨_, _, ys ++ [.ref q8], rfl, (x2.trans (Same.x s28)).trans x9, zab, by rw [List.length_append, ly]; rfl, fun j p2 hj hp2 => ?_⟩
  rcases Nat.lt_or_ge j i with z | z
  ·obtain ⟨q', t', a1, a2, a3⟩ := ent j p2 z hp2
   exact ⟨q', t', by rw [List.getElem?_append_left (by omega)]; exact a1, tt _ _ a2, tt _ _ a3⟩
  ·have e : j = i := by omega
   subst e
   rw [hp1] at hp2
   cases hp2
   exact ⟨q8, t1, by rw [List.getElem?_append_right (by omega), ly, Nat.sub_self]; rfl, t9 _ _ g8, (zax (Same.tup (s2.trans s28)) t9) _ _ ht1⟩
 obtain ⟨o5, o6, ys, rfl, x2, hol, ly, ent⟩ := pv
 exact ⟨_, rfl, q ol H2 (fromX H2 x2) nol ⟨ys, hol, by omega, fun j p1 hj => ent j p1 (by rw [← lx]; exact (List.getElem?_eq_some_iff.mp hj).1) hj⟩⟩
end
section
variable {P : Program} {w : World} {K : PySem.W.Frag} {mg : Str → Option Value} {base : Heap} {a : Adr} {d : Fds}
theorem zk2 (T : Txt K mg a d) (LB : zi4 mg base a.c_cases_of a.t_cases_of) : FnOk P w K mg base CX0 19 a.f_why_barred d.f_why_barred ["wood", "picks", "asked"] (spT a.t_cases_of zwu) := by
 have G_stand_of := zds (P := P) (w := w) (base := base) T
 have G_least_ties := zk1 (P := P) (w := w) (base := base) T
 have G_least_picks := zjg (P := P) (w := w) (base := base) T
 have G_cases_of := zn5 (P := P) (w := w) (base := base) T LB 9
 have G_tie_others := zla (P := P) (w := w) (base := base) T
 have G_pick_others := zjw (P := P) (w := w) (base := base) T
 refine T.K_why_barred.ok sc_why_barred (fun vs H Q E h => ?_) (fun cdv A outer s H vs Q E hr h => ?_)
 ·obtain ⟨_, wd, pl, tp, m, ts, ps, p, rfl, _⟩ := h
  rfl
 obtain ⟨tb, wd, pl, tp, m, ts, ps, p, rfl, W, tsl, m9, pa, few, nd, htp, p20, q⟩ := h
 obtain ⟨xs, hl, px⟩ := pa.ex
 have lx := px.length
 refine ⟨_, (zae (zan (i := 3) sc_why_barred.nd rfl (Or.inl rfl) (zag G_stand_of hr.lv rfl T.K_stand_of (zaa (zap zcz (pv 1) (za7 (zaa (pv 2) zac))) zac)))
   (zae (zan (i := 4) sc_why_barred.nd rfl (Or.inl rfl) (zag G_least_ties hr.lv rfl T.K_least_ties (zaa (pv 0) (zaa (zaw (ixT (K := K)) (pv 3) zaf (fun _ _ => rfl)) (zaa (zaw (ixT (K := K)) (pv 3) zaf (fun _ _ => rfl)) zac)))))
   (zae (zan (i := 5) sc_why_barred.nd rfl (Or.inl rfl) (zag G_least_picks hr.lv rfl T.K_least_picks (zaa (pv 0) (zaa (pv 4) (zaa (za3 (zfg (K := K)) rfl T.m_sorted PyProof.Rows.boot_sorted (zaa (pv 1) zac)) (zaa (pv 2) zac))))))
   (zae (zan (i := 3) sc_why_barred.nd rfl (Or.inl rfl) (zag G_stand_of hr.lv rfl T.K_stand_of (zaa (zap zcz (pv 5) (za7 (zaa (pv 2) zac))) zac)))
   (zae (zan (i := 6) sc_why_barred.nd rfl (Or.inl rfl) (zag G_cases_of hr.lv rfl T.K_cases_of (zaa (pv 0) (zaa (pv 4) (zaa (zaw (ixT (K := K)) (pv 3) zaf (fun _ _ => rfl)) (zaa (zaw (ixT (K := K)) (pv 3) zaf (fun _ _ => rfl)) zac))))))
   (zae (zan (i := 7) sc_why_barred.nd rfl (Or.inl rfl) (zap zcz (zag G_tie_others hr.lv rfl T.K_tie_others (zaa (pv 0) (zaa (pv 4) (zaa (zaw (ixT (K := K)) (pv 3) zaf (fun _ _ => rfl)) (zaa (zaw (ixT (K := K)) (pv 3) zaf (fun _ _ => rfl)) zac))))) (zag G_pick_others hr.lv rfl T.K_pick_others (zaa (pv 0) (zaa (pv 4) (zaa (pv 5) (zaa (pv 2) zac)))))))
   (zah (zau (za9 (zaa (pv 4) (zaa (pv 5) (zaa (pv 6) (zaa (pv 7) zac))))))))))))), ?_⟩
 refine ⟨_, rfl, _, rfl, zam (by show 1 ≤ 1000; decide), fun l4 nl4 => ?_⟩
 have s4 := zad nl4 (.lst [.ref tp])
 have g4 : L2.upd H l4 (.lst [.ref tp]) l4 = some (.lst [.ref tp]) := zab
 generalize L2.upd H l4 (.lst [.ref tp]) = H4 at s4 g4 ⊢
 refine ⟨pl, l4, xs, _, rfl, rfl, s4 _ _ hl, g4, zam (by show xs.length + 1 ≤ 1000; omega), fun l5 nl5 => ?_⟩
 have s5 := zad nl5 (.lst (xs ++ [.ref tp]))
 have g5 : L2.upd H4 l5 (.lst (xs ++ [.ref tp])) l5 = some (.lst (xs ++ [.ref tp])) := zab
 generalize L2.upd H4 l5 (.lst (xs ++ [.ref tp])) = H5 at s5 g5 ⊢
 have s45 := s4.trans s5
 have pa5 := pa.snoc hl (by omega) p20 htp s45 g5
 refine ⟨l5, _, rfl, pa5, fun t6 H6 s6 ht6 => ?_⟩
 have s06 := s45.trans s6
 refine ⟨_, rfl, _, rfl, t6, _, _, _, rfl, rfl, sqT ht6, at0, _, rfl, t6, _, _, _, rfl, rfl, sqT ht6, at1, wd, m, ts, _, _, rfl, W.same s06, m9, fun lf H7 s7 nlf hlf => ?_⟩
 generalize hil : zbf ts m (zaj (ps ++ [p])) (zaq (ps ++ [p])) = il at hlf q
 have ilt : ∀ i ∈ il, i < ts.length := fun i hi => by
  rw [← hil] at hi
  exact List.mem_range.mp (leastL_sub.subset hi)
 have ill : il.length ≤ 900 := by
  rw [← hil]
  have := (leastL_sub (ts := ts) (m := m) (y := zaj (ps ++ [p])) (n := zaq (ps ++ [p]))).length_le
  unfold zcd at this
  rw [List.length_range] at this
  omega
 have s07 := s06.trans s7
 have pa7 := pa.same s07
 obtain ⟨xs7, hl7, px7⟩ := pa7.ex
 obtain ⟨es, e1, e2, e3, e4⟩ := px7.es
 refine ⟨_, rfl, _, rfl, _, rfl, pl, es, rfl, SqL.of (by rw [← e1]; exact hl7), ⟨fun e he => ⟨_, (e4 e he).1⟩, ?_⟩, ?_, fun es' pe pw l8 nl8 => ?_⟩
 ·rw [e2]
  have : (ps.map fun p => ((p.1 : Nat) : Int)) = (ps.map (·.1)).map fun k : Nat => (k : Int) := by rw [List.map_map]; rfl
  rw [this]
  rw [List.nodup_iff_pairwise_ne, List.pairwise_map]
  exact List.Pairwise.imp (fun {a b} h z => h (by omega)) (List.nodup_iff_pairwise_ne.mp nd)
 ·have := congrArg List.length e3
  rw [List.length_map] at this
  omega
 have s8 := zad nl8 (.lst (es'.map fun e => V.ref e.2))
 have g8 : L2.upd H7 l8 (.lst (es'.map fun e => V.ref e.2)) l8 = some (.lst (es'.map fun e => V.ref e.2)) := zab
 generalize L2.upd H7 l8 (.lst (es'.map fun e => V.ref e.2)) = H8 at s8 g8 ⊢
 have e4' : ∀ e ∈ es', H7 e.2 = some (.tup [.int e.1, .bl (zb9 H7 e.2).2]) ∧ e.1 = (((zb9 H7 e.2).1 : Nat) : Int) := fun e he => e4 e (pe.mem_iff.mp he)
 obtain ⟨ps', hps'⟩ : ∃ ps', ps' = es'.map fun e => zb9 H7 e.2 := ⟨_, rfl⟩
 have pm : ps'.Perm ps := by
  rw [hps', ← e3]
  exact pe.map _
 have up : (ps'.map (·.1)).Pairwise (· < ·) := by
  rw [hps', List.map_map, List.pairwise_map]
  rw [List.pairwise_map] at pw
  refine List.Pairwise.imp_of_mem (fun {a b} ha hb h => ?_) pw
  have a1 := (e4' a ha).2
  have b1 := (e4' b hb).2
  show (zb9 H7 a.2).1 < (zb9 H7 b.2).1
  omega
 have few' : ps'.length ≤ 19 := by rw [pm.length_eq]; exact few
 have pa8 : PicksAt H8 l8 ps' := ⟨⟨_, g8, by rw [hps']; exact (PickL.of_es es' e4').same (Same.tup s8)⟩, by omega, fun x hx => pa.le x (pm.mem_iff.mp hx)⟩
 have s08 := s07.trans s8
 refine ⟨_, rfl, wd, lf, l8, tp, m, ts, il, ps', p, rfl, W.same s08, m9, s8 _ _ hlf, ilt, pa8, few', s08 _ _ htp, p20, fun lp H9 s9 nlp pa9 => ?_⟩
 have sub := (zc7 (ts := ts) (il := il) (m := m) (a := p) ps' ps').length_le
 have s09 := s08.trans s9
 obtain ⟨zs, hz, pz⟩ := pa9.ex
 have lz := pz.length
 refine ⟨_, rfl, _, rfl, zam (by show 1 ≤ 1000; decide), fun l10 nl10 => ?_⟩
 have s10 := zad nl10 (.lst [.ref tp])
 have g10 : L2.upd H9 l10 (.lst [.ref tp]) l10 = some (.lst [.ref tp]) := zab
 generalize L2.upd H9 l10 (.lst [.ref tp]) = H10 at s10 g10 ⊢
 refine ⟨lp, l10, zs, _, rfl, rfl, s10 _ _ hz, g10, zam (by show zs.length + 1 ≤ 1000; omega), fun l11 nl11 => ?_⟩
 have s11 := zad nl11 (.lst (zs ++ [.ref tp]))
 have g11 : L2.upd H10 l11 (.lst (zs ++ [.ref tp])) l11 = some (.lst (zs ++ [.ref tp])) := zab
 generalize L2.upd H10 l11 (.lst (zs ++ [.ref tp])) = H11 at s11 g11 ⊢
 have pa11 := pa9.snoc hz (by omega) p20 (s09 _ _ htp) (s10.trans s11) g11
 refine ⟨l11, _, rfl, pa11, fun t12 H12 s12 ht12 => ?_⟩
 have s912 := (s10.trans s11).trans s12
 have s012 := s09.trans s912
 have hlf12 : H12 lf = some (.lst (zal il)) := ((s8.trans s9).trans s912) _ _ hlf
 have of := zcj m (zaj (lpk ts il m p ps' ps' ++ [p])) (zaq (lpk ts il m p ps' ps' ++ [p]))
 refine ⟨_, rfl, _, rfl, _, rfl, t12, _, _, _, rfl, rfl, sqT ht12, at0, _, rfl, t12, _, _, _, rfl, rfl, sqT ht12, at1, s012.tab tb, wd, m, ts, lf, il, _, _, rfl, W.same s012, hlf12, ilt, by omega, fun tv H13 s13 dv => ?_⟩
 have s013 := s012.trans s13
 have ht13 := s13 _ _ ht12
 refine ⟨_, rfl, _, rfl, _, rfl, t12, _, _, _, rfl, rfl, sqT ht13, at0, _, rfl, t12, _, _, _, rfl, rfl, sqT ht13, at1, wd, lf, m, ts, il, _, _, rfl, W.same s013, m9, s13 _ _ hlf12, ilt, ill, fun o1 H14 s14 no1 ot => ?_⟩
 have s914 := (s912.trans s13).trans s14
 have s014 := s09.trans s914
 refine ⟨_, rfl, _, rfl, _, rfl, _, rfl, wd, lf, lp, tp, m, ts, il, _, p, rfl, W.same s014, m9, (s13.trans s14) _ _ hlf12, ilt, pa9.same s914, by omega, s014 _ _ htp, p20, fun o2 H15 s15 no2 op => ?_⟩
 obtain ⟨xs1, hx1, ln1, en1⟩ := ot.ex
 obtain ⟨ys1, hy1, ln2, en2⟩ := op.ex
 refine ⟨o1, o2, xs1, ys1, rfl, rfl, s15 _ _ hx1, hy1, zam (by omega), fun ol nol => ?_⟩
 have s16 := zad nol (.lst (xs1 ++ ys1))
 have g16 : L2.upd H15 ol (.lst (xs1 ++ ys1)) ol = some (.lst (xs1 ++ ys1)) := zab
 generalize L2.upd H15 ol (.lst (xs1 ++ ys1)) = H16 at s16 g16 ⊢
 refine ⟨_, rfl, _, rfl, _, rfl, _, rfl, zam (by show 4 ≤ 1000; decide), fun qq nqq => ?_⟩
 have s17 := zad nqq (.tup [.ref lf, .ref lp, tv, .ref ol])
 have s1517 := s16.trans s17
 have s1417 := s15.trans s1517
 refine q _ _ ps' ⟨pm, up⟩ (s014.trans s1417) ⟨⟨qq, lf, lp, ol, o1, o2, tv, xs1, ys1, rfl, zab, ((s13.trans s14).trans s1417) _ _ hlf12, (pa9.same s914).same s1417, Dn.same (s14.trans s1417) _ _ dv, ⟨xs1, s1417 _ _ hx1, ln1, fun j t hj => ?_⟩, ⟨ys1, s1517 _ _ hy1, ln2, fun j t hj => ?_⟩, s1417 _ _ hx1, s1517 _ _ hy1, s17 _ _ g16⟩, fun q' lf' lp' ol' tv' e hq => ?_⟩
 ·obtain ⟨q', a1, a2⟩ := en1 j t hj
  exact ⟨q', a1, s1417 _ _ a2⟩
 ·obtain ⟨q', t', a1, a2, a3⟩ := en2 j t hj
  exact ⟨q', t', a1, s1517 _ _ a2, s1517 _ _ a3⟩
 ·cases e
  rw [show L2.upd H16 qq (.tup [.ref lf, .ref lp, tv, .ref ol]) qq = some (.tup [.ref lf, .ref lp, tv, .ref ol]) from zab] at hq
  cases hq
  have lp8 : H7 lp = none := by
   rcases nlp with z | z
   ·rw [z]; exact nl8
   ·exact s8.free z
  have z15 := s14.trans s15
  refine ⟨s06.free nlf, s07.free lp8, (s014.trans s15).free nol, fun z => ?_, fun z => ?_, fun z => ?_⟩
  ·rw [← z, hlf] at lp8
   cases lp8
  ·have y : H15 lf = some (.lst (zal il)) := (s13.trans z15) _ _ hlf12
   rw [z, nol] at y
   cases y
  ·obtain ⟨ks, hk, _⟩ := (pa9.same (s914.trans s15)).ex
   rw [z, nol] at hk
   cases hk
end
section
variable {P : Program} {w : World} {K : PySem.W.Frag} {mg : Str → Option Value} {base : Heap} {a : Adr} {d : Fds}
theorem zdr (T : Txt K mg a d) : FnOk P w K mg base CX0 1 a.f_law_take d.f_law_take ["_law_state", "_law_most"] (zxa K) := by
 refine T.K_law_take.ok sc_law_take (fun vs H Q E h => ?_) (fun cdv A outer s H vs Q E hr h => ?_)
 ·obtain ⟨pen, sp, ns, most, k, rfl, _⟩ := h
  rfl
 obtain ⟨pen, sp, ns, most, k, rfl, pn, k0, k1, m0, q⟩ := h
 have hp := pn.at_
 have el : (ns.map V.int).length = ns.length := List.length_map _
 have item : ∀ j : Int, 0 ≤ j → j < ns.length → ∃ v : Int, atI (ns.map V.int) j = some (.int v) := fun j j0 j1 => by
  obtain ⟨m, rfl⟩ : ∃ m : Nat, j = (m : Int) := ⟨j.toNat, by omega⟩
  have hj : m < ns.length := by omega
  refine ⟨ns[m], zdj ?_⟩
  rw [List.getElem?_map, List.getElem?_eq_getElem hj]
  rfl
 have last : ∃ t, PSs (zd0 CX0 P w K mg base ["_law_state", "_law_most", "_law_script", "_law_at", "_law_number"] "_law_take" (zai zeg) a.f_law_take cdv A outer s H E).nox ((zba zeg).drop 5) t ∧ ∀ (N : Int) (v0 v2 v3 : Option V), t { nx := fun _ H' => Q .non H', rt := Q } [v0, some (.int most), v2, v3, some (.int N)] (L2.upd H pen (.lst [.ref sp, .int (k + 1)])) := by
  refine ⟨_, (zah (zau (zap zf9 (zap zf9 (zap zez (zap zf9 (zap zez (pv 4) zaf) zaf) (zap zb6 (zap zf9 (pv 4) zaf) zaf)) zaf) (pv 1)))), fun N v0 v2 v3 => ?_⟩
  have n0 : 0 ≤ N * 48271 % 2147483629 := Int.emod_nonneg _ (by decide)
  have n1 : N * 48271 % 2147483629 < 2147483629 := Int.emod_lt_of_pos _ (by decide)
  refine ⟨_, rfl, _, _, rfl, rfl, .inr ⟨by decide, by decide⟩, _, _, rfl, rfl, (by show (0 : Int) < 2147483629; decide), _, rfl, _, _, rfl, rfl, (by show (0 : Int) < 65521; decide), _, _, rfl, rfl, _, _, rfl, rfl, .inl ⟨by omega, by omega⟩, _, _, rfl, rfl, (by show (0 : Int) < 999999937; decide), _, rfl, _, _, rfl, rfl, m0, ?_⟩
  exact q _ (Int.emod_nonneg _ (by omega)) (Int.emod_lt_of_pos _ m0)
 obtain ⟨t5, h5, r5⟩ := last
 refine ⟨_, (zae (zhy (pv 0) (zxd (K := K) rfl (za6 (zao (i := 2) sc_law_take.nd rfl (Or.inl rfl)) (za6 (zao (i := 3) sc_law_take.nd rfl (Or.inl rfl)) zcy))))
   (zae (zhy (zap zb6 (pv 3) zaf) (ztw (pv 0) zaf zod))
   (zae (za8 (zar zjv (pv 3) (za3 (zep (K := K)) rfl T.m_len PySem.boot_len (zaa (pv 2) zac)) (zat _)) (zah (zau (zap zf9 (zaw (ixL (K := K)) (pv 2) (pv 3) (fun _ _ => rfl)) (pv 1)))) zaz)
   (zae (zan (i := 4) sc_law_take.nd rfl (Or.inl rfl) (zap zb6 (zap zb6 (zap zez (zap zez (pv 3) (pv 3)) zaf) (zap zez zaf (pv 3))) zaf))
   (zae (za8 (zar zhc (za3 (zep (K := K)) rfl T.m_len PySem.boot_len (zaa (pv 2) zac)) zaf (zat _)) (zah (zan (i := 4) sc_law_take.nd rfl (Or.inl rfl) (zap zb6 (pv 4) (zap zez (zap zf9 (zaw (ixL (K := K)) (pv 2) (zap zf9 (zap zez (pv 3) zaf) (za3 (zep (K := K)) rfl T.m_len PySem.boot_len (zaa (pv 2) zac))) (fun _ _ => rfl)) zaf) (zap zb6 (pv 3) zaf))))) zaz)
   h5))))), ?_⟩
 refine ⟨_, rfl, pen, _, rfl, SqL.of hp, rfl, _, _, rfl, _, _, rfl, rfl, ?_⟩
 refine ⟨_, rfl, _, _, rfl, rfl, _, rfl, pen, _, _, _, rfl, rfl, hp, rfl, ?_⟩
 have hS := pn.scr _ (za2 (pen := pen) (H := H) (.lst [.ref sp, .int (k + 1)]))
 refine ⟨_, rfl, _, rfl, sp, _, rfl, .inl hS, _, _, rfl, rfl, _, rfl, ?_⟩
 refine zcv (fun c => ?_) (fun c => ?_)
 ·have c' : k < ((ns.map V.int).length : Nat) := of_decide_eq_true c
  rw [el] at c'
  obtain ⟨v, hv⟩ := item k k0 c'
  exact ⟨_, rfl, _, rfl, sp, _, _, _, rfl, rfl, hS, hv, _, rfl, _, _, rfl, rfl, m0, q _ (Int.emod_nonneg _ (by omega)) (Int.emod_lt_of_pos _ m0)⟩
 refine ⟨_, rfl, _, rfl, _, _, rfl, rfl, (by unfold CMul; omega), _, _, rfl, rfl, .inr ⟨by decide, by decide⟩, _, rfl, _, _, rfl, rfl, .inl ⟨by decide, by decide⟩, _, _, rfl, rfl, _, _, rfl, rfl, ?_⟩
 refine ⟨_, rfl, sp, _, rfl, .inl hS, _, _, rfl, rfl, _, rfl, ?_⟩
 refine zcv (fun c2 => ?_) (fun c2 => ?_)
 ·have c2' : (0 : Int) < ((ns.map V.int).length : Nat) := of_decide_eq_true c2
  rw [el] at c2'
  have m0' : 0 ≤ k * 3 % (ns.length : Int) := Int.emod_nonneg _ (by omega)
  have m1' : k * 3 % (ns.length : Int) < ns.length := Int.emod_lt_of_pos _ c2'
  obtain ⟨v, hv⟩ := item _ m0' m1'
  have v0 : 0 ≤ v % 2147483563 := Int.emod_nonneg _ (by decide)
  have v1 : v % 2147483563 < 2147483563 := Int.emod_lt_of_pos _ (by decide)
  refine ⟨_, rfl, _, rfl, _, rfl, _, _, rfl, rfl, .inr ⟨by decide, by decide⟩, _, rfl, sp, _, rfl, .inl hS, _, _, rfl, rfl, (by rw [el]; exact c2'), sp, _, _, _, rfl, rfl, hS, (by rw [el]; exact hv), ?_⟩
  refine ⟨_, _, rfl, rfl, (by show (0 : Int) < 2147483563; decide), _, rfl, _, _, rfl, rfl, _, _, rfl, rfl, .inl ⟨by omega, by omega⟩, _, _, rfl, rfl, ?_⟩
  exact r5 _ _ _ _
 ·exact r5 _ _ _ _
end
section
variable {P : Program} {w : World} {K : PySem.W.Frag} {mg : Str → Option Value} {base : Heap} {a : Adr} {d : Fds}
theorem zku (T : Txt K mg a d) : FnOk P w K mg base CX0 2 a.f_law_boughs d.f_law_boughs ["_law_state", "_law_many"] (zru K) := by
 have G_law_take := zdr (P := P) (w := w) (base := base) T
 refine T.K_law_boughs.ok sc_law_boughs (fun vs H Q E h => ?_) (fun cdv A outer s H vs Q E hr h => ?_)
 ·obtain ⟨pen, sp, ns, m, k, rfl, _⟩ := h
  rfl
 obtain ⟨pen, sp, ns, m, k, rfl, pn, k0, k1, m1, m9, q⟩ := h
 have p62 : (2 : Int) ^ 62 = 4611686018427387904 := by decide
 have tailA : ∃ t, PSs (zd0 CX0 P w K mg base ["_law_state", "_law_many", "_law_groups", "_law_k", "_law_up", "_law_old", "_law_boughs_here", "_law_kids", "_law_size", "_law_low", "_law_high"] "_law_boughs" (zai zcm) a.f_law_boughs cdv A outer s H E).nox ((zqn (zba zcm) 3).drop 3) t ∧ ∀ (D : zh7) (g bl l : Addr) (u lo hi : Int) (kids : List Int) (v3 v5 v8 : Option V) (xs : List V) (H5 : Hp), H5 l = some (.lst (kids.map V.int)) → H5 bl = some (.lst xs) → xs.length ≤ 100 →
   (∀ (v : V) (H6 : Hp), Same H5 H6 → Dn H6 (zrh u lo hi kids) v → D.nx [some (.ref pen), some (.int (m : Int)), some (.ref g), v3, some (.int u), v5, some (.ref bl), some (.ref l), v8, some (.int lo), some (.int hi)] (L2.upd H6 bl (.lst (xs ++ [v])))) →
   t D [some (.ref pen), some (.int (m : Int)), some (.ref g), v3, some (.int u), v5, some (.ref bl), some (.ref l), v8, some (.int lo), some (.int hi)] H5 := by
  refine ⟨_, (zah (zcb (zdx (K := K) PySem.F.plainAttrs_list PySem.F.slot_list_append PySem.F.type_list_append zb2 (pv 6) (zaa (za9 (zaa (pv 4) (zaa (pv 9) (zaa (pv 10) (zaa (zb0 zdi rfl T.m_tuple PyProof.Rows.boot_tuple (zaa (pv 7) zac)) zac))))) zac)))), ?_⟩
  intro D g bl l u lo hi kids v3 v5 v8 xs H5 hl hbl few nx
  refine ⟨_, rfl, .inl ⟨rfl, _, SqL.of hbl⟩, _, rfl, _, rfl, _, rfl, _, rfl, l, _, rfl, .inl ⟨SqL.of hl, fun tk htk => ?_⟩⟩
  refine ⟨zam (by show 4 ≤ 1000; decide), fun tb htb => ?_⟩
  have s1 := zad htk (.tup (kids.map V.int))
  have s2 := zad htb (.tup [.int u, .int lo, .int hi, .ref tk])
  have s12 := s1.trans s2
  refine ⟨bl, _, _, rfl, rfl, s12 _ _ hbl, zbd (by omega), ?_⟩
  exact nx _ _ s12 ⟨tb, _, rfl, zab, _, _, rfl, rfl, _, _, rfl, rfl, _, _, rfl, rfl, _, _, rfl, ⟨tk, _, rfl, s2 _ _ zab, zoz kids⟩, rfl⟩
 obtain ⟨tA, hA, rA⟩ := tailA
 refine ⟨_, (zae (zan (i := 2) sc_law_boughs.nd rfl (Or.inl rfl) (za7 zac))
   (zae (zbo PassesOwn.never rfl (zld rfl T.m_range (zaa zaf (zaa (pv 1) zac))) (zao (i := 3) sc_law_boughs.nd rfl (Or.inl rfl)) (zae (zan (i := 4) sc_law_boughs.nd rfl (Or.inr rfl) (zap zez (zag G_law_take hr.lv rfl T.K_law_take (zaa (pv 0) (zaa (pv 3) zac))) (zb0 zsd rfl T.m_int PyProof.Rows.boot_int (zaa (zbw zhc (zag G_law_take hr.lv rfl T.K_law_take (zaa (pv 0) (zaa zaf zac))) zaf (zat _)) zac))))
   (zae (zdu (i := 5) sc_law_boughs.nd rfl rfl rfl (sc0 := zai zcm) (XN := ["_law_state", "_law_many", "_law_groups", "_law_k", "_law_up", "_law_old", "_law_boughs_here", "_law_kids", "_law_size", "_law_low", "_law_high"]) (N' := ["_law_group", "_law_up"]) (n := 1) (kp := [4]) rfl (piL (K := K) (pv 2)) rfl rfl (by decide +kernel) (fun _ _ _ _ _ => (zao (i := 0) (by show List.Nodup (["_law_group", "_law_up"] : List Str); decide +kernel) rfl (Or.inl rfl))) (fun _ _ _ _ _ => (zbu (zar zbx (zaw (ixT (K := K)) (pv 0) zaf (fun _ _ => rfl)) (pv 1) (zat _)))) (fun _ _ _ _ _ => (pv 0)))
   (zah (za8 (PW.pt (zfu (zar (zdd hr.units) (pv 5) (za7 zac) (zat _)) (zfc (zar zhc (zag G_law_take hr.lv rfl T.K_law_take (zaa (pv 0) (zaa zaf zac))) zaf (zat _))))) (zah (zcb (zdx (K := K) PySem.F.plainAttrs_list PySem.F.slot_list_append PySem.F.type_list_append zb2 (zaw (ixT (K := K)) (zaw (ixL (K := K)) (pv 5) (zlv zh8 zaf) (fun _ _ => rfl)) zaf (fun _ _ => rfl)) (zaa (pv 3) zac)))) (zah (zcb (zdx (K := K) PySem.F.plainAttrs_list PySem.F.slot_list_insert PySem.F.type_list_insert zrl (pv 2) (zaa (zag G_law_take hr.lv rfl T.K_law_take (zaa (pv 0) (zaa (zap zb6 (za3 (zep (K := K)) rfl T.m_len PySem.boot_len (zaa (pv 2) zac)) zaf) zac))) (zaa (za9 (zaa (pv 4) (zaa (za7 (zaa (pv 3) zac)) zac))) zac))))))))))
   (zae (zan (i := 6) sc_law_boughs.nd rfl (Or.inl rfl) (za7 zac))
   (zae (zbo PassesOwn.never rfl (piL (K := K) (pv 2)) (pgT (K := K) (n := 2) rfl (za6 (zao (i := 4) sc_law_boughs.nd rfl (Or.inr rfl)) (za6 (zao (i := 7) sc_law_boughs.nd rfl (Or.inl rfl)) zcy))) (zae (zan (i := 8) sc_law_boughs.nd rfl (Or.inl rfl) (za3 (zep (K := K)) rfl T.m_len PySem.boot_len (zaa (pv 7) zac)))
   (zae (zhy (zaw (ixL (K := K)) (za7 (zaa (za9 (zaa (pv 8) (zaa (pv 8) zac))) (zaa (za9 (zaa zaf (zaa (pv 8) zac))) (zaa (za9 (zaa zaf (zaa zaf zac))) (zaa (za9 (zaa zaf (zaa zaf zac))) zac))))) (zag G_law_take hr.lv rfl T.K_law_take (zaa (pv 0) (zaa zaf zac))) (fun _ _ => rfl)) (pgT (K := K) (n := 2) rfl (za6 (zao (i := 9) sc_law_boughs.nd rfl (Or.inl rfl)) (za6 (zao (i := 10) sc_law_boughs.nd rfl (Or.inl rfl)) zcy))))
   (zae (za8 (zar zbx (zag G_law_take hr.lv rfl T.K_law_take (zaa (pv 0) (zaa zaf zac))) zaf (zat _)) (zae (zan (i := 9) sc_law_boughs.nd rfl (Or.inl rfl) (zag G_law_take hr.lv rfl T.K_law_take (zaa (pv 0) (zaa (zap zb6 (pv 8) zaf) zac))))
   (zah (zan (i := 10) sc_law_boughs.nd rfl (Or.inl rfl) (za3 (zhw rfl) rfl T.m_max PyProof.Rows.boot_max (zaa zaf (zaa (zap zb6 (pv 9) (zag G_law_take hr.lv rfl T.K_law_take (zaa (pv 0) (zaa (zap zb6 (zap zeo (pv 8) (pv 9)) zaf) zac)))) zac)))))) zaz)
   hA))))
   (zah (zau (pv 6))))))), ?_⟩
 refine ⟨zam (by decide), fun g hg => ?_⟩
 have ngp : pen ≠ g := zas pn.at_ hg
 refine ⟨_, rfl, _, _, rfl, ⟨by rw [p62]; omega, by rw [p62]; omega, by rw [p62]; omega, by rw [p62]; omega⟩, ?_⟩
 obtain ⟨Pv, hPv⟩ : ∃ Pv : Nat → St → Hp → Prop, ∀ i σ H2, Pv i σ H2 ↔ (∃ (v3 v4 v5 : Option V) (gs : List Grp) (kk : Int), σ = [some (.ref pen), some (.int (m : Int)), some (.ref g), v3, v4, v5, none, none, none, none, none] ∧ SameX pen H H2 ∧ H2 pen = some (.lst [.ref sp, .int kk]) ∧ k ≤ kk ∧ kk ≤ k + 4 * i ∧ GAt H H2 g gs ∧ GOk ((i : Int) + 1) gs) := ⟨_, fun _ _ _ => Iff.rfl⟩
 refine zhz (lo := 1) (n := ((m : Int) - 1).toNat) Pv ((hPv _ _ _).mpr ⟨none, none, none, [], k, rfl, Same.x (zad hg _), (zad hg _) _ _ pn.at_, Int.le_refl _, by omega, ⟨zab, hg, (fun _ z => nomatch z), (fun _ z => nomatch z), List.nodup_nil⟩, ⟨(fun _ z => nomatch z), List.Perm.refl _⟩⟩) ?_ ?_
 ·rintro i σ H2 hi pv0
  obtain ⟨v3, v4, v5, gs, kk, rfl, sx, hp2, kk0, kk1, GA, GK⟩ := (hPv _ _ _).mp pv0
  have few := GK.few
  have i9 : (i : Int) < 9 := by omega
  have el : ∀ l : List Grp, (l.map fun x => V.ref x.t).length = l.length := fun l => List.length_map _
  have e1 : 1 + (i : Int) = (i : Int) + 1 := by omega
  have e2 : ((i + 1 : Nat) : Int) + 1 = (i : Int) + 2 := by omega
  refine ⟨_, rfl, _, rfl, pen, sp, ns, _, kk, rfl, pn.to sx hp2, by omega, by omega, by omega, fun c c0 c1 => ?_⟩
  have sx3 := sx.trans (za2 (pen := pen) (H := H2) (.lst [.ref sp, .int (kk + 1)]))
  have GA3 := GA.pen (ys := [.ref sp, .int (kk + 1)]) ⟨_, pn.at_⟩ hp2
  refine ⟨_, rfl, pen, sp, ns, 3, kk + 1, rfl, pn.to sx3 zab, by omega, by omega, by decide, fun d d0 d1 => ?_⟩
  have sx4 := sx3.trans (za2 (pen := pen) (.lst [.ref sp, .int (kk + 1 + 1)]))
  have GA4 := GA3.pen (ys := [.ref sp, .int (kk + 1 + 1)]) ⟨_, pn.at_⟩ zab
  have hp4 : L2.upd (L2.upd H2 pen (.lst [.ref sp, .int (kk + 1)])) pen (.lst [.ref sp, .int (kk + 1 + 1)]) pen = some (.lst [.ref sp, .int (kk + 1 + 1)]) := zab
  generalize L2.upd (L2.upd H2 pen (.lst [.ref sp, .int (kk + 1)])) pen (.lst [.ref sp, .int (kk + 1 + 1)]) = H4 at sx4 GA4 hp4 ⊢
  refine ⟨_, _, rfl, rfl, .inr ⟨_, rfl, ?_⟩⟩
  refine ⟨_, _, rfl, rfl, .inl ⟨by omega, by omega⟩, ?_⟩
  obtain ⟨u, hu, u0, u1⟩ : ∃ u : Int, c * (if decide (d > 0) = true then 1 else 0) = u ∧ 0 ≤ u ∧ u < (i : Int) + 1 := by
   refine ⟨_, rfl, ?_, ?_⟩ <;> split <;> omega
  dsimp only
  rw [hu]
  refine ⟨_, rfl, g, rfl, ⟨_, SqL.of GA4.at_⟩, ?_⟩
  refine zco (K := K) (a := g) (xs := gs.map fun x => V.ref x.t) (fun j ys σ H5 => (∃ v, σ = [v, some (.int u)]) ∧ H5 = H4 ∧ ys = ((gs.take j).filter fun x => decide (x.up = u)).map fun x => V.ref x.t) ⟨⟨none, rfl⟩, rfl, rfl⟩ (fun j ys σ H5 hj pv => ?_) (fun j ys σ H5 hj pv => ?_) (fun j x ys σ H5 hx pv => ?_) (fun ys σ H5 pv ol hol => ?_)
  ·obtain ⟨_, _, rfl⟩ := pv
   rw [el]
   have := List.length_filter_le (fun x : Grp => decide (x.up = u)) (gs.take j)
   rw [List.length_take] at this
   exact zam (by omega)
  ·rw [pv.2.1]
   exact SqL.of GA4.at_
  ·obtain ⟨⟨v, rfl⟩, rfl, rfl⟩ := pv
   rw [List.getElem?_map] at hx
   obtain ⟨y, hy, rfl⟩ := Option.map_eq_some_iff.mp hx
   have et : gs.take (j + 1) = gs.take j ++ [y] := by rw [List.take_add_one, hy, Option.toList_some]
   refine ⟨_, rfl, y.t, _, _, _, rfl, rfl, sqT (GA4.tup y (List.mem_of_getElem? hy)), at0, _, rfl, rfl, _, rfl, ?_⟩
   by_cases cc : y.up = u
   ·refine zfa (by rw [cc]) ?_
    refine ⟨_, rfl, ⟨_, rfl⟩, rfl, ?_⟩
    rw [et, List.filter_append, List.filter_cons_of_pos (by simpa using cc), List.map_append]
    rfl
   ·refine zb1 (fun z => cc (by injection z)) ?_
    refine ⟨⟨_, rfl⟩, rfl, ?_⟩
    rw [et, List.filter_append, List.filter_cons_of_neg (by simpa using cc), List.filter_nil, List.append_nil]
  obtain ⟨_, rfl, rfl⟩ := pv
  have nop : ol ≠ pen := Ne.symm (zas hp4 hol)
  rw [el, List.take_length] at *
  generalize hold : gs.filter (fun x => decide (x.up = u)) = old at *
  have omem : ∀ x ∈ old, x ∈ gs := fun x hx => by rw [← hold] at hx; exact (List.mem_filter.mp hx).1
  have s6 := zad hol (.lst (old.map fun x => V.ref x.t))
  have GA6 := GA4.same s6
  have hp6 := s6 _ _ hp4
  have sx6 := sx4.trans (Same.x s6)
  have hol6 : L2.upd H5 ol (.lst (old.map fun x => V.ref x.t)) ol = some (.lst (old.map fun x => V.ref x.t)) := zab
  generalize L2.upd H5 ol (.lst (old.map fun x => V.ref x.t)) = H6 at s6 GA6 hp6 sx6 hol6 ⊢
  refine ⟨_, rfl, zam (by decide), fun nl0 hnl0 => ?_⟩
  have s7 := zad hnl0 (.lst [])
  have GA7 := GA6.same s7
  have hp7 := s7 _ _ hp6
  have sx7 := sx6.trans (Same.x s7)
  have hol7 := s7 _ _ hol6
  have hnl07 : L2.upd H6 nl0 (.lst []) nl0 = some (.lst []) := zab
  generalize L2.upd H6 nl0 (.lst []) = H7 at s7 GA7 hp7 sx7 hol7 hnl07 ⊢
  refine ⟨.list (old.map zpq), .list [], ⟨ol, _, rfl, hol7, zqf GA7 old omem⟩, ⟨nl0, _, rfl, hnl07, rfl⟩, zoq old, zgv, _, rfl, ?_⟩
  rw [zvr]
  have new : ∀ (k3 : Int) (H8 : Hp) (v5 : Option V), k ≤ k3 → k3 ≤ k + 4 * i + 4 → SameX pen H H8 → H8 pen = some (.lst [.ref sp, .int k3]) → GAt H H8 g gs → ∀ (nl nt : Addr) (j : Nat), H8 nl = none → L2.upd H8 nl (.lst [.int (1 + (i : Int))]) nt = none → j ≤ gs.length →
    Pv (i + 1) [some (.ref pen), some (.int (m : Int)), some (.ref g), some (.int (1 + (i : Int))), some (.int u), v5, none, none, none, none, none] (L2.upd (L2.upd (L2.upd H8 nl (.lst [.int (1 + (i : Int))])) nt (.tup [.int u, .ref nl])) g (.lst ((gs.map fun x => V.ref x.t).take j ++ V.ref nt :: (gs.map fun x => V.ref x.t).drop j))) := by
   intro k3 H8 v5 k30 k31 sx8 hp8 GA8 nl nt j hnl hnt hj
   have s9 := (zad hnl (.lst [.int (1 + (i : Int))])).trans (zad hnt (.tup [.int u, .ref nl]))
   rw [← List.map_take, ← List.map_drop]
   refine (hPv _ _ _).mpr ⟨_, _, _, gs.take j ++ ⟨nt, u, nl, [1 + (i : Int)]⟩ :: gs.drop j, k3, rfl, SameX.put (sx8.trans (Same.x s9)) hg (Ne.symm ngp) (s9 _ _ GA8.at_), ?_, k30, by push_cast; omega, ?_, ?_⟩
   ·rw [zak ngp]
    exact s9 _ _ hp8
   ·exact GAt.ins (pre := gs.take j) (post := gs.drop j) (by rw [List.take_append_drop]; exact GA8) (sx8.free ⟨_, hp8⟩ hnl) hnl hnt
   ·rw [e2, e1]
    exact GOk.ins (k := i) (by rw [List.take_append_drop]; exact GK) u0 u1
  by_cases c5 : old = []
  ·refine zgp (by rw [c5]; rfl) ?_
   refine zek ?_
   refine ⟨_, rfl, .inl ⟨rfl, _, SqL.of GA7.at_⟩, _, rfl, _, rfl, g, _, rfl, .inl (SqL.of GA7.at_), ?_⟩
   refine ⟨_, _, rfl, rfl, pen, sp, ns, _, kk + 1 + 1, rfl, pn.to sx7 hp7, by omega, by omega, (by rw [el]; omega), fun j j0 j1 => ?_⟩
   rw [el] at j1
   have sx8 := sx7.trans (za2 (pen := pen) (.lst [.ref sp, .int (kk + 1 + 1 + 1)]))
   have GA8 := GA7.pen (ys := [.ref sp, .int (kk + 1 + 1 + 1)]) ⟨_, pn.at_⟩ hp7
   have hp8 : L2.upd H7 pen (.lst [.ref sp, .int (kk + 1 + 1 + 1)]) pen = some (.lst [.ref sp, .int (kk + 1 + 1 + 1)]) := zab
   generalize L2.upd H7 pen (.lst [.ref sp, .int (kk + 1 + 1 + 1)]) = H8 at sx8 GA8 hp8 ⊢
   refine ⟨_, rfl, _, rfl, zam (by show 1 ≤ 1000; decide), fun nl hnl => ?_⟩
   refine ⟨zam (by show 2 ≤ 1000; decide), fun nt hnt => ?_⟩
   have s9 := (zad hnl (.lst [.int (1 + (i : Int))])).trans (zad hnt (.tup [.int u, .ref nl]))
   refine ⟨g, _, _, _, rfl, rfl, s9 _ _ GA8.at_, j0, (by rw [el]; omega), (by rw [el]; exact zbd (by omega)), ?_⟩
   exact new (kk + 1 + 1 + 1) H8 _ (by omega) (by omega) sx8 hp8 GA8 nl nt j.toNat hnl hnt (by omega)
  ·refine ziq (fun z => c5 (by cases old with | nil => rfl | cons x r => cases z)) ?_
   refine ⟨_, rfl, pen, sp, ns, 3, kk + 1 + 1, rfl, pn.to sx7 hp7, by omega, by omega, by decide, fun e e0 e1' => ?_⟩
   have sx8 := sx7.trans (za2 (pen := pen) (.lst [.ref sp, .int (kk + 1 + 1 + 1)]))
   have GA8 := GA7.pen (ys := [.ref sp, .int (kk + 1 + 1 + 1)]) ⟨_, pn.at_⟩ hp7
   have hp8 : L2.upd H7 pen (.lst [.ref sp, .int (kk + 1 + 1 + 1)]) pen = some (.lst [.ref sp, .int (kk + 1 + 1 + 1)]) := zab
   have hol8 : L2.upd H7 pen (.lst [.ref sp, .int (kk + 1 + 1 + 1)]) ol = some (.lst (old.map fun x => V.ref x.t)) := by rw [zak nop]; exact hol7
   generalize L2.upd H7 pen (.lst [.ref sp, .int (kk + 1 + 1 + 1)]) = H8 at sx8 GA8 hp8 hol8 ⊢
   refine ⟨_, _, rfl, rfl, _, rfl, ?_⟩
   refine zcv (fun c6 => ?_) (fun c6 => ?_)
   ·have lo1 : 0 < old.length := List.length_pos_iff.mpr c5
    obtain ⟨x, hxo⟩ : ∃ x, old[old.length - 1]? = some x := ⟨_, List.getElem?_eq_getElem (by omega)⟩
    have hx := omem x (List.mem_of_getElem? hxo)
    have lox : old.length ≤ gs.length := by rw [← hold]; exact List.length_filter_le _ _
    obtain ⟨pre, post, egs⟩ := List.append_of_mem hx
    have ty := GA8.tup x hx
    have ly := GA8.lst x hx
    refine ⟨_, rfl, _, rfl, ol, _, _, .ref x.t, rfl, rfl, SqL.of hol8, ?_, x.t, _, _, _, rfl, rfl, sqT ty, at1, .inl ⟨rfl, _, SqL.of ly.1⟩, _, rfl, x.l, _, _, rfl, rfl, ly.1, ?_, ?_⟩
    ·unfold atI ixN
     rw [el, if_neg (by omega), if_pos (by omega)]
     show (List.map _ old)[((-1 : Int) + (old.length : Int)).toNat]? = _
     rw [show ((-1 : Int) + (old.length : Int)).toNat = old.length - 1 by omega, List.getElem?_map, hxo]
     rfl
    ·have h1 := GK.perm.length_eq
     rw [List.length_map, List.length_range', egs, List.flatMap_append, List.flatMap_cons, List.length_append, List.length_append] at h1
     rw [List.length_map]
     exact zbd (by omega)
    have G9 : GAt H _ g _ := GAt.put (k := 1 + (i : Int)) (pre := pre) (post := post) (x := x) (by rw [← egs]; exact GA8)
    refine (hPv _ _ _).mpr ⟨_, _, _, _, kk + 1 + 1 + 1, rfl, SameX.put sx8 ly.2.1 (fun z => by have := pn.at_; rw [← z, ly.2.1] at this; cases this) ly.1, ?_, by omega, by push_cast; omega, G9, ?_⟩
    ·rw [zak (fun z => by have := pn.at_; rw [z, ly.2.1] at this; cases this)]
     exact hp8
    ·rw [e2, e1]
     exact GOk.put (k := i) (by rw [← egs]; exact GK)
   ·refine ⟨_, rfl, .inl ⟨rfl, _, SqL.of GA8.at_⟩, _, rfl, _, rfl, g, _, rfl, .inl (SqL.of GA8.at_), ?_⟩
    refine ⟨_, _, rfl, rfl, pen, sp, ns, _, kk + 1 + 1 + 1, rfl, pn.to sx8 hp8, by omega, by omega, (by rw [el]; omega), fun j j0 j1 => ?_⟩
    rw [el] at j1
    have sx9 := sx8.trans (za2 (pen := pen) (.lst [.ref sp, .int (kk + 1 + 1 + 1 + 1)]))
    have GA9 := GA8.pen (ys := [.ref sp, .int (kk + 1 + 1 + 1 + 1)]) ⟨_, pn.at_⟩ hp8
    have hp9 : L2.upd H8 pen (.lst [.ref sp, .int (kk + 1 + 1 + 1 + 1)]) pen = some (.lst [.ref sp, .int (kk + 1 + 1 + 1 + 1)]) := zab
    generalize L2.upd H8 pen (.lst [.ref sp, .int (kk + 1 + 1 + 1 + 1)]) = H9 at sx9 GA9 hp9 ⊢
    refine ⟨_, rfl, _, rfl, zam (by show 1 ≤ 1000; decide), fun nl hnl => ?_⟩
    refine ⟨zam (by show 2 ≤ 1000; decide), fun nt hnt => ?_⟩
    have s10 := (zad hnl (.lst [.int (1 + (i : Int))])).trans (zad hnt (.tup [.int u, .ref nl]))
    refine ⟨g, _, _, _, rfl, rfl, s10 _ _ GA9.at_, j0, (by rw [el]; omega), (by rw [el]; exact zbd (by omega)), ?_⟩
    exact new (kk + 1 + 1 + 1 + 1) H9 _ (by omega) (by omega) sx9 hp9 GA9 nl nt j.toNat hnl hnt (by omega)
 ·rintro σ H2 pv0
  obtain ⟨v3, v4, v5, gs, kk, rfl, sx, hp2, kk0, kk1, GA, GK⟩ := (hPv _ _ _).mp pv0
  have em : (((m : Int) - 1).toNat : Int) + 1 = (m : Int) := by omega
  rw [em] at GK
  have few := GK.few
  have el : (gs.map fun x => V.ref x.t).length = gs.length := List.length_map _
  refine ⟨zam (by decide), fun bl hbl => ?_⟩
  have nbH : H bl = none := sx.free ⟨_, hp2⟩ hbl
  have nbp : bl ≠ pen := fun z => by rw [z, hp2] at hbl; cases hbl
  have ngb : g ≠ bl := zas GA.at_ hbl
  have s3 := zad hbl (.lst [])
  refine ⟨_, rfl, g, rfl, ⟨_, SqL.of (s3 _ _ GA.at_)⟩, ?_⟩
  obtain ⟨Pw, hPw⟩ : ∃ Pw : Nat → St → Hp → Prop, ∀ j σ H3, Pw j σ H3 ↔ (∃ (v3 v4 v5 v7 v8 v9 v10 : Option V) (kc : Int) (bs : List PyData) (xs : List V), σ = [some (.ref pen), some (.int (m : Int)), some (.ref g), v3, v4, v5, some (.ref bl), v7, v8, v9, v10] ∧ SameX pen H2 H3 ∧ H3 pen = some (.lst [.ref sp, .int kc]) ∧ kk ≤ kc ∧ kc ≤ kk + 4 * j ∧ H3 bl = some (.lst xs) ∧ DnL H3 bs xs ∧ bs.length = j ∧ (∀ b ∈ bs, zfh m b = true) ∧ bs.flatMap zjy = (gs.take j).flatMap (·.kids) ∧ bs.all (zbr 3) = true) := ⟨_, fun _ _ _ => Iff.rfl⟩
  refine zbz (K := K) (a := g) (xs := gs.map fun x => V.ref x.t) Pw ((hPw _ _ _).mpr ⟨_, _, _, _, _, _, _, kk, [], [], rfl, Same.x s3, s3 _ _ hp2, Int.le_refl _, by omega, zab, rfl, rfl, (fun _ z => nomatch z), rfl, rfl⟩) (fun j σ H3 _ z => ?_) ?_ ?_
  ·obtain ⟨_, _, _, _, _, _, _, _, _, _, _, sx3, _⟩ := (hPw _ _ _).mp z
   exact SqL.of (sx3 _ _ (Ne.symm ngp) GA.at_)
  ·rintro j y σ H3 hy pv0
   obtain ⟨v3, v4, v5, v7, v8, v9, v10, kc, bs, xs, rfl, sx3, hp3, kc0, kc1, hb3, dn, ln, okb, ki, fl⟩ := (hPw _ _ _).mp pv0
   rw [List.getElem?_map] at hy
   obtain ⟨x, hx', rfl⟩ := Option.map_eq_some_iff.mp hy
   have hm := List.mem_of_getElem? hx'
   have hj : j < gs.length := (List.getElem?_eq_some_iff.mp hx').1
   have lx := GA.lst x hm
   have nlp : x.l ≠ pen := fun z => by have := pn.at_; rw [← z, lx.2.1] at this; cases this
   have hxl := sx3 _ _ nlp lx.1
   have gx := GK.each x hm
   have ekl : (x.kids.map V.int).length = x.kids.length := List.length_map _
   have kp := List.length_pos_iff.mpr gx.2.1
   have kl : x.kids.length ≤ 9 := by
    have pk := GK.perm.length_eq
    rw [List.length_map, List.length_range'] at pk
    obtain ⟨l1, l2, e⟩ := List.append_of_mem hm
    rw [e, List.flatMap_append, List.flatMap_cons, List.length_append, List.length_append] at pk
    omega
   have lys := dn.length
   refine ⟨x.t, _, rfl, sqT ((SameX.tup hp2 sx3) _ _ (GA.tup x hm)), rfl, _, _, rfl, _, _, rfl, rfl, ?_⟩
   refine ⟨_, rfl, x.l, _, rfl, .inl (SqL.of hxl), ?_⟩
   rw [ekl]
   have done : ∀ (lo hi kd : Int) (H5 : Hp) (w3 w5 w8 : Option V), SameX pen H3 H5 → H5 pen = some (.lst [.ref sp, .int kd]) → kc ≤ kd → kd ≤ kc + 4 → H5 bl = some (.lst xs) → 0 ≤ lo → lo ≤ hi → 1 ≤ hi → hi ≤ x.kids.length → ∀ (v : V) (H6 : Hp), Same H5 H6 → Dn H6 (zrh x.up lo hi x.kids) v →
     Pw (j + 1) [some (.ref pen), some (.int (m : Int)), some (.ref g), w3, some (.int x.up), w5, some (.ref bl), some (.ref x.l), w8, some (.int lo), some (.int hi)] (L2.upd H6 bl (.lst (xs ++ [v]))) := by
    intro lo hi kd H5 w3 w5 w8 sx5 hp5 kd0 kd1 hb5 l0 l1 h1 h2 v H6 s6 dv
    have hb6 := s6 _ _ hb5
    have fb := zsj x.up lo hi x.kids (by omega)
    have d6 := DnL.same s6 _ _ (DnL.tupS (SameX.tup hp3 sx5) fl dn)
    refine (hPw _ _ _).mpr ⟨_, _, _, _, _, _, _, kd, bs ++ [zrh x.up lo hi x.kids], xs ++ [v], rfl, SameX.put ((sx3.trans sx5).trans (Same.x s6)) hbl nbp hb6, ?_, by omega, by push_cast; omega, zab, ?_, ?_, fun b hb' => ?_, ?_, ?_⟩
    ·rw [zak (Ne.symm nbp)]
     exact s6 _ _ hp5
    ·exact (DnL.pen hb6 fl d6).append ⟨v, [], rfl, Dn.pen hb6 fb dv, rfl⟩
    ·rw [List.length_append, List.length_singleton, ln]
    ·rcases List.mem_append.mp hb' with z | z
     ·exact okb b z
     ·rw [List.mem_singleton.mp z]
      exact zwi gx.1 gx.2.1 gx.2.2 l0 l1 h1 h2
    ·rw [List.flatMap_append, ki, zmi hx']
     simp [zt8]
    ·rw [List.all_append, fl]
     simp [fb]
   refine ⟨_, rfl, _, rfl, zam (by show 2 ≤ 1000; decide), fun t1 ht1 => ?_⟩
   refine ⟨_, rfl, zam (by show 2 ≤ 1000; decide), fun t2 ht2 => ?_⟩
   refine ⟨zam (by show 2 ≤ 1000; decide), fun t3 ht3 => ?_⟩
   refine ⟨zam (by show 2 ≤ 1000; decide), fun t4 ht4 => ?_⟩
   refine ⟨zam (by show 4 ≤ 1000; decide), fun tl htl => ?_⟩
   have q1 := zad ht1 (.tup [.int (x.kids.length : Nat), .int (x.kids.length : Nat)])
   have q2 := zad ht2 (.tup [.int 0, .int (x.kids.length : Nat)])
   have q3 := zad ht3 (.tup [.int 1, .int 1])
   have q4 := zad ht4 (.tup [.int 0, .int 1])
   have q5 := zad htl (.lst [.ref t1, .ref t2, .ref t3, .ref t4])
   have sA := (((q1.trans q2).trans q3).trans q4).trans q5
   have e1 := q5 _ _ (q4 _ _ (q3 _ _ (q2 _ _ zab)))
   have e2 := q5 _ _ (q4 _ _ (q3 _ _ zab))
   have e3 := q5 _ _ (q4 _ _ zab)
   have e4 := q5 _ _ zab
   have e5 : L2.upd (L2.upd (L2.upd (L2.upd (L2.upd H3 t1 (.tup [.int (x.kids.length : Nat), .int (x.kids.length : Nat)])) t2 (.tup [.int 0, .int (x.kids.length : Nat)])) t3 (.tup [.int 1, .int 1])) t4 (.tup [.int 0, .int 1])) tl (.lst [.ref t1, .ref t2, .ref t3, .ref t4]) tl = some (.lst [.ref t1, .ref t2, .ref t3, .ref t4]) := zab
   generalize L2.upd (L2.upd (L2.upd (L2.upd (L2.upd H3 t1 (.tup [.int (x.kids.length : Nat), .int (x.kids.length : Nat)])) t2 (.tup [.int 0, .int (x.kids.length : Nat)])) t3 (.tup [.int 1, .int 1])) t4 (.tup [.int 0, .int 1])) tl (.lst [.ref t1, .ref t2, .ref t3, .ref t4]) = H4 at sA e1 e2 e3 e4 e5 ⊢
   have sxA := sx3.trans (Same.x (pen := pen) sA)
   have hpA := sA _ _ hp3
   have hbA := sA _ _ hb3
   have pn3 := pn.to (sx.trans sxA) hpA
   refine ⟨_, rfl, pen, sp, ns, 4, kc, rfl, pn3, by omega, by omega, by decide, fun y y0 y1 => ?_⟩
   have ntl : tl ≠ pen := fun z => by rw [z, hpA] at e5; cases e5
   obtain ⟨tt, lo', hi', hat, ht, g1, g2, g3, g4⟩ : ∃ (tt : Addr) (lo' hi' : Int), atI [V.ref t1, V.ref t2, V.ref t3, V.ref t4] y = some (.ref tt) ∧ H4 tt = some (.tup [.int lo', .int hi']) ∧ 0 ≤ lo' ∧ lo' ≤ hi' ∧ 1 ≤ hi' ∧ hi' ≤ x.kids.length := by
    have e : y = 0 ∨ y = 1 ∨ y = 2 ∨ y = 3 := by omega
    rcases e with e | e | e | e <;> rw [e]
    ·exact ⟨t1, _, _, rfl, e1, by omega, by omega, by omega, by omega⟩
    ·exact ⟨t2, _, _, rfl, e2, by omega, by omega, by omega, by omega⟩
    ·exact ⟨t3, _, _, rfl, e3, by omega, by omega, by omega, by omega⟩
    ·exact ⟨t4, _, _, rfl, e4, by omega, by omega, by omega, by omega⟩
   have sxB : SameX pen H3 (L2.upd H4 pen (.lst [.ref sp, .int (kc + 1)])) := (Same.x (pen := pen) sA).trans (za2 _)
   have htB : L2.upd H4 pen (.lst [.ref sp, .int (kc + 1)]) tt = some (.tup [.int lo', .int hi']) := by rw [zak (fun z => by rw [z, hpA] at ht; cases ht)]; exact ht
   have hpB : L2.upd H4 pen (.lst [.ref sp, .int (kc + 1)]) pen = some (.lst [.ref sp, .int (kc + 1)]) := zab
   refine ⟨tl, _, _, _, rfl, rfl, SqL.of (by rw [zak ntl]; exact e5), hat, ?_⟩
   generalize L2.upd H4 pen (.lst [.ref sp, .int (kc + 1)]) = H5 at sxB htB hpB ⊢
   refine ⟨tt, _, rfl, sqT htB, rfl, _, _, rfl, _, _, rfl, rfl, ?_⟩
   have pnB := pn.to ((sx.trans sx3).trans sxB) hpB
   refine ⟨_, rfl, pen, sp, ns, 3, kc + 1, rfl, pnB, by omega, by omega, by decide, fun z z0 z1 => ?_⟩
   have sxC := sxB.trans (za2 (pen := pen) (.lst [.ref sp, .int (kc + 1 + 1)]))
   have hpC : L2.upd H5 pen (.lst [.ref sp, .int (kc + 1 + 1)]) pen = some (.lst [.ref sp, .int (kc + 1 + 1)]) := zab
   generalize L2.upd H5 pen (.lst [.ref sp, .int (kc + 1 + 1)]) = H6 at sxC hpC ⊢
   refine ⟨rfl, _, rfl, ?_⟩
   refine zcv (fun c => ?_) (fun c => ?_)
   ·have pnC := pn.to ((sx.trans sx3).trans sxC) hpC
    refine ⟨_, rfl, _, rfl, _, _, rfl, rfl, pen, sp, ns, _, kc + 1 + 1, rfl, pnC, by omega, by omega, by omega, fun lo lo0 lo1 => ?_⟩
    have sxD := sxC.trans (za2 (pen := pen) (.lst [.ref sp, .int (kc + 1 + 1 + 1)]))
    have hpD : L2.upd H6 pen (.lst [.ref sp, .int (kc + 1 + 1 + 1)]) pen = some (.lst [.ref sp, .int (kc + 1 + 1 + 1)]) := zab
    generalize L2.upd H6 pen (.lst [.ref sp, .int (kc + 1 + 1 + 1)]) = H7 at sxD hpD ⊢
    have pnD := pn.to ((sx.trans sx3).trans sxD) hpD
    refine ⟨_, rfl, _, rfl, _, rfl, _, rfl, _, _, rfl, rfl, _, _, rfl, rfl, pen, sp, ns, _, kc + 1 + 1 + 1, rfl, pnD, by omega, by omega, by omega, fun w w0 w1 => ?_⟩
    have sxE := sxD.trans (za2 (pen := pen) (.lst [.ref sp, .int (kc + 1 + 1 + 1 + 1)]))
    refine ⟨_, _, rfl, rfl, _, _, rfl, ?_⟩
    have hb7 := sxE _ _ nbp hb3
    refine rA _ g bl x.l x.up lo _ x.kids _ _ _ xs _ (sxE _ _ nlp hxl) hb7 (by omega) (done lo _ (kc + 1 + 1 + 1 + 1) _ _ _ _ sxE zab (by omega) (by omega) hb7 lo0 ?_ ?_ ?_)
    all_goals split <;> omega
   ·have hb6 := sxC _ _ nbp hb3
    exact rA _ g bl x.l x.up lo' hi' x.kids _ _ _ xs _ (sxC _ _ nlp hxl) hb6 (by omega) (done lo' hi' (kc + 1 + 1) _ _ _ _ sxC hpC (by omega) (by omega) hb6 g1 g2 g3 g4)
  ·rintro σ H3 pv0
   obtain ⟨v3, v4, v5, v7, v8, v9, v10, kc, bs, xs, rfl, sx3, hp3, kc0, kc1, hb3, dn, ln, okb, ki, fl⟩ := (hPw _ _ _).mp pv0
   rw [el] at ln ki kc1
   rw [List.take_length] at ki
   exact ⟨_, rfl, q bl bs xs kc H3 (sx.trans sx3) hp3 (by omega) (by omega) hb3 nbH dn ⟨okb, by rw [ki]; exact GK.perm⟩ (by omega) fl⟩
end
section
variable {P : Program} {w : World} {K : PySem.W.Frag} {mg : Str → Option Value} {base : Heap} {a : Adr} {d : Fds}
theorem zmn (T : Txt K mg a d) : FnOk P w K mg base CX0 2 a.f_law_cross d.f_law_cross ["_law_state", "_law_many", "_law_most"] (zpw K) := by
 have G_law_take := zdr (P := P) (w := w) (base := base) T
 refine T.K_law_cross.ok sc_law_cross (fun vs H Q E h => ?_) (fun cdv A outer s H vs Q E hr h => ?_)
 ·obtain ⟨pen, sp, ns, m, most, k, rfl, _⟩ := h
  rfl
 obtain ⟨pen, sp, ns, m, most, k, rfl, pn, k0, k1, m1, m9, mo0, mo8, q⟩ := h
 have p62 : (2 : Int) ^ 62 = 4611686018427387904 := by decide
 have tailC : ∃ t, PSs (zd0 CX0 P w K mg base ["_law_state", "_law_many", "_law_most", "_law_cross_here", "_law_turn", "_law_one", "_law_other", "_law_way", "_law_far", "_law_pairs", "_law_total", "_law_top"] "_law_cross" (zai zbv) a.f_law_cross cdv A outer s H E).nox ((zu7 (zba zbv) [(1, false), (3, true)]).drop 3) t ∧ ∀ (D : zh7) (cl pl : Addr) (far kd : Int) (ps : List PyData) (xs zs : List V) (v4 v5 v6 v7 v10 v11 : Option V) (H5 : Hp), Pen K H5 pen sp ns kd → 0 ≤ kd → kd ≤ 950000 → H5 pl = some (.lst xs) → zje H5 m ps xs → 0 < ps.length → H5 cl = some (.lst zs) → zs.length ≤ 100 → cl ≠ pen → pl ≠ pen →
   (∀ (v : V) (top : Int) (w10 : Option V) (H6 : Hp), SameX pen H5 H6 → H6 pen = some (.lst [.ref sp, .int (kd + 1 + 1)]) → Dn H6 (.tuple [.str ("most" : Str), .int top, .tuple ps]) v → H6 cl = some (.lst zs) → D.nx [some (.ref pen), some (.int (m : Int)), some (.int most), some (.ref cl), v4, v5, v6, v7, some (.int far), some (.ref pl), w10, some (.int top)] (L2.upd H6 cl (.lst (zs ++ [v])))) →
   t D [some (.ref pen), some (.int (m : Int)), some (.int most), some (.ref cl), v4, v5, v6, v7, some (.int far), some (.ref pl), v10, v11] H5 := by
  refine ⟨_, (zae (zan (i := 10) sc_law_cross.nd rfl (Or.inl rfl) (za3 (ze1 rfl) rfl T.m_sum PyProof.Rows.boot_sum (zaa (zef (sc0 := zai zbv) (XN := ["_law_state", "_law_many", "_law_most", "_law_cross_here", "_law_turn", "_law_one", "_law_other", "_law_way", "_law_far", "_law_pairs", "_law_total", "_law_top"]) (N' := ["_law_c", "_law_number"]) (n := 2) (kp := []) rfl (piL (K := K) (pv 9)) rfl rfl (by decide +kernel) (fun _ _ _ _ _ => (pgT (K := K) (n := 2) rfl (za6 (zao (i := 0) (by show List.Nodup (["_law_c", "_law_number"] : List Str); decide +kernel) rfl (Or.inl rfl)) (za6 (zao (i := 1) (by show List.Nodup (["_law_c", "_law_number"] : List Str); decide +kernel) rfl (Or.inl rfl)) zcy)))) (fun _ _ _ _ _ => zgc) (fun _ _ _ _ _ => (za3 (zhw rfl) rfl T.m_max PyProof.Rows.boot_max (zaa zaf (zaa (pv 1) zac))))) zac)))
   (zae (zan (i := 11) sc_law_cross.nd rfl (Or.inl rfl) (zap zeo (zap zeo (zag G_law_take hr.lv rfl T.K_law_take (zaa (pv 0) (zaa (zap zb6 (pv 10) zaf) zac))) zaf) (zap zez (pv 8) (zap zqb (zag G_law_take hr.lv rfl T.K_law_take (zaa (pv 0) (zaa zaf zac))) zaf))))
   (zah (zcb (zdx (K := K) PySem.F.plainAttrs_list PySem.F.slot_list_append PySem.F.type_list_append zb2 (pv 3) (zaa (za9 (zaa zc0 (zaa (pv 11) (zaa (zb0 zdi rfl T.m_tuple PyProof.Rows.boot_tuple (zaa (pv 9) zac)) zac)))) zac)))))), ?_⟩
  intro D cl pl far kd ps xs zs v4 v5 v6 v7 v10 v11 H5 pn5 kd0 kd1 hpl pt p0 hcl zfew ncp npp nx
  have few := pt.few
  have lx := pt.dn.length
  refine ⟨_, rfl, pl, rfl, ⟨_, SqL.of hpl⟩, ?_⟩
  refine zco (K := K) (a := pl) (xs := xs) (fun i ys σ H7 => (∃ v v', σ = [v, v']) ∧ H7 = H5 ∧ ∃ nl : List Int, ys = nl.map V.int ∧ 0 ≤ nl.sum ∧ nl.length = i) ⟨⟨none, none, rfl⟩, rfl, [], rfl, Int.le_refl _, rfl⟩ (fun i ys σ H7 hi pv => ?_) (fun i ys σ H7 hi pv => ?_) (fun i x ys σ H7 hx pv => ?_) (fun ys σ H7 pv l hl => ?_)
  ·obtain ⟨_, _, nl, rfl, _, h1⟩ := pv
   rw [List.length_map]
   exact zam (by omega)
  ·rw [pv.2.1]
   exact SqL.of hpl
  ·obtain ⟨⟨v, v', rfl⟩, rfl, nl, rfl, h0, h1⟩ := pv
   obtain ⟨dd, hdd, hx'⟩ := pt.dn.get hx
   have pk := (List.all_eq_true.mp pt.ok) dd (List.mem_of_getElem? hdd)
   obtain ⟨r, xa, nb, rfl, hr'⟩ : ∃ (r : Addr) (xa : V) (nb : Int), x = .ref r ∧ H7 r = some (.tup [xa, .int nb]) := by
    unfold zga at pk
    split at pk
    next dx dy =>
     obtain ⟨iy, rfl⟩ := zme pk
     obtain ⟨r, ys, rfl, hr2, xa, r1, rfl, ha, xb, r2, rfl, hb, hnil⟩ := zgz hx'
     cases (show r2 = [] from hnil)
     cases zex hb
     exact ⟨r, xa, iy, rfl, hr2⟩
    next => cases pk
   refine ⟨r, _, rfl, sqT hr', rfl, _, _, rfl, _, _, rfl, rfl, ?_⟩
   refine ⟨_, rfl, _, _, rfl, ⟨_, _, rfl⟩, rfl, nl ++ [if nb > 0 then nb else 0], ?_, ?_, ?_⟩
   ·rw [List.map_append]
    rfl
   ·rw [List.sum_append]
    have : 0 ≤ (if nb > 0 then nb else 0) := by split <;> omega
    simp only [List.sum_cons, List.sum_nil]
    omega
   ·rw [List.length_append, List.length_singleton, h1]
  obtain ⟨_, rfl, nl, rfl, h0, _⟩ := pv
  have s7 := zad hl (.lst (nl.map V.int))
  have pn7 := pn5.to (Same.x s7) (s7 _ _ pn5.at_)
  refine ⟨l, nl, rfl, SqL.of zab, ?_⟩
  have hcl7 := s7 _ _ hcl
  have hpl7 := s7 _ _ hpl
  have d7 := DnL.same s7 _ _ pt.dn
  have x7 : SameX pen H7 _ := Same.x (pen := pen) s7
  generalize L2.upd H7 l (.lst (nl.map V.int)) = H8 at s7 pn7 hcl7 hpl7 d7 x7 ⊢
  refine ⟨_, rfl, _, rfl, _, _, rfl, rfl, pen, sp, ns, _, kd, rfl, pn7, by omega, by omega, by omega, fun x x0 x1 => ?_⟩
  have x8 := x7.trans (za2 (pen := pen) (.lst [.ref sp, .int (kd + 1)]))
  have hcl8 : L2.upd H8 pen (.lst [.ref sp, .int (kd + 1)]) cl = some (.lst zs) := by rw [zak ncp]; exact hcl7
  have hpl8 : L2.upd H8 pen (.lst [.ref sp, .int (kd + 1)]) pl = some (.lst xs) := by rw [zak npp]; exact hpl7
  have d8 := DnL.pen (ys := [.ref sp, .int (kd + 1)]) pn7.at_ pt.flat d7
  have pn8 := pn7.to (za2 (pen := pen) (H := H8) (.lst [.ref sp, .int (kd + 1)])) zab
  generalize L2.upd H8 pen (.lst [.ref sp, .int (kd + 1)]) = H9 at x8 hcl8 hpl8 d8 pn8 ⊢
  refine ⟨_, _, rfl, rfl, _, rfl, _, rfl, pen, sp, ns, 4, kd + 1, rfl, pn8, by omega, by omega, by decide, fun y y0 y1 => ?_⟩
  have x9 := x8.trans (za2 (pen := pen) (.lst [.ref sp, .int (kd + 1 + 1)]))
  have hcl9 : L2.upd H9 pen (.lst [.ref sp, .int (kd + 1 + 1)]) cl = some (.lst zs) := by rw [zak ncp]; exact hcl8
  have hpl9 : L2.upd H9 pen (.lst [.ref sp, .int (kd + 1 + 1)]) pl = some (.lst xs) := by rw [zak npp]; exact hpl8
  have d9 := DnL.pen (ys := [.ref sp, .int (kd + 1 + 1)]) pn8.at_ pt.flat d8
  have hp9 : L2.upd H9 pen (.lst [.ref sp, .int (kd + 1 + 1)]) pen = some (.lst [.ref sp, .int (kd + 1 + 1)]) := zab
  generalize L2.upd H9 pen (.lst [.ref sp, .int (kd + 1 + 1)]) = HA at x9 hcl9 hpl9 d9 hp9 ⊢
  have y2 : 0 ≤ y / 3 := Int.ediv_nonneg y0 (by decide)
  have y3 : y / 3 ≤ 1 := by omega
  refine ⟨_, _, rfl, rfl, ⟨by decide, by decide⟩, _, _, rfl, rfl, .inr ⟨by omega, by omega⟩, _, _, rfl, rfl, ?_⟩
  refine ⟨_, rfl, .inl ⟨rfl, _, SqL.of hcl9⟩, _, rfl, _, rfl, pl, _, rfl, .inl ⟨SqL.of hpl9, fun tk htk => ?_⟩⟩
  refine ⟨zam (by show 3 ≤ 1000; decide), fun tt htt => ?_⟩
  have sa := zad htk (.tup xs)
  have sb := zad htt (.tup [.str ("most" : Str), .int (x - 1 - far * (y / 3)), .ref tk])
  have sab := sa.trans sb
  refine ⟨cl, _, _, rfl, rfl, sab _ _ hcl9, zbd (by omega), ?_⟩
  exact nx _ _ _ _ (x9.trans (Same.x sab)) (sab _ _ hp9) ⟨tt, _, rfl, zab, _, _, rfl, rfl, _, _, rfl, rfl, _, _, rfl, ⟨tk, _, rfl, sb _ _ zab, DnL.same sab _ _ d9⟩, rfl⟩ (sab _ _ hcl9)
 obtain ⟨tC, hC, rC⟩ := tailC
 have elseE : ∃ t, PSs (zd0 CX0 P w K mg base ["_law_state", "_law_many", "_law_most", "_law_cross_here", "_law_turn", "_law_one", "_law_other", "_law_way", "_law_far", "_law_pairs", "_law_total", "_law_top"] "_law_cross" (zai zbv) a.f_law_cross cdv A outer s H E).nox (zu7 (zba zbv) [(1, false), (3, true)]) t ∧ ∀ (D : zh7) (cl : Addr) (one kc : Int) (zs : List V) (v4 v6 v7 v8 v9 v10 v11 : Option V) (H4 : Hp), Pen K H4 pen sp ns kc → 0 ≤ kc → kc ≤ 940000 → 0 ≤ one → one < m → H4 cl = some (.lst zs) → zs.length ≤ 100 → cl ≠ pen →
   (∀ (v : V) (top : Int) (ps : List PyData) (w8 w9 w10 w11 : Option V) (kd : Int) (H6 : Hp), SameX pen H4 H6 → H6 pen = some (.lst [.ref sp, .int kd]) → kc ≤ kd → kd ≤ kc + 21 → Dn H6 (.tuple [.str ("most" : Str), .int top, .tuple ps]) v → (ps.all zga = true ∧ ps.all (zbr 1) = true ∧ zbh (m : Int) (ps.map zpu) (-1) = true ∧ ps.length ≤ m ∧ 0 < ps.length) → H6 cl = some (.lst zs) → D.nx [some (.ref pen), some (.int (m : Int)), some (.int most), some (.ref cl), v4, some (.int one), v6, v7, w8, w9, w10, w11] (L2.upd H6 cl (.lst (zs ++ [v])))) →
   t D [some (.ref pen), some (.int (m : Int)), some (.int most), some (.ref cl), v4, some (.int one), v6, v7, v8, v9, v10, v11] H4 := by
  refine ⟨_, (zae (zan (i := 8) sc_law_cross.nd rfl (Or.inr rfl) (zaw (ixL (K := K)) (za7 (zaa zaf (zaa (zap zwr zaf zaf) zac))) (zag G_law_take hr.lv rfl T.K_law_take (zaa (pv 0) (zaa zaf zac))) (fun _ _ => rfl)))
   (zae (zdu (i := 9) sc_law_cross.nd rfl rfl rfl (sc0 := zai zbv) (XN := ["_law_state", "_law_many", "_law_most", "_law_cross_here", "_law_turn", "_law_one", "_law_other", "_law_way", "_law_far", "_law_pairs", "_law_total", "_law_top"]) (N' := ["_law_c", "_law_state", "_law_far"]) (n := 1) (kp := [0, 8]) rfl (zbi rfl T.m_range (zaa (pv 1) zac)) rfl rfl (by decide +kernel) (fun _ _ _ _ _ => (zao (i := 0) (by show List.Nodup (["_law_c", "_law_state", "_law_far"] : List Str); decide +kernel) rfl (Or.inl rfl))) (fun _ _ _ _ _ => (zbu (zar zhc (zag G_law_take hr.lv rfl T.K_law_take (zaa (pv 1) (zaa zaf zac))) zaf (zat _)))) (fun _ _ _ _ _ => (za9 (zaa (pv 0) (zaa (zap zeo (zag G_law_take hr.lv rfl T.K_law_take (zaa (pv 1) (zaa (zap zez zaf (pv 2)) zac))) (zap zqb (pv 2) zaf)) zac)))))
   (zae (za8 (zar (zsc hr.units) (pv 9) (za7 zac) (zat _)) (zah (zan (i := 9) sc_law_cross.nd rfl (Or.inl rfl) (za7 (zaa (za9 (zaa (pv 5) (zaa (pv 8) zac))) zac)))) zaz)
   hC))), ?_⟩
  intro D cl one kc zs v4 v6 v7 v8 v9 v10 v11 H4 pn4 k40 k41 o0 o1 hc4 zfew ncp nx
  refine ⟨_, _, rfl, rfl, ⟨by decide, by decide, by decide⟩, zam (by show 2 ≤ 1000; decide), fun fl' hfl => ?_⟩
  have sf := zad hfl (.lst [.int 4, .int (10 ^ (57 : Int).toNat)])
  have xf := Same.x (pen := pen) sf
  have nfp : fl' ≠ pen := Ne.symm (zas pn4.at_ hfl)
  refine ⟨_, rfl, pen, sp, ns, 2, kc, rfl, pn4.to xf (sf _ _ pn4.at_), by omega, by omega, by decide, fun y y0 y1 => ?_⟩
  have xg := xf.trans (za2 (pen := pen) (.lst [.ref sp, .int (kc + 1)]))
  obtain ⟨far, hat, f0⟩ : ∃ far : Int, atI [V.int 4, V.int (10 ^ (57 : Int).toNat)] y = some (.int far) ∧ 0 < far := by
   have e : y = 0 ∨ y = 1 := by omega
   rcases e with e | e <;> rw [e]
   ·exact ⟨_, rfl, by decide⟩
   ·exact ⟨_, rfl, by decide +kernel⟩
  refine ⟨fl', _, _, _, rfl, rfl, SqL.of (by rw [zak nfp]; exact zab), hat, ?_⟩
  have hpg : L2.upd (L2.upd H4 fl' (.lst [.int 4, .int (10 ^ (57 : Int).toNat)])) pen (.lst [.ref sp, .int (kc + 1)]) pen = some (.lst [.ref sp, .int (kc + 1)]) := zab
  generalize L2.upd (L2.upd H4 fl' (.lst [.int 4, .int (10 ^ (57 : Int).toNat)])) pen (.lst [.ref sp, .int (kc + 1)]) = H5 at xg hpg ⊢
  generalize hkd : kc + 1 = kd at *
  have pn5 := pn4.to xg hpg
  refine ⟨_, rfl, _, rfl, by rw [p62]; omega, by rw [p62]; omega, ?_⟩
  rw [Int.toNat_natCast]
  refine zeb (k := m) (fun j ys σ H6 => (∃ v, σ = [v, some (.ref pen), some (.int far)]) ∧ SameX pen H5 H6 ∧ j ≤ m ∧ ∃ (kq : Int) (ps : List PyData), H6 pen = some (.lst [.ref sp, .int kq]) ∧ kd ≤ kq ∧ kq ≤ kd + 2 * j ∧ zje H6 j ps ys) ⟨⟨none, rfl⟩, SameX.refl _ _, Nat.zero_le _, kd, [], hpg, Int.le_refl _, by omega, ⟨rfl, rfl, rfl, rfl, Nat.le_refl _⟩⟩ (fun j ys σ H6 hj pv => ?_) (fun j ys σ H6 hj pv => ?_) (fun ys σ H6 pv pl hpl => ?_)
  ·obtain ⟨_, _, jm, kq, ps, _, _, _, pt⟩ := pv
   have := pt.few
   have := pt.dn.length
   exact zam (by omega)
  ·obtain ⟨⟨v, rfl⟩, sx6, jm, kq, ps, hp6, kq0, kq1, pt⟩ := pv
   have few := pt.few
   have pn6 := pn5.to sx6 hp6
   refine ⟨_, rfl, pen, sp, ns, 3, kq, rfl, pn6, by omega, by omega, by decide, fun b b0 b1 => ?_⟩
   have xh := sx6.trans (za2 (pen := pen) (.lst [.ref sp, .int (kq + 1)]))
   have d7 := DnL.pen (ys := [.ref sp, .int (kq + 1)]) hp6 pt.flat pt.dn
   have hp7 : L2.upd H6 pen (.lst [.ref sp, .int (kq + 1)]) pen = some (.lst [.ref sp, .int (kq + 1)]) := zab
   generalize L2.upd H6 pen (.lst [.ref sp, .int (kq + 1)]) = H7 at xh d7 hp7 ⊢
   refine ⟨_, _, rfl, rfl, _, rfl, ?_⟩
   refine zcv (fun c => ?_) (fun c => ?_)
   ·refine ⟨_, rfl, _, rfl, _, rfl, _, _, rfl, rfl, .inl ⟨by decide, by decide⟩, pen, sp, ns, _, kq + 1, rfl, pn5.to xh hp7, by omega, by omega, by omega, fun e e0 e1 => ?_⟩
    have xi := xh.trans (za2 (pen := pen) (.lst [.ref sp, .int (kq + 1 + 1)]))
    have d8 := DnL.pen (ys := [.ref sp, .int (kq + 1 + 1)]) hp7 pt.flat d7
    have hp8 : L2.upd H7 pen (.lst [.ref sp, .int (kq + 1 + 1)]) pen = some (.lst [.ref sp, .int (kq + 1 + 1)]) := zab
    generalize L2.upd H7 pen (.lst [.ref sp, .int (kq + 1 + 1)]) = H8 at xi d8 hp8 ⊢
    refine ⟨_, rfl, _, _, rfl, rfl, ⟨by decide, by decide⟩, _, _, rfl, rfl, zam (by show 2 ≤ 1000; decide), fun tp htp => ?_⟩
    have s9 := zad htp (.tup [.int (j : Int), .int (e - far / 2)])
    refine ⟨⟨_, rfl⟩, xi.trans (Same.x s9), hj, kq + 1 + 1, ps ++ [.tuple [.int (j : Int), .int (e - far / 2)]], s9 _ _ hp8, by omega, by push_cast; omega, ⟨?_, ?_, ?_, ?_, ?_⟩⟩
    ·exact (DnL.same s9 _ _ d8).append ⟨_, [], rfl, ⟨tp, _, rfl, zab, _, _, rfl, rfl, _, _, rfl, rfl, rfl⟩, rfl⟩
    ·rw [List.all_append, pt.ok]
     rfl
    ·rw [List.all_append, pt.flat]
     rfl
    ·rw [List.map_append]
     show zbh ((j + 1 : Nat) : Int) (ps.map zpu ++ [.int (j : Int)]) (-1) = true
     exact zfz (by omega) pt.ris (by omega)
    ·rw [List.length_append, List.length_singleton]
     omega
   ·exact ⟨⟨_, rfl⟩, xh, hj, kq + 1, ps, hp7, by omega, by push_cast; omega, ⟨d7, pt.ok, pt.flat, zeu (by omega) pt.ris, by omega⟩⟩
  obtain ⟨_, sx6, _, kq, ps, hp6, kq0, kq1, pt⟩ := pv
  have few := pt.few
  have lps := pt.dn.length
  have s7 := zad hpl (.lst ys)
  have x7 := xg.trans (sx6.trans (Same.x s7))
  have hp7 := s7 _ _ hp6
  have d7 := DnL.same s7 _ _ pt.dn
  have hpl7 : L2.upd H6 pl (.lst ys) pl = some (.lst ys) := zab
  have npp : pl ≠ pen := Ne.symm (zas hp6 hpl)
  generalize L2.upd H6 pl (.lst ys) = H7 at s7 x7 hp7 d7 hpl7 ⊢
  refine ⟨_, rfl, zam (by decide), fun nl hnl => ?_⟩
  have s8 := zad hnl (.lst [])
  refine ⟨pl, nl, ys, rfl, rfl, s8 _ _ hpl7, zab, _, rfl, ?_⟩
  by_cases ye : ys = []
  ·refine zfa ye ?_
   refine ⟨_, rfl, _, rfl, zam (by show 2 ≤ 1000; decide), fun tp htp => ?_⟩
   have s9 := zad htp (.tup [.int one, .int far])
   refine ⟨zam (by show 1 ≤ 1000; decide), fun pl2 hpl2 => ?_⟩
   have s10 := zad hpl2 (.lst [.ref tp])
   have sA := (s8.trans s9).trans s10
   have xA := x7.trans (Same.x (pen := pen) sA)
   have ptA : zje _ m [.tuple [.int one, .int far]] [.ref tp] := ⟨⟨_, [], rfl, ⟨tp, _, rfl, s10 _ _ zab, _, _, rfl, rfl, _, _, rfl, rfl, rfl⟩, rfl⟩, rfl, rfl, by
    show (decide ((-1 : Int) + 1 ≤ one) && decide (one ≤ (m : Int) - 1) && true) = true
    rw [decide_eq_true (by omega), decide_eq_true (by omega)]
    rfl, by show 1 ≤ m; omega⟩
   refine rC _ cl pl2 far kq _ _ zs _ _ _ _ _ _ _ (pn4.to xA (sA _ _ hp7)) (by omega) (by omega) zab ptA (by show 0 < 1; decide) (xA _ _ ncp hc4) (by omega) ncp (Ne.symm (zas ((s8.trans s9) _ _ hp7) hpl2)) (fun v top w10 H9 x9 hp9 dv hc9 => ?_)
   exact nx v top _ _ _ _ _ (kq + 1 + 1) H9 (xA.trans x9) hp9 (by omega) (by omega) dv ⟨rfl, rfl, ptA.ris, ptA.few, by show 0 < 1; decide⟩ hc9
  ·refine zb1 ye ?_
   have xA := x7.trans (Same.x (pen := pen) s8)
   have p0 : 0 < ps.length := by
    rw [lps]
    exact List.length_pos_iff.mpr ye
   have ptA : zje _ m ps ys := ⟨DnL.same s8 _ _ d7, pt.ok, pt.flat, pt.ris, pt.few⟩
   refine rC _ cl pl far kq _ _ zs _ _ _ _ _ _ _ (pn4.to xA (s8 _ _ hp7)) (by omega) (by omega) (s8 _ _ hpl7) ptA p0 (xA _ _ ncp hc4) (by omega) ncp npp (fun v top w10 H9 x9 hp9 dv hc9 => ?_)
   exact nx v top _ _ _ _ _ (kq + 1 + 1) H9 (xA.trans x9) hp9 (by omega) (by omega) dv ⟨pt.ok, pt.flat, pt.ris, pt.few, p0⟩ hc9
 obtain ⟨tE, hE, rE⟩ := elseE
 refine ⟨_, (zae (zan (i := 3) sc_law_cross.nd rfl (Or.inl rfl) (za7 zac))
   (zae (zbo PassesOwn.never rfl (zbi rfl T.m_range (zaa (zag G_law_take hr.lv rfl T.K_law_take (zaa (pv 0) (zaa (zap zb6 (pv 2) zaf) zac))) zac)) (zao (i := 4) sc_law_cross.nd rfl (Or.inl rfl)) (zae (zan (i := 5) sc_law_cross.nd rfl (Or.inl rfl) (zag G_law_take hr.lv rfl T.K_law_take (zaa (pv 0) (zaa (pv 1) zac))))
   (zae (zan (i := 6) sc_law_cross.nd rfl (Or.inl rfl) (zap zf9 (zap zb6 (zap zb6 (pv 5) zaf) (zag G_law_take hr.lv rfl T.K_law_take (zaa (pv 0) (zaa (za3 (zhw rfl) rfl T.m_max PyProof.Rows.boot_max (zaa zaf (zaa (zap zeo (pv 1) zaf) zac))) zac)))) (pv 1)))
   (zae (zan (i := 7) sc_law_cross.nd rfl (Or.inl rfl) (zag G_law_take hr.lv rfl T.K_law_take (zaa (pv 0) (zaa zaf zac))))
   (zah (za8 (PW.pt (zfu (zar zjv (pv 7) zaf (zat _)) (zfc (zar zhc (pv 1) zaf (zat _))))) (zah (zcb (zdx (K := K) PySem.F.plainAttrs_list PySem.F.slot_list_append PySem.F.type_list_append zb2 (pv 3) (zaa (za9 (zaa (zaw (ixL (K := K)) (za7 (zaa zc0 (zaa zc0 zac))) (pv 7) (fun _ _ => rfl)) (zaa (pv 5) (zaa (pv 6) zac)))) zac)))) hE))))))
   (zah (zau (pv 3))))), ?_⟩
 refine ⟨zam (by decide), fun cl hcl => ?_⟩
 have ncp : cl ≠ pen := Ne.symm (zas pn.at_ hcl)
 have s1 := zad hcl (.lst [])
 have pn1 := pn.to (Same.x s1) (s1 _ _ pn.at_)
 have hcl1 : L2.upd H cl (.lst []) cl = some (.lst []) := zab
 have x1 : SameX pen H _ := Same.x (pen := pen) s1
 generalize L2.upd H cl (.lst []) = H1 at s1 pn1 hcl1 x1 ⊢
 refine ⟨_, rfl, _, rfl, _, _, rfl, rfl, pen, sp, ns, _, k, rfl, pn1, by omega, by omega, by omega, fun n n0 n1 => ?_⟩
 have x2 := x1.trans (za2 (pen := pen) (.lst [.ref sp, .int (k + 1)]))
 have hcl2 : L2.upd H1 pen (.lst [.ref sp, .int (k + 1)]) cl = some (.lst []) := by rw [zak ncp]; exact hcl1
 have hp2 : L2.upd H1 pen (.lst [.ref sp, .int (k + 1)]) pen = some (.lst [.ref sp, .int (k + 1)]) := zab
 generalize L2.upd H1 pen (.lst [.ref sp, .int (k + 1)]) = H2 at x2 hcl2 hp2 ⊢
 refine ⟨_, rfl, by rw [p62]; omega, by rw [p62]; omega, ?_⟩
 refine zb5 (n := n.toNat) (fun i σ H3 => ∃ (v4 v5 v6 v7 v8 v9 v10 v11 : Option V) (kc : Int) (cs : List PyData) (zs : List V), σ = [some (.ref pen), some (.int (m : Int)), some (.int most), some (.ref cl), v4, v5, v6, v7, v8, v9, v10, v11] ∧ SameX pen H H3 ∧ H3 pen = some (.lst [.ref sp, .int kc]) ∧ k ≤ kc ∧ kc ≤ k + 1 + 26 * i ∧ H3 cl = some (.lst zs) ∧ DnL H3 cs zs ∧ cs.length = i ∧ (∀ c ∈ cs, zil m c = true) ∧ cs.all (zbr 3) = true)
  ⟨_, _, _, _, _, _, _, _, k + 1, [], [], rfl, x2, hp2, by omega, by omega, hcl2, rfl, rfl, (fun _ z => nomatch z), rfl⟩ ?_ ?_
 ·rintro i σ H3 hi ⟨v4, v5, v6, v7, v8, v9, v10, v11, kc, cs, zs, rfl, sx, hp3, kc0, kc1, hc3, dn, ln, okc, fl⟩
  have i8 : i ≤ 8 := by omega
  have lz := dn.length
  have pn3 := pn.to sx hp3
  have done : ∀ (dd : PyData) (v : V) (kd : Int) (H6 : Hp) (w4 w5 w6 w7 w8 w9 w10 w11 : Option V), SameX pen H3 H6 → H6 pen = some (.lst [.ref sp, .int kd]) → kc ≤ kd → kd ≤ kc + 26 → H6 cl = some (.lst zs) → Dn H6 dd v → zil m dd = true → zbr 3 dd = true →
    (∃ (v4 v5 v6 v7 v8 v9 v10 v11 : Option V) (kc : Int) (cs : List PyData) (zs' : List V), [some (.ref pen), some (.int (m : Int)), some (.int most), some (.ref cl), w4, w5, w6, w7, w8, w9, w10, w11] = [some (.ref pen), some (.int (m : Int)), some (.int most), some (.ref cl), v4, v5, v6, v7, v8, v9, v10, v11] ∧ SameX pen H (L2.upd H6 cl (.lst (zs ++ [v]))) ∧ (L2.upd H6 cl (.lst (zs ++ [v]))) pen = some (.lst [.ref sp, .int kc]) ∧ k ≤ kc ∧ kc ≤ k + 1 + 26 * ((i + 1 : Nat) : Int) ∧ (L2.upd H6 cl (.lst (zs ++ [v]))) cl = some (.lst zs') ∧ DnL (L2.upd H6 cl (.lst (zs ++ [v]))) cs zs' ∧ cs.length = i + 1 ∧ (∀ c ∈ cs, zil m c = true) ∧ cs.all (zbr 3) = true) := by
   intro dd v kd H6 w4 w5 w6 w7 w8 w9 w10 w11 sx6 hp6 kd0 kd1 hc6 dv ti fd
   refine ⟨_, _, _, _, _, _, _, _, kd, cs ++ [dd], zs ++ [v], rfl, SameX.put (sx.trans sx6) hcl ncp hc6, ?_, by omega, by push_cast; omega, zab, ?_, ?_, fun c hc' => ?_, ?_⟩
   ·rw [zak (Ne.symm ncp)]
    exact hp6
   ·exact (DnL.pen hc6 fl (DnL.tupS (SameX.tup hp3 sx6) fl dn)).append ⟨v, [], rfl, Dn.pen hc6 fd dv, rfl⟩
   ·rw [List.length_append, List.length_singleton, ln]
   ·rcases List.mem_append.mp hc' with z | z
    ·exact okc c z
    ·rw [List.mem_singleton.mp z]
     exact ti
   ·rw [List.all_append, fl]
    simp [fd]
  refine ⟨_, rfl, _, rfl, pen, sp, ns, m, kc, rfl, pn3, by omega, by omega, by omega, fun one o0 o1 => ?_⟩
  have xa := za2 (pen := pen) (H := H3) (.lst [.ref sp, .int (kc + 1)])
  refine ⟨_, rfl, _, _, rfl, rfl, _, rfl, _, rfl, _, _, rfl, rfl, _, _, rfl, pen, sp, ns, _, kc + 1, rfl, pn3.to xa zab, by omega, by omega, (by split <;> omega), fun x x0 x1 => ?_⟩
  have xb := xa.trans (za2 (pen := pen) (.lst [.ref sp, .int (kc + 1 + 1)]))
  refine ⟨_, _, rfl, rfl, _, rfl, _, _, rfl, rfl, (by show (0 : Int) < m; omega), ?_⟩
  refine ⟨_, rfl, pen, sp, ns, 4, kc + 1 + 1, rfl, pn3.to xb zab, by omega, by omega, by decide, fun way w0 w1 => ?_⟩
  have xc := xb.trans (za2 (pen := pen) (.lst [.ref sp, .int (kc + 1 + 1 + 1)]))
  have hpc : L2.upd (L2.upd (L2.upd H3 pen (.lst [.ref sp, .int (kc + 1)])) pen (.lst [.ref sp, .int (kc + 1 + 1)])) pen (.lst [.ref sp, .int (kc + 1 + 1 + 1)]) pen = some (.lst [.ref sp, .int (kc + 1 + 1 + 1)]) := zab
  generalize L2.upd (L2.upd (L2.upd H3 pen (.lst [.ref sp, .int (kc + 1)])) pen (.lst [.ref sp, .int (kc + 1 + 1)])) pen (.lst [.ref sp, .int (kc + 1 + 1 + 1)]) = H4 at xc hpc ⊢
  have hc4 := xc _ _ ncp hc3
  have pn4 := pn3.to xc hpc
  refine ⟨_, rfl, _, _, rfl, rfl, _, rfl, ?_⟩
  have both : (way < 2 ∧ (1 : Int) < m) ∨ ¬ (way < 2 ∧ (1 : Int) < m) := Decidable.em _
  rcases both with ⟨c', m2'⟩ | nb
  ·refine zi2 (decide_eq_true c') ?_
   refine ⟨_, rfl, _, _, rfl, rfl, _, rfl, ?_⟩
   refine zi2 (decide_eq_true m2') ?_
   refine ⟨_, rfl, .inl ⟨rfl, _, SqL.of hc4⟩, zam (by show 2 ≤ 1000; decide), fun lp hlp => ?_⟩
   have sn := zad hlp (.lst [.str ("needs" : Str), .str ("bans" : Str)])
   obtain ⟨sN, sk, snm, sok, hat⟩ : ∃ sN : Str, (sN = ("needs" : Str) ∨ sN = ("bans" : Str)) ∧ ¬ sN = ("most" : Str) ∧ PyData.strOk sN = true ∧ atI ([.str ("needs" : Str), .str ("bans" : Str)] : List V) way = some (.str sN) := by
    have e : way = 0 ∨ way = 1 := by omega
    rcases e with e | e <;> rw [e]
    ·exact ⟨_, .inl rfl, by decide +kernel, zot, rfl⟩
    ·exact ⟨_, .inr rfl, by decide +kernel, zp8, rfl⟩
   refine ⟨_, rfl, lp, _, _, _, rfl, rfl, SqL.of zab, hat, _, rfl, _, rfl, zam (by show 3 ≤ 1000; decide), fun tp htp => ?_⟩
   have x2 : x < (m : Int) - 1 := by revert x1; split <;> omega
   obtain ⟨n0', n1', n2'⟩ := zsu (many := m) m2' (by omega) o0 o1 x0 x2
   have st := zad htp (.tup [.str sN, .int one, .int ((one + 1 + x) % (m : Int))])
   have snt := sn.trans st
   refine ⟨cl, _, _, rfl, rfl, snt _ _ hc4, zbd (by omega), ?_⟩
   refine done (.tuple [.str sN, .int one, .int ((one + 1 + x) % (m : Int))]) _ (kc + 1 + 1 + 1) _ _ _ _ _ _ _ _ _ (xc.trans (Same.x snt)) (snt _ _ hpc) (by omega) (by omega) (snt _ _ hc4) ⟨tp, _, rfl, zab, _, _, rfl, rfl, _, _, rfl, rfl, _, _, rfl, rfl, rfl⟩ ?_ ?_
   ·show zsh m sN _ _ = true
    unfold zsh
    rw [if_neg snm, if_pos sk]
    show ((decide ((0 : Int) ≤ _) && decide (_ ≤ (m : Int) - 1)) && ((decide ((0 : Int) ≤ _) && decide (_ ≤ (m : Int) - 1)) && !decide (_ = _))) = true
    rw [decide_eq_true o0, decide_eq_true (by omega), decide_eq_true n0', decide_eq_true (by omega), decide_eq_false n2']
    rfl
   ·show (true && (zbr 2 (.str sN) && (true && (true && true)))) = true
    rw [show zbr 2 (.str sN) = true from sok]
    rfl
  ·have mk : ∀ (v : V) (top : Int) (ps : List PyData) (w6 w8 w9 w10 w11 : Option V) (kd : Int) (H6 : Hp), SameX pen H4 H6 → H6 pen = some (.lst [.ref sp, .int kd]) → kc + 1 + 1 + 1 ≤ kd → kd ≤ kc + 1 + 1 + 1 + 21 → Dn H6 (.tuple [.str ("most" : Str), .int top, .tuple ps]) v → (ps.all zga = true ∧ ps.all (zbr 1) = true ∧ zbh (m : Int) (ps.map zpu) (-1) = true ∧ ps.length ≤ m ∧ 0 < ps.length) → H6 cl = some (.lst zs) → _ := fun v top ps w6 w8 w9 w10 w11 kd H6 x6 hp6 kd0 kd1 dv pp hc6 => done (.tuple [.str ("most" : Str), .int top, .tuple ps]) v kd H6 (some (.int (i : Int))) (some (.int one)) w6 (some (.int way)) w8 w9 w10 w11 (xc.trans x6) hp6 (by omega) (by omega) hc6 dv (by
     obtain ⟨pok, _, pri, _, p0⟩ := pp
     show zsh m ("most" : Str) (.int top) (.tuple ps) = true
     unfold zsh
     rw [if_pos rfl]
     show (true && (decide (0 < ps.length) && ps.all zga && zbh m (ps.map zpu) (-1))) = true
     rw [decide_eq_true p0, pok, pri]
     rfl) (by
     obtain ⟨_, pfl, _, pfw, _⟩ := pp
     have f2 : zbr 2 (.tuple ps) = true := by
      show (decide (ps.length ≤ 1000) && ps.all (zbr 1)) = true
      rw [decide_eq_true (by omega), pfl]
      rfl
     show (true && (zbr 2 (.str ("most" : Str)) && (zbr 2 (.int top) && (zbr 2 (.tuple ps) && true)))) = true
     rw [show zbr 2 (.str ("most" : Str)) = true from zpt, f2]
     rfl)
   by_cases c : way < 2
   ·refine zi2 (decide_eq_true c) ?_
    refine ⟨_, rfl, _, _, rfl, rfl, _, rfl, ?_⟩
    refine zhf (decide_eq_false fun z => nb ⟨c, z⟩) ?_
    exact rE _ cl one (kc + 1 + 1 + 1) zs _ _ _ _ _ _ _ H4 pn4 (by omega) (by omega) o0 o1 hc4 (by omega) ncp fun v top ps w8 w9 w10 w11 => mk v top ps _ w8 w9 w10 w11
   ·refine zhf (decide_eq_false c) ?_
    refine zek ?_
    exact rE _ cl one (kc + 1 + 1 + 1) zs _ _ _ _ _ _ _ H4 pn4 (by omega) (by omega) o0 o1 hc4 (by omega) ncp fun v top ps w8 w9 w10 w11 => mk v top ps _ w8 w9 w10 w11
 ·rintro σ H3 ⟨v4, v5, v6, v7, v8, v9, v10, v11, kc, cs, zs, rfl, sx, hp3, kc0, kc1, hc3, dn, ln, okc, fl⟩
  exact ⟨_, rfl, q cl cs zs kc H3 sx hp3 (by omega) (by omega) hc3 hcl dn okc (by omega) fl⟩
end
section
variable {P : Program} {w : World} {K : PySem.W.Frag} {mg : Str → Option Value} {base : Heap} {a : Adr} {d : Fds}
theorem zoa (T : Txt K mg a d) : FnOk P w K mg base CX0 3 a.f_law_wood d.f_law_wood ["_law_state", "_law_most"] (zvh K) := by
 have G_law_take := zdr (P := P) (w := w) (base := base) T
 have G_law_boughs := zku (P := P) (w := w) (base := base) T
 have G_law_cross := zmn (P := P) (w := w) (base := base) T
 refine T.K_law_wood.ok sc_law_wood (fun vs H Q E h => ?_) (fun cdv A outer s H vs Q E hr h => ?_)
 ·obtain ⟨pen, sp, ns, most, k, rfl, _⟩ := h
  rfl
 obtain ⟨pen, sp, ns, most, k, rfl, pn, k0, k1, mo0, mo1, q⟩ := h
 obtain ⟨ct2, ch2, cu2⟩ := zug (X := (zd0 CX0 P w K mg base ["_law_state", "_law_most", "_law_many"] "_law_wood" (zai zem) a.f_law_wood cdv A outer s H E).nox) (st := (zba zem).drop 2) (zah (zau (za9 (zaa (pv 2) (zaa (zb0 zdi rfl T.m_tuple PyProof.Rows.boot_tuple (zaa (zag G_law_boughs hr.lv rfl T.K_law_boughs (zaa (pv 0) (zaa (pv 2) zac))) zac)) (zaa (zb0 zdi rfl T.m_tuple PyProof.Rows.boot_tuple (zaa (zag G_law_cross hr.lv rfl T.K_law_cross (zaa (pv 0) (zaa (pv 2) (zaa (pv 1) zac)))) zac)) zac))))))
 have tail : ∀ (m : Nat) (k1 : Int) (H1 : Hp), SameX pen H H1 → H1 pen = some (.lst [.ref sp, .int k1]) → k ≤ k1 → k1 ≤ k + 3 → 1 ≤ m → m ≤ 9 → ct2 { nx := fun _ H' => Q .non H', rt := Q } [some (.ref pen), some (.int most), some (.int (m : Int))] H1 := by
  intro m k1 H1 sx1 hp1 k10 k11 m1 m9
  refine cu2 _ _ _ ?_
  refine ⟨_, rfl, _, rfl, _, rfl, pen, sp, ns, m, k1, rfl, pn.to sx1 hp1, by omega, by omega, m1, m9, fun l bs xs k2 H2 sx2 hp2 k20 k21 hl2 nl dn gb b8 fb => ?_⟩
  have lx := dn.length
  refine ⟨l, _, rfl, .inl ⟨SqL.of hl2, fun t1 ht1 => ?_⟩⟩
  have s3 := zad ht1 (.tup xs)
  have ht13 : L2.upd H2 t1 (.tup xs) t1 = some (.tup xs) := zab
  have hp3 := s3 _ _ hp2
  have sx3 := (sx1.trans sx2).trans (Same.x (pen := pen) s3)
  have d3 := DnL.same s3 _ _ dn
  generalize L2.upd H2 t1 (.tup xs) = H3 at s3 ht13 hp3 sx3 d3 ⊢
  refine ⟨_, rfl, _, rfl, _, rfl, pen, sp, ns, m, most, k2, rfl, pn.to sx3 hp3, by omega, by omega, m1, m9, mo0, mo1, fun cl cs zs k4 H4 sx4 hp4 k40 k41 hc4 nc dc okc lc fc => ?_⟩
  refine ⟨cl, _, rfl, .inl ⟨SqL.of hc4, fun t2 ht2 => ?_⟩⟩
  have s5 := zad ht2 (.tup zs)
  refine ⟨zam (by show 3 ≤ 1000; decide), fun wd hwd => ?_⟩
  have s6 := zad hwd (.tup [.int (m : Int), .ref t1, .ref t2])
  have s56 := s5.trans s6
  have tS := SameX.tup hp3 sx4
  refine q wd m bs cs k4 _ ((sx3.trans sx4).trans (Same.x s56)) (s56 _ _ hp4) (by omega) (by omega) m1 m9 ⟨⟨xs, zs, ⟨t1, t2, zab, s56 _ _ (tS _ _ ht13), s6 _ _ zab⟩, DnL.same s56 _ _ (DnL.tupS tS fb d3), DnL.same s56 _ _ dc⟩, gb, okc, by omega, by omega, fb, fc, m1, m9⟩ lc
 have nxt : ∀ (H1 : Hp) (k1 : Int), SameX pen H H1 → SameX pen H (L2.upd H1 pen (.lst [.ref sp, .int (k1 + 1)])) := fun H1 k1 sx => sx.trans (za2 (pen := pen) (.lst [.ref sp, .int (k1 + 1)]))
 refine ⟨_, (zae (zan (i := 2) sc_law_wood.nd rfl (Or.inl rfl) (zap zb6 zaf (zag G_law_take hr.lv rfl T.K_law_take (zaa (pv 0) (zaa zaf zac)))))
   (zae (za8 (zar zbx (zag G_law_take hr.lv rfl T.K_law_take (zaa (pv 0) (zaa zaf zac))) zaf (zat _)) (zah (zan (i := 2) sc_law_wood.nd rfl (Or.inl rfl) (zap zb6 zaf (zag G_law_take hr.lv rfl T.K_law_take (zaa (pv 0) (zaa zaf zac)))))) zaz)
   ch2)), ?_⟩
 refine ⟨_, rfl, pen, sp, ns, 6, k, rfl, pn, k0, by omega, by decide, fun c c0 c1 => ?_⟩
 refine ⟨_, _, rfl, rfl, ?_⟩
 have x1 := nxt H k (SameX.refl pen H)
 have h1 : L2.upd H pen (.lst [.ref sp, .int (k + 1)]) pen = some (.lst [.ref sp, .int (k + 1)]) := zab
 generalize L2.upd H pen (.lst [.ref sp, .int (k + 1)]) = H1 at x1 h1 ⊢
 refine ⟨_, rfl, pen, sp, ns, 8, k + 1, rfl, pn.to x1 h1, by omega, by omega, by decide, fun e e0 e1 => ?_⟩
 have x2 := nxt H1 (k + 1) x1
 have h2 : L2.upd H1 pen (.lst [.ref sp, .int (k + 1 + 1)]) pen = some (.lst [.ref sp, .int (k + 1 + 1)]) := zab
 generalize L2.upd H1 pen (.lst [.ref sp, .int (k + 1 + 1)]) = H2 at x2 h2 ⊢
 refine ⟨rfl, _, rfl, ?_⟩
 refine zcv (fun _ => ?_) (fun _ => ?_)
 ·refine ⟨_, rfl, pen, sp, ns, 3, k + 1 + 1, rfl, pn.to x2 h2, by omega, by omega, by decide, fun g g0 g1 => ?_⟩
  refine ⟨_, _, rfl, rfl, ?_⟩
  have x3 := nxt H2 (k + 1 + 1) x2
  have h3 : L2.upd H2 pen (.lst [.ref sp, .int (k + 1 + 1 + 1)]) pen = some (.lst [.ref sp, .int (k + 1 + 1 + 1)]) := zab
  have t := tail (7 + g).toNat _ _ x3 h3 (by omega) (by omega) (by omega) (by omega)
  rw [show (((7 + g).toNat : Nat) : Int) = 7 + g by omega] at t
  exact t
 ·have t := tail (1 + c).toNat _ _ x2 h2 (by omega) (by omega) (by omega) (by omega)
  rw [show (((1 + c).toNat : Nat) : Int) = 1 + c by omega] at t
  exact t
end
section
variable {P : Program} {w : World} {K : PySem.W.Frag} {mg : Str → Option Value} {base : Heap} {a : Adr} {d : Fds}
theorem zmb (T : Txt K mg a d) : FnOk P w K mg base CX0 1 a.f_law_keeps d.f_law_keeps ["_law_tie", "_law_some"] zvu := by
 refine T.K_law_keeps.ok sc_law_keeps (fun vs H Q E h => ?_) (fun cdv A outer s H vs Q E hr h => ?_)
 ·obtain ⟨t, m, n, v, rfl, _⟩ := h
  rfl
 obtain ⟨t, m, n, v, rfl, hd, ok, hm, q⟩ := h
 have q0 := q H (Same.refl H)
 refine ⟨_, (zae (za8 (zar zbx (zaw (ixT (K := K)) (pv 0) zaf (fun _ _ => rfl)) zc0 (zat _)) (zah (zau (zbw zlh (zap zcu (zap zdw (pv 1) (zaw (ixT (K := K)) (pv 0) zaf (fun _ _ => rfl))) zaf) (zap zcu (zap zdw (pv 1) (zaw (ixT (K := K)) (pv 0) zaf (fun _ _ => rfl))) zaf) (zat _)))) zaz)
   (zae (za8 (zar zbx (zaw (ixT (K := K)) (pv 0) zaf (fun _ _ => rfl)) zc0 (zat _)) (zah (zau (zbw zbx (zap zcu (zap zcu (zap zdw (pv 1) (zaw (ixT (K := K)) (pv 0) zaf (fun _ _ => rfl))) (zap zdw (pv 1) (zaw (ixT (K := K)) (pv 0) zaf (fun _ _ => rfl)))) zaf) zaf (zat _)))) zaz)
   (zae (za8 (zar zbx (zaw (ixT (K := K)) (pv 0) zaf (fun _ _ => rfl)) zc0 (zat _)) (zah (zau (zbw zlh (za3 (ze1 rfl) rfl T.m_sum PyProof.Rows.boot_sum (zaa (zef (sc0 := zai zdt) (XN := ["_law_tie", "_law_some", "_law_up", "_law_low", "_law_high", "_law_kids", "_law_count"]) (N' := ["_law_c", "_law_number", "_law_some"]) (n := 2) (kp := [1]) rfl (piT (K := K) (zaw (ixT (K := K)) (pv 0) zaf (fun _ _ => rfl))) rfl rfl (by decide +kernel) (fun _ _ _ _ _ => (pgT (K := K) (n := 2) rfl (za6 (zao (i := 0) (by show List.Nodup (["_law_c", "_law_number", "_law_some"] : List Str); decide +kernel) rfl (Or.inl rfl)) (za6 (zao (i := 1) (by show List.Nodup (["_law_c", "_law_number", "_law_some"] : List Str); decide +kernel) rfl (Or.inl rfl)) zcy)))) (fun _ _ _ _ _ => (zbu (zar zbx (zap zcu (zap zdw (pv 2) (pv 0)) zaf) zaf (zat _)))) (fun _ _ _ _ _ => (pv 1))) zac)) (zaw (ixT (K := K)) (pv 0) zaf (fun _ _ => rfl)) (zat _)))) zaz)
   (zae (zhy (pv 0) (pgT (K := K) (n := 4) rfl (za6 (zao (i := 2) sc_law_keeps.nd rfl (Or.inl rfl)) (za6 (zao (i := 3) sc_law_keeps.nd rfl (Or.inl rfl)) (za6 (zao (i := 4) sc_law_keeps.nd rfl (Or.inl rfl)) (za6 (zao (i := 5) sc_law_keeps.nd rfl (Or.inl rfl)) zcy))))))
   (zae (zan (i := 6) sc_law_keeps.nd rfl (Or.inl rfl) (za3 (zep (K := K)) rfl T.m_len PySem.boot_len (zaa (zef (sc0 := zai zdt) (XN := ["_law_tie", "_law_some", "_law_up", "_law_low", "_law_high", "_law_kids", "_law_count"]) (N' := ["_law_k", "_law_some"]) (n := 1) (kp := [1]) rfl (piT (K := K) (pv 5)) rfl rfl (by decide +kernel) (fun _ _ _ _ _ => (zao (i := 0) (by show List.Nodup (["_law_k", "_law_some"] : List Str); decide +kernel) rfl (Or.inl rfl))) (fun _ _ _ _ _ => (zbu (zar zbx (zap zcu (zap zdw (pv 1) (pv 0)) zaf) zaf (zat _)))) (fun _ _ _ _ _ => (pv 0))) zac)))
   (zae (za8 (zar zbx (zap zcu (zap zdw (pv 1) (pv 2)) zaf) zaf (zat _)) (zah (zau (ztp zlh zlh (pv 3) (pv 6) (pv 4)))) zaz)
   (zah (zau (zbw zbx (pv 6) zaf (zat _)))))))))), ?_⟩
 cases t with
 | needs x y =>
  obtain ⟨p, rfl, hp⟩ := zja hd
  refine ⟨_, rfl, p, _, _, _, rfl, rfl, sqT hp, at0, rfl, _, rfl, ?_⟩
  refine zfa rfl ?_
  refine ⟨_, rfl, _, rfl, p, _, _, _, rfl, rfl, sqT hp, at1, _, _, rfl, rfl, by omega, _, _, rfl, rfl, _, rfl, _, rfl, p, _, _, _, rfl, rfl, sqT hp, at2, _, _, rfl, rfl, by omega, _, _, rfl, rfl, _, _, rfl, rfl, ?_⟩
  dsimp only
  rw [zjb, zjb, zvj]
  exact q0
 | bans x y =>
  obtain ⟨p, rfl, hp⟩ := zja hd
  refine ⟨_, rfl, p, _, _, _, rfl, rfl, sqT hp, at0, rfl, _, rfl, ?_⟩
  refine zb1 zkn ?_
  refine ⟨_, rfl, p, _, _, _, rfl, rfl, sqT hp, at0, rfl, _, rfl, ?_⟩
  refine zfa rfl ?_
  refine ⟨_, rfl, _, rfl, p, _, _, _, rfl, rfl, sqT hp, at1, _, _, rfl, rfl, by omega, _, rfl, _, rfl, p, _, _, _, rfl, rfl, sqT hp, at2, _, _, rfl, rfl, by omega, _, _, rfl, rfl, _, _, rfl, rfl, rfl, ?_⟩
  dsimp only
  rw [two_bits]
  exact q0
 | most top ps =>
  obtain ⟨p, pq, xs, rfl, hp, hq, hps⟩ := zql hd
  have lx : xs.length = ps.length := by rw [← hps.length, List.length_map]
  have few : ps.length ≤ m := ok.2.2.2
  refine ⟨_, rfl, p, _, _, _, rfl, rfl, sqT hp, at0, rfl, _, rfl, ?_⟩
  refine zb1 zj3 ?_
  refine ⟨_, rfl, p, _, _, _, rfl, rfl, sqT hp, at0, rfl, _, rfl, ?_⟩
  refine zb1 zl1 ?_
  refine ⟨_, rfl, p, _, _, _, rfl, rfl, sqT hp, at0, rfl, _, rfl, ?_⟩
  refine zfa rfl ?_
  refine ⟨_, rfl, p, _, _, _, rfl, rfl, sqT hp, at2, pq, rfl, ⟨_, sqT hq⟩, ?_⟩
  refine zmx (K := K) (a := pq) (xs := xs) (fun i ys σ H2 => (∃ v v', σ = [v, v', some (.int n)]) ∧ H2 = H ∧ i ≤ ps.length ∧ ys = (((ps.take i).filter fun p => n.testBit p.1).map (·.2)).map V.int) ⟨⟨none, none, rfl⟩, rfl, Nat.zero_le _, rfl⟩ (fun i ys σ H2 hi pv => ?_) (fun i ys σ H2 hi pv => ?_) (fun i x ys σ H2 hx pv => ?_) (fun ys σ H2 pv l hl => ?_)
  ·obtain ⟨_, _, h1, rfl⟩ := pv
   rw [List.length_map, List.length_map]
   refine zam (Nat.le_trans (List.length_filter_le _ _) ?_)
   rw [List.length_take]
   omega
  ·rw [pv.2.1]
   exact sqT hq
  ·obtain ⟨⟨v, v', rfl⟩, rfl, h1, rfl⟩ := pv
   obtain ⟨pr, r, hpr, rfl, hr'⟩ := zqw hps hx
   have hj : i < ps.length := (List.getElem?_eq_some_iff.mp hpr).1
   have ee := PySem.take_succ_filter (fun p : Nat × Int => n.testBit p.1) ps i pr hpr
   refine ⟨r, _, rfl, sqT hr', rfl, _, _, rfl, _, _, rfl, rfl, ?_⟩
   refine ⟨_, rfl, _, rfl, _, _, rfl, rfl, by omega, _, _, rfl, rfl, rfl, _, rfl, ?_⟩
   rw [ze9]
   refine zcv (fun c => ?_) (fun c => ?_)
   ·refine ⟨_, rfl, ⟨_, _, rfl⟩, rfl, hj, ?_⟩
    rw [ee, if_pos c, List.map_append, List.map_append]
    rfl
   ·refine ⟨⟨_, _, rfl⟩, rfl, hj, ?_⟩
    rw [ee, if_neg c, List.append_nil]
  ·obtain ⟨_, rfl, _, rfl⟩ := pv
   have sm := zad hl (.lst ((((ps.take xs.length).filter fun p => n.testBit p.1).map (·.2)).map V.int))
   refine ⟨l, _, rfl, SqL.of zab, _, rfl, p, _, _, _, rfl, rfl, sqT (sm _ _ hp), at1, _, _, rfl, rfl, ?_⟩
   have q1 := q _ sm
   have e : (Tie.most top ps).keep n = decide ((((ps.take xs.length).filter fun p => n.testBit p.1).map (·.2)).sum ≤ top) := by
    rw [lx, List.take_length]
    rfl
   rw [e] at q1
   exact q1
 | bough u lo hi ks =>
  obtain ⟨p, pk, rfl, hp, hpk⟩ := zjn hd
  have ok' : Tie.BoughOkW m u lo hi ks := ok
  have few := ok'.few
  refine ⟨_, rfl, p, _, _, _, rfl, rfl, sqT hp, at0, rfl, _, rfl, ?_⟩
  refine zb1 int_str ?_
  refine ⟨_, rfl, p, _, _, _, rfl, rfl, sqT hp, at0, rfl, _, rfl, ?_⟩
  refine zb1 int_str ?_
  refine ⟨_, rfl, p, _, _, _, rfl, rfl, sqT hp, at0, rfl, _, rfl, ?_⟩
  refine zb1 int_str ?_
  refine ⟨_, rfl, p, _, rfl, sqT hp, rfl, _, _, rfl, _, _, rfl, _, _, rfl, _, _, rfl, rfl, ?_⟩
  refine ⟨_, rfl, pk, rfl, ⟨_, sqT hpk⟩, ?_⟩
  refine zmx (K := K) (a := pk) (xs := zal ks) (fun i ys σ H2 => (∃ v, σ = [v, some (.int n)]) ∧ H2 = H ∧ ys = zal ((ks.take i).filter fun k => n.testBit k)) ⟨⟨none, rfl⟩, rfl, rfl⟩ (fun i ys σ H2 hi pv => ?_) (fun i ys σ H2 hi pv => ?_) (fun i x ys σ H2 hx pv => ?_) (fun ys σ H2 pv l hl => ?_)
  ·obtain ⟨_, _, rfl⟩ := pv
   rw [List.length_map]
   refine zam (Nat.le_trans (List.length_filter_le _ _) ?_)
   rw [List.length_take]
   omega
  ·rw [pv.2.1]
   exact sqT hpk
  ·obtain ⟨⟨v, rfl⟩, rfl, rfl⟩ := pv
   rw [List.getElem?_map] at hx
   obtain ⟨k, hk', rfl⟩ := Option.map_eq_some_iff.mp hx
   have et : ks.take (i + 1) = ks.take i ++ [k] := by rw [List.take_add_one, hk', Option.toList_some]
   refine ⟨_, rfl, _, rfl, _, _, rfl, rfl, by omega, _, _, rfl, rfl, rfl, _, rfl, ?_⟩
   rw [ze9]
   refine zcv (fun c => ?_) (fun c => ?_)
   ·refine ⟨_, rfl, ⟨_, rfl⟩, rfl, ?_⟩
    rw [et, List.filter_append, List.filter_cons_of_pos c]
    show _ = List.map _ (_ ++ _)
    rw [List.map_append]
    rfl
   ·refine ⟨⟨_, rfl⟩, rfl, ?_⟩
    rw [et, List.filter_append, List.filter_cons_of_neg c, List.filter_nil, List.append_nil]
  ·obtain ⟨_, rfl, rfl⟩ := pv
   rw [List.length_map, List.take_length] at *
   have sm := zad hl (.lst (zal (ks.filter fun k => n.testBit k)))
   refine ⟨l, _, rfl, .inl (SqL.of zab), ?_⟩
   have ec : (((zal (ks.filter fun k => n.testBit k)).length : Nat) : Int) = (cnt ks n : Int) := by
    rw [List.length_map]
    rfl
   rw [ec]
   have q1 := q _ sm
   refine ⟨_, rfl, _, rfl, _, _, rfl, rfl, by omega, _, _, rfl, rfl, rfl, _, rfl, ?_⟩
   rw [ze9]
   refine zcv (fun c => ?_) (fun c => ?_)
   ·rw [zut c] at q1
    refine ⟨_, rfl, _, rfl, _, _, rfl, rfl, _, rfl, ?_⟩
    refine zcv (fun c2 => ?_) (fun c2 => ?_)
    ·rw [c2, Bool.true_and] at q1
     exact ⟨_, rfl, _, _, rfl, rfl, q1⟩
    ·rw [Bool.eq_false_iff.mpr c2, Bool.false_and] at q1
     exact q1
   ·rw [zvk c, ← zhh] at q1
    exact ⟨_, rfl, rfl, q1⟩
end
section
variable {P : Program} {w : World} {K : PySem.W.Frag} {mg : Str → Option Value} {base : Heap} {a : Adr} {d : Fds}
theorem zk9 (T : Txt K mg a d) : FnOk P w K mg base CX0 2 a.f_law_broken d.f_law_broken ["_law_wood_here"] zq7 := by
 have G_law_keeps := zmb (P := P) (w := w) (base := base) T
 refine T.K_law_broken.ok sc_law_broken (fun vs H Q E h => ?_) (fun cdv A outer s H vs Q E hr h => ?_)
 ·obtain ⟨wd, m, ts, rfl, _⟩ := h
  rfl
 obtain ⟨wd, m, ts, rfl, W, m9, tl, q⟩ := h
 obtain ⟨xs, ys, ⟨tb, tc, hw, hb, hc⟩, dn⟩ := W.ex
 have p62 : (2 : Int) ^ 62 = 4611686018427387904 := by decide
 have pm := zsz m
 have pm2 : 2 ^ m ≤ 512 := Nat.le_trans (Nat.pow_le_pow_right (by decide) m9) (by decide)
 have lxy : xs.length + ys.length = ts.length := by
  have := dn.length
  rw [List.length_map, List.length_append] at this
  omega
 refine ⟨_, (zae (zdu (i := 1) sc_law_broken.nd rfl rfl rfl (sc0 := zai zd6) (XN := ["_law_wood_here", "_law_found", "_law_t", "_law_tie", "_law_some"]) (N' := ["_law_some"]) (n := 1) (kp := []) rfl (zbi rfl T.m_range (zaa (zap ze4 zaf (zaw (ixT (K := K)) (pv 0) zaf (fun _ _ => rfl))) zac)) rfl rfl (by decide +kernel) (fun _ _ _ _ _ => (zao (i := 0) (by show List.Nodup (["_law_some"] : List Str); decide +kernel) rfl (Or.inl rfl))) (fun _ _ _ _ _ => zgc) (fun _ _ _ _ _ => zaf))
   (zae (zbo PassesOwn.never rfl (zvw rfl T.m_enumerate (zaa (zap zcz (zb0 zd8 rfl T.m_list PyProof.Rows.boot_list (zaa (zaw (ixT (K := K)) (pv 0) zaf (fun _ _ => rfl)) zac)) (zb0 zd8 rfl T.m_list PyProof.Rows.boot_list (zaa (zaw (ixT (K := K)) (pv 0) zaf (fun _ _ => rfl)) zac))) zac)) (pgT (K := K) (n := 2) rfl (za6 (zao (i := 2) sc_law_broken.nd rfl (Or.inl rfl)) (za6 (zao (i := 3) sc_law_broken.nd rfl (Or.inl rfl)) zcy))) (zah (zbo PassesOwn.never rfl (zbi rfl T.m_range (zaa (zap ze4 zaf (zaw (ixT (K := K)) (pv 0) zaf (fun _ _ => rfl))) zac)) (zao (i := 4) sc_law_broken.nd rfl (Or.inl rfl)) (zah (za8 (zf1 (zcf (zag G_law_keeps hr.lv rfl T.K_law_keeps (zaa (pv 3) (zaa (pv 4) zac))))) (zah (zhy (zap zoe (zaw (ixL (K := K)) (pv 1) (pv 4) (fun _ _ => rfl)) (zap ze4 zaf (pv 2))) (ztw (pv 1) (pv 4) zod))) zaz)))))
   (zah (zau (pv 1))))), ?_⟩
 refine ⟨_, rfl, wd, _, _, _, rfl, rfl, sqT hw, at0, _, _, rfl, rfl, ⟨by omega, by omega, by decide⟩, _, rfl, by rw [zhx, p62]; omega, by rw [zhx, p62]; omega, ?_⟩
 rw [zhx, Int.toNat_natCast]
 refine zeb (k := 2 ^ m) (fun i zs σ H2 => (∃ v, σ = [v]) ∧ H2 = H ∧ zs = zal ((List.range i).map fun s => brk ts s 0)) ⟨⟨none, rfl⟩, rfl, rfl⟩ (fun i zs σ H2 hi pv => ?_) (fun i zs σ H2 hi pv => ?_) (fun zs σ H2 pv fl hfl => ?_)
 ·obtain ⟨_, _, rfl⟩ := pv
  rw [List.length_map, List.length_map, List.length_range]
  exact zam (by omega)
 ·obtain ⟨⟨v, rfl⟩, rfl, rfl⟩ := pv
  refine ⟨⟨_, rfl⟩, rfl, ?_⟩
  rw [List.range_succ, List.map_append]
  show _ = List.map _ (_ ++ _)
  rw [List.map_append]
  rfl
 obtain ⟨_, rfl, rfl⟩ := pv
 have s3 := zad hfl (.lst (zal ((List.range (2 ^ m)).map fun s => brk ts s 0)))
 have hfl3 : L2.upd H2 fl (.lst (zal ((List.range (2 ^ m)).map fun s => brk ts s 0))) fl = some (.lst (zal ((List.range (2 ^ m)).map fun s => brk ts s 0))) := zab
 generalize L2.upd H2 fl (.lst (zal ((List.range (2 ^ m)).map fun s => brk ts s 0))) = H3 at s3 hfl3 ⊢
 refine ⟨_, rfl, wd, _, _, _, rfl, rfl, sqT (s3 _ _ hw), at1, tb, _, rfl, .inr (sqT (s3 _ _ hb)), fun l1 hl1 => ?_⟩
 have s4 := zad hl1 (.lst xs)
 refine ⟨_, rfl, wd, _, _, _, rfl, rfl, sqT (s4 _ _ (s3 _ _ hw)), at2, tc, _, rfl, .inr (sqT (s4 _ _ (s3 _ _ hc))), fun l2 hl2 => ?_⟩
 have s5 := zad hl2 (.lst ys)
 refine ⟨l1, l2, _, _, rfl, rfl, s5 _ _ zab, zab, zam (by omega), fun l3 hl3 => ?_⟩
 have s6 := zad hl3 (.lst (xs ++ ys))
 have s36 := (s4.trans s5).trans s6
 have hl36 : L2.upd (L2.upd (L2.upd H3 l1 (.lst xs)) l2 (.lst ys)) l3 (.lst (xs ++ ys)) l3 = some (.lst (xs ++ ys)) := zab
 have n3 : fl ≠ l3 := zas ((s4.trans s5) _ _ hfl3) hl3
 generalize L2.upd (L2.upd (L2.upd H3 l1 (.lst xs)) l2 (.lst ys)) l3 (.lst (xs ++ ys)) = H6 at s36 hl36 ⊢
 have s06 := s3.trans s36
 have hfl6 := s36 _ _ hfl3
 have lsm : ∀ i : Nat, (zal ((List.range (2 ^ m)).map fun s => brk ts s i)).length = 2 ^ m := fun i => by rw [List.length_map, List.length_map, List.length_range]
 refine ⟨false, l3, rfl, ⟨_, SqL.of hl36⟩, ?_⟩
 refine ztn (K := K) (b := false) (a := l3) (xs := xs ++ ys) (fun i σ H7 => ∃ (v2 v3 v4 : Option V), σ = [some (.ref wd), some (.ref fl), v2, v3, v4] ∧ Same H2 H7 ∧ H7 l3 = some (.lst (xs ++ ys)) ∧ H7 fl = some (.lst (zal ((List.range (2 ^ m)).map fun s => brk ts s i)))) ⟨_, _, _, rfl, s06, hl36, hfl6⟩ (fun i σ H7 _ z => ?_) ?_ ?_
 ·obtain ⟨_, _, _, _, _, h7, _⟩ := z
  exact SqL.of h7
 ·rintro i x σ H7 hx ⟨v2, v3, v4, rfl, s7, hl7, hf7⟩ TT hT
  have il : i < ts.length := by
   have := (List.getElem?_eq_some_iff.mp hx).1
   rw [List.length_append] at this
   omega
  obtain ⟨t, ht, hd⟩ := zwm dn hx
  have s8 := zad hT (.tup [.int (i : Int), x])
  refine ⟨TT, _, rfl, sqT zab, rfl, _, _, rfl, _, _, rfl, rfl, ?_⟩
  have s78 := s7.trans s8
  have hl8 := s8 _ _ hl7
  have hf8 := s8 _ _ hf7
  generalize L2.upd H7 TT (.tup [.int (i : Int), x]) = H8 at s8 s78 hl8 hf8 ⊢
  refine ⟨_, rfl, wd, _, _, _, rfl, rfl, sqT (s78 _ _ hw), at0, _, _, rfl, rfl, ⟨by omega, by omega, by decide⟩, _, rfl, by rw [zhx, p62]; omega, by rw [zhx, p62]; omega, ?_⟩
  rw [zhx, Int.toNat_natCast]
  refine zb5 (n := 2 ^ m) (fun j σ H9 => ∃ (v4 : Option V), σ = [some (.ref wd), some (.ref fl), some (.int (i : Int)), some x, v4] ∧ Same H2 H9 ∧ H9 l3 = some (.lst (xs ++ ys)) ∧ H9 fl = some (.lst (zal ((List.range (2 ^ m)).map fun s => if s < j then brk ts s (i + 1) else brk ts s i)))) ⟨_, rfl, s78, hl8, ?_⟩ ?_ ?_
  ·rw [hf8]
   simp
  ·rintro j σ H9 hj ⟨v4, rfl, s9, hl9, hf9⟩
   have hbit : (ts[i]?.map fun t => t.keep j).getD true = t.keep j := by rw [ht]; rfl
   refine ⟨_, rfl, _, rfl, t, m, j, x, rfl, Dn.same s9 _ _ hd, W.ok t (List.mem_of_getElem? ht), by omega, fun HA sA => ?_⟩
   refine ⟨_, rfl, ?_⟩
   have hfA := sA _ _ hf9
   have same : ∀ g : Nat → Nat, (∀ s, s < 2 ^ m → g s = if s < j + 1 then brk ts s (i + 1) else brk ts s i) → zal ((List.range (2 ^ m)).map g) = zal ((List.range (2 ^ m)).map fun s => if s < j + 1 then brk ts s (i + 1) else brk ts s i) := fun g hg => by
    congr 1
    exact List.map_congr_left fun s hs => hg s (List.mem_range.mp hs)
   cases hk : t.keep j
   ·refine zl9 ?_
    refine ⟨_, rfl, _, rfl, fl, _, _, _, rfl, rfl, SqL.of hfA, zq1 hj, _, rfl, _, _, rfl, rfl, ⟨by omega, by omega, by decide⟩, _, _, rfl, rfl, ?_⟩
    refine ⟨_, rfl, _, rfl, fl, _, _, j, rfl, rfl, hfA, ?_, ?_⟩
    ·unfold ixN
     rw [List.length_map, List.length_map, List.length_range, if_pos (by omega), if_pos (by omega), Int.toNat_natCast]
    ·have ev : Builtin.bitOr ((if j < j then brk ts j (i + 1) else brk ts j i : Nat) : Int) (1 * (2 : Int) ^ ((i : Nat) : Int).toNat) = ((brk ts j (i + 1) : Nat) : Int) := by
      rw [if_neg (Nat.lt_irrefl _), zhx, zhp]
      show _ = ((brk ts j i ||| _ : Nat) : Int)
      rw [hbit, hk, if_neg (by decide)]
     dsimp only
     rw [ev]
     have es := zuh (m := 2 ^ m) (k := j) (f := fun s => if s < j then brk ts s (i + 1) else brk ts s i) (g := fun s => if s < j + 1 then brk ts s (i + 1) else brk ts s i) (fun s => by
      by_cases z : s = j
      ·rw [if_pos z, z]
      ·rw [if_neg z]
       by_cases z2 : s < j
       ·rw [if_pos z2, if_pos (by omega)]
       ·rw [if_neg z2, if_neg (by omega)]) hj
     rw [if_pos (Nat.lt_succ_self j)] at es
     rw [es]
     have nl : l3 ≠ fl := Ne.symm n3
     refine ⟨_, rfl, Same.put (s9.trans sA) hfl hfA, ?_, zab⟩
     rw [zak nl]
     exact sA _ _ hl9
   ·refine zek ?_
    refine ⟨_, rfl, s9.trans sA, sA _ _ hl9, ?_⟩
    rw [hfA]
    refine congrArg some (congrArg HO.lst (same _ fun s hs => ?_))
    by_cases z : s < j
    ·rw [if_pos z, if_pos (by omega)]
    ·rw [if_neg z]
     by_cases z2 : s = j
     ·subst z2
      rw [if_pos (Nat.lt_succ_self _)]
      show _ = brk ts s i ||| _
      rw [hbit, hk, if_pos rfl, Nat.or_zero]
     ·rw [if_neg (by omega)]
  ·rintro σ H9 ⟨v4, rfl, s9, hl9, hf9⟩
   refine ⟨_, _, _, rfl, s9, hl9, ?_⟩
   rw [hf9]
   refine congrArg some (congrArg HO.lst ?_)
   congr 1
   exact List.map_congr_left fun s hs => if_pos (List.mem_range.mp hs)
 ·rintro σ H7 ⟨v2, v3, v4, rfl, s7, hl7, hf7⟩
  rw [List.length_append, lxy] at hf7
  exact ⟨_, rfl, q fl _ s7 hfl hf7⟩
end
section
variable {P : Program} {w : World} {K : PySem.W.Frag} {mg : Str → Option Value} {base : Heap} {a : Adr} {d : Fds}
theorem zm0 (T : Txt K mg a d) : FnOk P w K mg base CX0 2 a.f_law_stand d.f_law_stand ["_law_chosen"] zo5 := by
 refine T.K_law_stand.ok sc_law_stand (fun vs H Q E h => ?_) (fun cdv A outer s H vs Q E hr h => ?_)
 ·obtain ⟨pl, ps, rfl, _⟩ := h
  rfl
 obtain ⟨pl, ps, rfl, PA, q⟩ := h
 obtain ⟨xs, hpl, pk⟩ := PA.ex
 have lx := pk.length
 refine ⟨_, (zae (zan (i := 1) sc_law_stand.nd rfl (Or.inl rfl) zaf)
   (zae (zan (i := 2) sc_law_stand.nd rfl (Or.inl rfl) zaf)
   (zae (zbo PassesOwn.never rfl (piL (K := K) (pv 0)) (pgT (K := K) (n := 2) rfl (za6 (zao (i := 3) sc_law_stand.nd rfl (Or.inl rfl)) (za6 (zao (i := 4) sc_law_stand.nd rfl (Or.inl rfl)) zcy))) (zah (za8 (zcf (pv 4)) (zah (zan (i := 1) sc_law_stand.nd rfl (Or.inl rfl) (zap zoe (pv 1) (zap ze4 zaf (pv 3))))) (zah (zan (i := 2) sc_law_stand.nd rfl (Or.inl rfl) (zap zoe (pv 2) (zap ze4 zaf (pv 3))))))))
   (zah (zau (za9 (zaa (pv 1) (zaa (pv 2) zac)))))))), ?_⟩
 refine ⟨_, rfl, pl, rfl, ⟨_, SqL.of hpl⟩, ?_⟩
 refine zbz (K := K) (a := pl) (xs := xs) (fun i σ H2 => (∃ v3 v4 : Option V, σ = [some (.ref pl), some (.int (zaj (ps.take i) : Int)), some (.int (zaq (ps.take i) : Int)), v3, v4]) ∧ H2 = H) ⟨⟨none, none, rfl⟩, rfl⟩ (fun i σ H2 _ z => by rw [z.2]; exact SqL.of hpl) ?_ ?_
 ·rintro i x σ H2 hx ⟨⟨v3, v4, rfl⟩, rfl⟩
  obtain ⟨p, t, hp, rfl, ht⟩ := pk.get hx
  have et : ps.take (i + 1) = ps.take i ++ [p] := by rw [List.take_add_one, hp, Option.toList_some]
  have ple := PA.le p (List.mem_of_getElem? hp)
  refine ⟨t, _, rfl, sqT ht, rfl, _, _, rfl, _, _, rfl, rfl, ?_⟩
  refine ⟨_, rfl, _, rfl, ?_⟩
  cases e : p.2
  ·refine zek ?_
   refine ⟨_, rfl, _, rfl, _, _, rfl, rfl, ⟨by omega, by omega, by decide⟩, _, _, rfl, rfl, ?_⟩
   refine ⟨⟨some (.int (p.1 : Int)), some (.bl false), ?_⟩, rfl⟩
   rw [et, zhk, zjd, e, if_neg Bool.false_ne_true, if_neg Bool.false_ne_true, ← zhp, ← zhx]
   rfl
  ·refine zl9 ?_
   refine ⟨_, rfl, _, rfl, _, _, rfl, rfl, ⟨by omega, by omega, by decide⟩, _, _, rfl, rfl, ?_⟩
   refine ⟨⟨some (.int (p.1 : Int)), some (.bl true), ?_⟩, rfl⟩
   rw [et, zhk, zjd, e, if_pos rfl, if_pos rfl, ← zhp, ← zhx]
   rfl
 ·rintro σ H2 ⟨⟨v3, v4, rfl⟩, rfl⟩
  rw [← lx, List.take_length]
  refine ⟨_, rfl, _, rfl, zam (by show 2 ≤ 1000; decide), fun t ht => ?_⟩
  exact q t _ (zad ht _) zab
end
section
variable {P : Program} {w : World} {K : PySem.W.Frag} {mg : Str → Option Value} {base : Heap} {a : Adr} {d : Fds}
theorem zdl (T : Txt K mg a d) : FnOk P w K mg base CX0 4 a.f_law_sets d.f_law_sets ["_law_broken_here", "_law_ties", "_law_chosen"] zvn := by
 have G_law_stand := zm0 (P := P) (w := w) (base := base) T
 refine T.K_law_sets.ok sc_law_sets (fun vs H Q E h => ?_) (fun cdv A outer s H vs Q E hr h => ?_)
 ·obtain ⟨bl, pl, B, ti, ps, rfl, _⟩ := h
  rfl
 obtain ⟨bl, pl, B, ti, ps, rfl, hB, few, PA, q⟩ := h
 have p62 : (2 : Int) ^ 62 = 4611686018427387904 := by decide
 refine ⟨_, (zae (zhy (zag G_law_stand hr.lv rfl T.K_law_stand (zaa (pv 2) zac)) (pgT (K := K) (n := 2) rfl (za6 (zao (i := 3) sc_law_sets.nd rfl (Or.inl rfl)) (za6 (zao (i := 4) sc_law_sets.nd rfl (Or.inl rfl)) zcy))))
   (zae (zan (i := 5) sc_law_sets.nd rfl (Or.inl rfl) (za7 zac))
   (zae (zbo PassesOwn.never rfl (zbi rfl T.m_range (zaa (za3 (zep (K := K)) rfl T.m_len PySem.boot_len (zaa (pv 0) zac)) zac)) (zao (i := 6) sc_law_sets.nd rfl (Or.inl rfl)) (zah (za8 (PW.pt (zfu (zar zbx (zap zcu (pv 6) (pv 3)) (pv 3) (zat _)) (zfu (zar zbx (zap zcu (pv 6) (pv 4)) zaf (zat _)) (zfc (zar zbx (zap zcu (zaw (ixL (K := K)) (pv 0) (pv 6) (fun _ _ => rfl)) (pv 1)) zaf (zat _)))))) (zah (zcb (zdx (K := K) PySem.F.plainAttrs_list PySem.F.slot_list_append PySem.F.type_list_append zb2 (pv 5) (zaa (pv 6) zac)))) zaz)))
   (zah (zau (pv 5)))))), ?_⟩
 refine ⟨_, rfl, pl, ps, rfl, PA, fun t H1 s1 ht => ?_⟩
 refine ⟨t, _, rfl, sqT ht, rfl, _, _, rfl, _, _, rfl, rfl, ?_⟩
 refine ⟨zam (by show 0 ≤ 1000; decide), fun lf hlf => ?_⟩
 have s2 := s1.trans (zad hlf (.lst []))
 have g2 : L2.upd H1 lf (.lst []) lf = some (.lst []) := zab
 have nf := s1.free hlf
 generalize L2.upd H1 lf (.lst []) = H2 at s2 g2 ⊢
 have lB : (zal B).length = B.length := List.length_map _
 refine ⟨_, rfl, bl, _, rfl, .inl (SqL.of (s2 _ _ hB)), _, rfl, by rw [lB, p62]; omega, by rw [lB, p62]; omega, ?_⟩
 rw [lB, Int.toNat_natCast]
 refine zb5 (n := B.length) (fun i σ H3 => ∃ v6 : Option V, σ = [some (.ref bl), some (.int ti), some (.ref pl), some (.int (zaj ps : Int)), some (.int (zaq ps : Int)), some (.ref lf), v6] ∧ Same H H3 ∧ H3 lf = some (.lst (zal ((List.range i).filter (zfn B ti (zaj ps) (zaq ps)))))) ⟨none, rfl, s2, g2⟩ ?_ ?_
 ·rintro i σ H3 hi ⟨v6, rfl, s3, g3⟩
  have hB3 : H3 bl = some (.lst (zal B)) := s3 _ _ hB
  have lf3 : ((List.range i).filter (zfn B ti (zaj ps) (zaq ps))).length ≤ i := by
   have := List.length_filter_le (zfn B ti (zaj ps) (zaq ps)) (List.range i)
   rwa [List.length_range] at this
  have step : ∀ b, zfn B ti (zaj ps) (zaq ps) i = b → (List.range (i + 1)).filter (zfn B ti (zaj ps) (zaq ps)) = (List.range i).filter (zfn B ti (zaj ps) (zaq ps)) ++ (if b = true then [i] else []) := fun b e => by
   rw [List.range_succ, List.filter_append]
   cases b <;> simp [e]
  have no : zfn B ti (zaj ps) (zaq ps) i = false → ∃ v6 : Option V, [some (.ref bl), some (.int ti), some (.ref pl), some (.int (zaj ps : Int)), some (.int (zaq ps : Int)), some (.ref lf), some (V.int (i : Int))] = [some (.ref bl), some (.int ti), some (.ref pl), some (.int (zaj ps : Int)), some (.int (zaq ps : Int)), some (.ref lf), v6] ∧ Same H H3 ∧ H3 lf = some (.lst (zal ((List.range (i + 1)).filter (zfn B ti (zaj ps) (zaq ps))))) := fun e => ⟨_, rfl, s3, by rw [step _ e, if_neg Bool.false_ne_true, List.append_nil]; exact g3⟩
  refine ⟨_, rfl, _, rfl, _, _, rfl, rfl, _, rfl, rfl, _, rfl, ?_⟩
  by_cases c1 : i &&& zaj ps = zaj ps
  ·refine zfa (show V.int (Builtin.bitAnd (i : Int) (zaj ps : Int)) = V.int (zaj ps : Int) by rw [zdv, c1]) ?_
   refine ⟨_, rfl, _, rfl, _, _, rfl, rfl, rfl, _, rfl, ?_⟩
   by_cases c2 : i &&& zaq ps = 0
   ·refine zfa (show V.int (Builtin.bitAnd (i : Int) (zaq ps : Int)) = V.int 0 by rw [zdv, c2]; rfl) ?_
    have gi : B[i]? = some B[i] := List.getElem?_eq_getElem hi
    refine ⟨_, rfl, _, rfl, bl, _, _, .int (B[i] : Int), rfl, rfl, SqL.of hB3, zdj (by rw [List.getElem?_map, gi]; rfl), _, rfl, _, _, rfl, rfl, rfl, _, rfl, ?_⟩
    by_cases c3 : Builtin.bitAnd (B[i] : Int) ti = 0
    ·refine zfa (show V.int (Builtin.bitAnd (B[i] : Int) ti) = V.int 0 by rw [c3]) ?_
     have e : zfn B ti (zaj ps) (zaq ps) i = true := by
      unfold zfn
      rw [gi, Option.getD_some, decide_eq_true c1, decide_eq_true c2, decide_eq_true c3]
      rfl
     refine ⟨_, rfl, .inl ⟨rfl, _, SqL.of g3⟩, _, rfl, lf, _, _, rfl, rfl, g3, zbd (by rw [List.length_map]; omega), ?_⟩
     refine ⟨_, rfl, Same.put s3 nf g3, ?_⟩
     rw [step _ e, if_pos rfl, zh4]
     exact zab
    ·refine zb1 (fun z : V.int (Builtin.bitAnd (B[i] : Int) ti) = V.int 0 => c3 (by injection z)) ?_
     refine no ?_
     unfold zfn
     rw [gi, Option.getD_some, decide_eq_false c3, Bool.and_false, Bool.and_false]
   ·refine zb1 (fun z : V.int (Builtin.bitAnd (i : Int) (zaq ps : Int)) = V.int 0 => by
     injection z with z
     rw [zdv] at z
     exact c2 (by omega)) ?_
    refine zek ?_
    refine no ?_
    unfold zfn
    rw [decide_eq_false c2, Bool.false_and, Bool.and_false]
  ·refine zb1 (fun z : V.int (Builtin.bitAnd (i : Int) (zaj ps : Int)) = V.int (zaj ps : Int) => by
    injection z with z
    rw [zdv] at z
    exact c1 (by omega)) ?_
   refine zek ?_
   refine no ?_
   unfold zfn
   rw [decide_eq_false c1, Bool.false_and]
 ·rintro σ H3 ⟨v6, rfl, s3, g3⟩
  exact ⟨_, rfl, q lf _ s3 nf g3⟩
end
section
variable {P : Program} {w : World} {K : PySem.W.Frag} {mg : Str → Option Value} {base : Heap} {a : Adr} {d : Fds}
theorem zk4 (T : Txt K mg a d) (f : Nat) (G_law_tree : FnOk P w K mg base CX0 (f + 1) a.f_law_tree d.f_law_tree ["_law_broken_here", "_law_ties", "_law_sets_here"] (zl8 f)) : FnOk P w K mg base CX0 (f + 2) a.f_law_tree d.f_law_tree ["_law_broken_here", "_law_ties", "_law_sets_here"] (zl8 (f + 1)) := by
 refine T.K_law_tree.ok sc_law_tree (fun vs H Q E h => ?_) (fun cdv A outer s H vs Q E hr h => ?_)
 ·obtain ⟨bl, sl, m, t1, il, y, n, F, M, rfl, _⟩ := h
  rfl
 obtain ⟨bl, sl, m, t1, il, y, n, F, M, rfl, hbl, hsl, S, m9, ok1, hM, ilp, l17, ilt, hf, hF, q⟩ := h
 have p62 : (2 : Int) ^ 62 = 4611686018427387904 := by decide
 have fewS := zti (y := y) (n := n) m9
 have lsl : (zal (za0 m y n)).length = (za0 m y n).length := List.length_map _
 have smem : ∀ s' ∈ za0 m y n, s' < 2 ^ m := fun s' hs => ((zde S).mp hs).1
 refine ⟨_, (zae (zan (i := 3) sc_law_tree.nd rfl (Or.inr rfl) (pv 1))
   (zae (zbo PassesOwn.never rfl (piL (K := K) (pv 2)) (zao (i := 4) sc_law_tree.nd rfl (Or.inl rfl)) (zah (zan (i := 3) sc_law_tree.nd rfl (Or.inr rfl) (zap zcu (pv 3) (zaw (ixL (K := K)) (pv 0) (pv 4) (fun _ _ => rfl))))))
   (zae (za8 (zar zqz (pv 3) zaf (zat _)) (zah (zau (za9 (zaa zc0 (zaa (zaw (ixL (K := K)) (zef (sc0 := zai zdg) (XN := ["_law_broken_here", "_law_ties", "_law_sets_here", "_law_sure", "_law_some", "_law_k", "_law_one", "_law_other"]) (N' := ["_law_t", "_law_sure"]) (n := 1) (kp := [3]) rfl (zbi rfl T.m_range (zaa zaf zac)) rfl rfl (by decide +kernel) (fun _ _ _ _ _ => (zao (i := 0) (by show List.Nodup (["_law_t", "_law_sure"] : List Str); decide +kernel) rfl (Or.inl rfl))) (fun _ _ _ _ _ => (zbu (zar zbx (zap zcu (zap zdw (pv 1) (pv 0)) zaf) zaf (zat _)))) (fun _ _ _ _ _ => (pv 0))) zaf (fun _ _ => rfl)) zac))))) zaz)
   (zae (zbo PassesOwn.never rfl (zbi rfl T.m_range (zaa zaf zac)) (zao (i := 5) sc_law_tree.nd rfl (Or.inr rfl)) (zae (zdu (i := 6) sc_law_tree.nd rfl rfl rfl (sc0 := zai zdg) (XN := ["_law_broken_here", "_law_ties", "_law_sets_here", "_law_sure", "_law_some", "_law_k", "_law_one", "_law_other"]) (N' := ["_law_some", "_law_k"]) (n := 1) (kp := [5]) rfl (piL (K := K) (pv 2)) rfl rfl (by decide +kernel) (fun _ _ _ _ _ => (zao (i := 0) (by show List.Nodup (["_law_some", "_law_k"] : List Str); decide +kernel) rfl (Or.inl rfl))) (fun _ _ _ _ _ => (zbu (zar zbx (zap zcu (zap zdw (pv 0) (pv 1)) zaf) zaf (zat _)))) (fun _ _ _ _ _ => (pv 0)))
   (zah (za8 (zul zjv zjv zaf (za3 (zep (K := K)) rfl T.m_len PySem.boot_len (zaa (pv 6) zac)) (za3 (zep (K := K)) rfl T.m_len PySem.boot_len (zaa (pv 2) zac))) (zae (zdu (i := 7) sc_law_tree.nd rfl rfl rfl (sc0 := zai zdg) (XN := ["_law_broken_here", "_law_ties", "_law_sets_here", "_law_sure", "_law_some", "_law_k", "_law_one", "_law_other"]) (N' := ["_law_some", "_law_k"]) (n := 1) (kp := [5]) rfl (piL (K := K) (pv 2)) rfl rfl (by decide +kernel) (fun _ _ _ _ _ => (zao (i := 0) (by show List.Nodup (["_law_some", "_law_k"] : List Str); decide +kernel) rfl (Or.inl rfl))) (fun _ _ _ _ _ => (zbu (zar zbx (zap zcu (zap zdw (pv 0) (pv 1)) zaf) zaf (zat _)))) (fun _ _ _ _ _ => (pv 0)))
   (zah (zau (za9 (zaa zc0 (zaa (pv 5) (zaa (zag G_law_tree hr.lv rfl T.K_law_tree (zaa (pv 0) (zaa (pv 1) (zaa (pv 6) zac)))) (zaa (zag G_law_tree hr.lv rfl T.K_law_tree (zaa (pv 0) (zaa (pv 1) (zaa (pv 7) zac)))) zac)))))))) zaz))))
   (zah (zau (za9 (zaa zc0 zac)))))))), ?_⟩
 refine ⟨_, rfl, ?_⟩
 refine ⟨_, rfl, sl, rfl, ⟨_, SqL.of hsl⟩, ?_⟩
 refine zbz (K := K) (a := sl) (xs := zal (za0 m y n)) (fun i σ H2 => H2 = H ∧ ∃ (v5 : Option V), σ = [some (.ref bl), some (.int (M : Int)), some (.ref sl), some (.int (((za0 m y n).take i).foldl (fun (x : Int) s => Builtin.bitAnd x ((brk t1 s t1.length : Nat) : Int)) (M : Int))), v5, none, none, none]) ⟨rfl, _, rfl⟩ (fun i σ H2 _ z => by rw [z.1]; exact SqL.of hsl) ?_ ?_
 ·rintro i x σ H2 hx ⟨rfl, v5, rfl⟩
  rw [List.getElem?_map] at hx
  obtain ⟨so, hso, rfl⟩ := Option.map_eq_some_iff.mp hx
  have sm := smem so (List.mem_of_getElem? hso)
  have et : (za0 m y n).take (i + 1) = (za0 m y n).take i ++ [so] := by rw [List.take_add_one, hso, Option.toList_some]
  refine ⟨_, rfl, _, rfl, _, rfl, bl, _, _, _, rfl, rfl, SqL.of hbl, zq1 (f := fun s => brk t1 s t1.length) sm, _, _, rfl, rfl, ?_⟩
  refine ⟨rfl, some (.int (so : Int)), ?_⟩
  rw [et, List.foldl_append]
  rfl
 rintro σ H2 ⟨rfl, v5, rfl⟩
 rw [lsl, List.take_length]
 obtain ⟨s0, l', el⟩ : ∃ s0 l', za0 m y n = s0 :: l' := by
  cases h : za0 m y n with
  | nil => have := zhd S; rw [h] at this; cases this
  | cons a b => exact ⟨a, b, rfl⟩
 obtain ⟨r, er, rb0⟩ := zms (fun s => brk t1 s t1.length) (za0 m y n) M
 have rb := zye S ok1 hM ilt rb0
 rw [er]
 refine ⟨_, rfl, rfl, _, rfl, ?_⟩
 cases hb : za5 t1 il y n with
 | some tt =>
  have rne : ¬ r = 0 := fun z => by rw [(zjz rb).mp z] at hb; cases hb
  refine ziq (fun z => rne (by injection z with z; omega)) ?_
  refine ⟨_, rfl, by rw [p62]; decide, by rw [p62]; decide, ?_⟩
  refine zeb (k := 17) (fun i zs σ H3 => (∃ v, σ = [v, some (.int (r : Int))]) ∧ H3 = H2 ∧ zs = zal ((List.range i).filter fun k => r.testBit k)) ⟨⟨none, rfl⟩, rfl, rfl⟩ (fun i zs σ H3 hi pv => ?_) (fun i zs σ H3 hi pv => ?_) (fun zs σ H3 pv l5 hl5 => ?_)
  ·obtain ⟨_, _, rfl⟩ := pv
   rw [List.length_map]
   refine zam (Nat.le_trans (List.length_filter_le _ _) ?_)
   rw [List.length_range]
   omega
  ·obtain ⟨⟨v, rfl⟩, rfl, rfl⟩ := pv
   refine ⟨_, rfl, _, rfl, _, _, rfl, rfl, by omega, _, _, rfl, rfl, rfl, _, rfl, ?_⟩
   rw [ze9]
   refine zcv (fun c => ?_) (fun c => ?_)
   ·refine ⟨_, rfl, ⟨_, rfl⟩, rfl, ?_⟩
    rw [List.range_succ, List.filter_append, List.filter_cons_of_pos c]
    show _ = List.map _ (_ ++ _)
    rw [List.map_append]
    rfl
   ·refine ⟨⟨_, rfl⟩, rfl, ?_⟩
    rw [List.range_succ, List.filter_append, List.filter_cons_of_neg c, List.filter_nil, List.append_nil]
  obtain ⟨_, rfl, rfl⟩ := pv
  have hd := zn2 ilp l17 rb
  rw [hb] at hd
  obtain ⟨rest, hfl⟩ : ∃ rest, (List.range 17).filter (fun k => r.testBit k) = tt :: rest := by
   cases h : (List.range 17).filter (fun k => r.testBit k) with
   | nil => rw [h] at hd; cases hd
   | cons a b => rw [h] at hd; cases hd; exact ⟨b, rfl⟩
  rw [hfl] at *
  have s4 := zad hl5 (.lst (zal (tt :: rest)))
  refine ⟨l5, _, _, _, rfl, rfl, SqL.of zab, at0, zam (by show 2 ≤ 1000; decide), fun tp htp => ?_⟩
  have s5 := zad htp (.tup [.str ("broken" : Str), .int (tt : Int)])
  refine q _ _ (s4.trans s5) ?_
  rw [zgo hb]
  exact ⟨tp, _, rfl, zab, _, _, rfl, rfl, _, _, rfl, rfl, rfl⟩
 | none =>
  have rz := (zjz rb).mpr hb
  refine zgp (by rw [rz]; rfl) ?_
  refine ⟨_, rfl, by rw [p62]; decide, by rw [p62]; decide, ?_⟩
  refine zb5 (n := 9) (fun i σ H3 => Same H2 H3 ∧ (∀ j, j < i → j ∉ zay m y n) ∧ ∃ (v5 v6 v7 : Option V), σ = [some (.ref bl), some (.int (M : Int)), some (.ref sl), some (.int (r : Int)), v5, v6, v7, none]) ⟨Same.refl _, fun j hj => absurd hj (Nat.not_lt_zero j), _, _, _, rfl⟩ ?_ ?_
  ·rintro k σ H3 hk ⟨s3, noo, v5, v6, v7, rfl⟩
   have hsl3 := s3 _ _ hsl
   refine ⟨_, rfl, sl, rfl, ⟨_, SqL.of hsl3⟩, ?_⟩
   refine zco (K := K) (a := sl) (xs := zal (za0 m y n)) (fun i ys σ H4 => (∃ v, σ = [v, some (.int (k : Int))]) ∧ H4 = H3 ∧ ys = zal (((za0 m y n).take i).filter fun s => s.testBit k)) ⟨⟨none, rfl⟩, rfl, rfl⟩ (fun i ys σ H4 hi pv => ?_) (fun i ys σ H4 hi pv => ?_) (fun i x ys σ H4 hx pv => ?_) (fun ys σ H4 pv on hon => ?_)
   ·obtain ⟨_, _, rfl⟩ := pv
    rw [List.length_map]
    refine zam (Nat.le_trans (List.length_filter_le _ _) ?_)
    rw [List.length_take]
    omega
   ·rw [pv.2.1]; exact SqL.of hsl3
   ·obtain ⟨⟨v, rfl⟩, rfl, rfl⟩ := pv
    rw [List.getElem?_map] at hx
    obtain ⟨so, hso, rfl⟩ := Option.map_eq_some_iff.mp hx
    have et : (za0 m y n).take (i + 1) = (za0 m y n).take i ++ [so] := by rw [List.take_add_one, hso, Option.toList_some]
    refine ⟨_, rfl, _, rfl, _, _, rfl, rfl, by omega, _, _, rfl, rfl, rfl, _, rfl, ?_⟩
    rw [ze9]
    refine zcv (fun c => ?_) (fun c => ?_)
    ·refine ⟨_, rfl, ⟨_, rfl⟩, rfl, ?_⟩
     rw [et, List.filter_append, List.filter_cons_of_pos (p := fun s : Nat => s.testBit k) c]
     show _ = List.map _ (_ ++ _)
     rw [List.map_append]
     rfl
    ·refine ⟨⟨_, rfl⟩, rfl, ?_⟩
     rw [et, List.filter_append, List.filter_cons_of_neg (p := fun s : Nat => s.testBit k) c, List.filter_nil, List.append_nil]
   obtain ⟨_, rfl, rfl⟩ := pv
   rw [lsl, List.take_length]
   have s4 := zad hon (.lst (zal ((za0 m y n).filter fun s => s.testBit k)))
   have hon4 : L2.upd H4 on (.lst (zal ((za0 m y n).filter fun s => s.testBit k))) on = some (.lst (zal ((za0 m y n).filter fun s => s.testBit k))) := zab
   have s24 := s3.trans s4
   generalize L2.upd H4 on (.lst (zal ((za0 m y n).filter fun s => s.testBit k))) = H5 at s4 hon4 s24 ⊢
   have hsl5 := s24 _ _ hsl
   refine ⟨_, rfl, on, _, rfl, .inl (SqL.of hon4), _, _, rfl, rfl, _, rfl, ?_⟩
   have lo : (zal ((za0 m y n).filter fun s => s.testBit k)).length = ((za0 m y n).filter fun s => s.testBit k).length := List.length_map _
   by_cases ko : k ∈ zay m y n
   ·have e1 := ztu S ko
    have e2 := zp3 S ko
    have p1 : 0 < ((za0 m y n).filter fun s => s.testBit k).length := by rw [e1]; exact List.length_pos_of_mem (zhd (S.one ko))
    have p2 : ((za0 m y n).filter fun s => s.testBit k).length < (za0 m y n).length := by
     refine Nat.lt_of_le_of_ne (List.length_filter_le _ _) fun z => ?_
     have := (List.length_filter_eq_length_iff.mp z) y (zhd S)
     rw [(mem_open.mp ko).2.1] at this
     cases this
    refine zi2 (decide_eq_true (by rw [lo]; omega)) ?_
    refine ⟨_, rfl, sl, _, rfl, .inl (SqL.of hsl5), _, _, rfl, rfl, _, rfl, ?_⟩
    refine zi2 (decide_eq_true (by rw [lo, lsl]; omega)) ?_
    refine ⟨_, rfl, sl, rfl, ⟨_, SqL.of hsl5⟩, ?_⟩
    refine zco (K := K) (a := sl) (xs := zal (za0 m y n)) (fun i ys σ H6 => (∃ v, σ = [v, some (.int (k : Int))]) ∧ H6 = H5 ∧ ys = zal (((za0 m y n).take i).filter fun s => !s.testBit k)) ⟨⟨none, rfl⟩, rfl, rfl⟩ (fun i ys σ H6 hi pv => ?_) (fun i ys σ H6 hi pv => ?_) (fun i x ys σ H6 hx pv => ?_) (fun ys σ H6 pv om hom => ?_)
    ·obtain ⟨_, _, rfl⟩ := pv
     rw [List.length_map]
     refine zam (Nat.le_trans (List.length_filter_le _ _) ?_)
     rw [List.length_take]
     omega
    ·rw [pv.2.1]; exact SqL.of hsl5
    ·obtain ⟨⟨v, rfl⟩, rfl, rfl⟩ := pv
     rw [List.getElem?_map] at hx
     obtain ⟨so, hso, rfl⟩ := Option.map_eq_some_iff.mp hx
     have et : (za0 m y n).take (i + 1) = (za0 m y n).take i ++ [so] := by rw [List.take_add_one, hso, Option.toList_some]
     refine ⟨_, rfl, _, rfl, _, _, rfl, rfl, by omega, _, _, rfl, rfl, rfl, _, rfl, ?_⟩
     rw [zte]
     refine zcv (fun c => ?_) (fun c => ?_)
     ·refine ⟨_, rfl, ⟨_, rfl⟩, rfl, ?_⟩
      rw [et, List.filter_append, List.filter_cons_of_pos (p := fun s : Nat => !s.testBit k) c]
      show _ = List.map _ (_ ++ _)
      rw [List.map_append]
      rfl
     ·refine ⟨⟨_, rfl⟩, rfl, ?_⟩
      rw [et, List.filter_append, List.filter_cons_of_neg (p := fun s : Nat => !s.testBit k) c, List.filter_nil, List.append_nil]
    obtain ⟨_, rfl, rfl⟩ := pv
    rw [lsl, List.take_length]
    have s7 := zad hom (.lst (zal ((za0 m y n).filter fun s => !s.testBit k)))
    have hom7 : L2.upd H6 om (.lst (zal ((za0 m y n).filter fun s => !s.testBit k))) om = some (.lst (zal (za0 m y (n ||| 2 ^ k)))) := by rw [zab, e2]
    have s27 := s24.trans s7
    have hon7 := s7 _ _ hon4
    rw [e1] at hon7
    generalize L2.upd H6 om (.lst (zal ((za0 m y n).filter fun s => !s.testBit k))) = H7 at s7 hom7 s27 hon7 ⊢
    have l1 := zei ko
    have l2 := zen ko
    obtain ⟨F', rfl⟩ : ∃ F', F = F' + 1 := ⟨F - 1, by have := List.length_pos_of_mem ko; omega⟩
    have hopen : ∃ rr, zay m y n = k :: rr := by
     obtain ⟨pre, post, e⟩ := List.append_of_mem ko
     cases pre with
     | nil => exact ⟨post, e⟩
     | cons j pre =>
      have jm : j ∈ zay m y n := by rw [e]; exact List.mem_cons_self
      have pw : (zay m y n).Pairwise (· < ·) := List.Pairwise.filter _ List.pairwise_lt_range
      rw [e] at pw
      have : j < k := (List.pairwise_cons.mp pw).1 k (List.mem_append_right _ List.mem_cons_self)
      exact absurd jm (noo j this)
    obtain ⟨rr, hopen⟩ := hopen
    refine ⟨_, rfl, _, rfl, _, rfl, _, rfl, bl, on, m, t1, il, y ||| 2 ^ k, n, F', M, rfl, s27 _ _ hbl, hon7, S.one ko, m9, ok1, hM, ilp, l17, ilt, by omega, by omega, fun va H8 s8 da => ?_⟩
    refine ⟨_, rfl, _, rfl, _, rfl, bl, om, m, t1, il, y, n ||| 2 ^ k, F', M, rfl, (s27.trans s8) _ _ hbl, s8 _ _ hom7, S.other ko, m9, ok1, hM, ilp, l17, ilt, by omega, by omega, fun vb H9 s9 db => ?_⟩
    refine ⟨zam (by show 4 ≤ 1000; decide), fun tp htp => ?_⟩
    have s10 := zad htp (.tup [.str ("split" : Str), .int (k : Int), va, vb])
    refine q _ _ (((s27.trans s8).trans s9).trans s10) ?_
    rw [zg7 hb hopen]
    exact ⟨tp, _, rfl, zab, _, _, rfl, rfl, _, _, rfl, rfl, _, _, rfl, Dn.same (s9.trans s10) _ _ da, _, _, rfl, Dn.same s10 _ _ db, rfl⟩
   ·have nxt : ∀ H6, Same H2 H6 → (Same H2 H6 ∧ (∀ j, j < k + 1 → j ∉ zay m y n) ∧ ∃ (v5' v6 v7 : Option V), [some (V.ref bl), some (V.int (M : Int)), some (V.ref sl), some (V.int (r : Int)), v5, some (V.int (k : Int)), some (V.ref on), none] = [some (.ref bl), some (.int (M : Int)), some (.ref sl), some (.int (r : Int)), v5', v6, v7, none]) := fun H6 s6 => ⟨s6, fun j hj => by
      by_cases z : j = k
      ·rw [z]; exact ko
      ·exact noo j (by omega), _, _, _, rfl⟩
    rcases znz S ko with z | z
    ·refine zhf (decide_eq_false (by rw [lo, z]; decide)) ?_
     refine ⟨_, rfl, ?_⟩
     refine zek ?_
     exact nxt _ s24
    ·refine zi2 (decide_eq_true (by rw [lo, z, el]; show (0 : Int) < ((l'.length + 1 : Nat) : Int); omega)) ?_
     refine ⟨_, rfl, sl, _, rfl, .inl (SqL.of hsl5), _, _, rfl, rfl, _, rfl, ?_⟩
     refine zhf (decide_eq_false (by rw [lo, lsl, z]; omega)) ?_
     exact nxt _ s24
  ·rintro σ H3 ⟨s3, noo, v5, v6, v7, rfl⟩
   have : zay m y n = [] := by
    cases h : zay m y n with
    | nil => rfl
    | cons j rr =>
     have jm : j ∈ zay m y n := by rw [h]; exact List.mem_cons_self
     exact absurd jm (noo j (by have := (mem_open.mp jm).1; omega))
   refine ⟨zam (by show 1 ≤ 1000; decide), fun tp htp => ?_⟩
   have s4 := zad htp (.tup [.str ("ware" : Str)])
   refine q _ _ (s3.trans s4) ?_
   rw [zim hb this]
   exact ⟨tp, _, rfl, zab, _, _, rfl, rfl, rfl⟩
theorem zin (T : Txt K mg a d) : ∀ f : Nat, FnOk P w K mg base CX0 (f + 1) a.f_law_tree d.f_law_tree ["_law_broken_here", "_law_ties", "_law_sets_here"] (zl8 f)
 | 0 => by
  refine T.K_law_tree.ok sc_law_tree (fun vs H Q E h => ?_) (fun cdv A outer s H vs Q E hr h => ?_)
  ·obtain ⟨bl, sl, m, t1, il, y, n, F, M, rfl, _⟩ := h
   rfl
  ·obtain ⟨bl, sl, m, t1, il, y, n, F, M, rfl, _, _, _, _, _, _, _, _, _, hf, _⟩ := h
   exact absurd hf (Nat.not_lt_zero _)
 | f + 1 => zk4 T f (zin T f)
end
section
variable {P : Program} {w : World} {K : PySem.W.Frag} {mg : Str → Option Value} {base : Heap} {a : Adr} {d : Fds}
theorem zid (T : Txt K mg a d) : FnOk P w K mg base CX0 20 a.f_Choice_choose d.f_Choice_choose ["self", "k", "value"] (zst a.x_Choice) := by
 have G_open_at := zj7 (P := P) (w := w) (base := base) T
 have G_leads_on := zij (P := P) (w := w) (base := base) T
 refine T.K_Choice_choose.ok zia (fun vs H Q E h => ?_) (fun cdv A outer s H vs Q E hr h => ?_)
 ·obtain ⟨c, dx, wd, pl, m, ts, ps, k, b, rfl, _⟩ := h
  rfl
 obtain ⟨c, dx, wd, pl, m, ts, ps, k, b, rfl, hc, PA, W, m9, m1, p18, k20, ko, S, wS, q⟩ := h
 obtain ⟨xs0, ys0, WA, _⟩ := W.ex
 refine ⟨_, (zae (za8 (PW.pt (zsy (zar zd3 (pv 1) (zag G_open_at hr.lv rfl T.K_open_at (zaa (zcr (pv 0) rfl) (zaa (zcr (pv 0) rfl) zac))) (by with_unfolding_all rfl)) (zo3 (zf1 (zcf (zag G_leads_on hr.lv rfl T.K_leads_on (zaa (zcr (pv 0) rfl) (zaa (zcr (pv 0) rfl) (zaa (za9 (zaa (pv 1) (zaa (pv 2) zac))) zac))))))))) (zah zhq) zaz)
   (zah (zcb (zdx (K := K) PySem.F.plainAttrs_list PySem.F.slot_list_append PySem.F.type_list_append zb2 (zcr (pv 0) rfl) (zaa (za9 (zaa (pv 1) (zaa (pv 2) zac))) zac))))), ?_⟩
 refine ⟨_, rfl, _, rfl, c, _, _, _, _, rfl, hc, T.C_Choice, T.n_Choice_wood, rfl, _, rfl, c, _, _, _, _, rfl, hc, T.C_Choice, T.n_Choice_picks, rfl, ?_⟩
 refine ⟨wd, pl, m, xs0, ys0, ps, rfl, WA, by omega, PA, fun l H1 s1 nl hl => ?_⟩
 refine ⟨l, _, rfl, .inl (SqL.of hl), rfl, zgf _, _, rfl, ?_⟩
 refine zqi (show (!inV (.int (k : Int)) (zal (zay m (zaj ps) (zaq ps)))) = false by rw [zf2, decide_eq_true ko]; rfl) ?_
 have hc1 : H1 c = _ := s1 _ _ hc
 refine ⟨_, rfl, c, _, _, _, _, rfl, hc1, T.C_Choice, T.n_Choice_wood, rfl, _, rfl, c, _, _, _, _, rfl, hc1, T.C_Choice, T.n_Choice_picks, rfl, _, rfl, _, rfl, zam (by show 2 ≤ 1000; decide), fun tp htp => ?_⟩
 have s2 := s1.trans (zad htp (.tup [.int (k : Int), .bl b]))
 have h2 : L2.upd H1 tp (.tup [.int (k : Int), .bl b]) tp = some (.tup [.int (k : Int), .bl b]) := zab
 generalize L2.upd H1 tp (.tup [.int (k : Int), .bl b]) = H2 at s2 h2 ⊢
 refine ⟨wd, pl, tp, m, ts, ps, (k, b), rfl, W.same s2, m9, m1, PA.same s2, by omega, k20, h2, S, fun H3 o s3 ho => ?_⟩
 obtain ⟨s0, rfl⟩ := zg5 ho wS
 refine ⟨_, rfl, ?_⟩
 refine zek ?_
 have s23 := s2.trans s3
 have hc3 : H3 c = some (.ins a.x_Choice dx (chF wd pl)) := s23 _ _ hc
 obtain ⟨xs, hpl, pk⟩ := (PA.same s23).ex
 have lx := pk.length
 refine ⟨_, rfl, c, _, _, _, _, rfl, hc3, T.C_Choice, T.n_Choice_picks, rfl, .inl ⟨rfl, _, SqL.of hpl⟩, _, rfl, _, rfl, zam (by show 2 ≤ 1000; decide), fun tq htq => ?_⟩
 have s4 := zad htq (.tup [.int (k : Int), .bl b])
 have h4 : L2.upd H3 tq (.tup [.int (k : Int), .bl b]) tq = some (.tup [.int (k : Int), .bl b]) := zab
 generalize L2.upd H3 tq (.tup [.int (k : Int), .bl b]) = H4 at s4 h4 ⊢
 have hpl4 : H4 pl = some (.lst xs) := s4 _ _ hpl
 have hc4 : H4 c = some (.ins a.x_Choice dx (chF wd pl)) := s4 _ _ hc3
 have ncp : c ≠ pl := fun z => by rw [z, hpl4] at hc4; cases hc4
 refine ⟨pl, _, _, rfl, rfl, hpl4, zbd (by omega), ?_⟩
 have t5 := ze6 (o' := .lst (xs ++ [.ref tq])) hpl4 (fun _ z => nomatch z)
 refine q _ (zax (Same.tup (s23.trans s4)) t5) (ze8 (zkp (s23.trans s4)) (zgg hpl4)) (by rw [zak ncp]; exact hc4) ⟨⟨_, zab, ?_⟩, by rw [List.length_append, List.length_singleton]; omega, fun x hx => ?_⟩
 ·exact PickL.snoc (p := (k, b)) (t5 _ _ h4) ((pk.same (Same.tup s4)).same t5)
 ·rcases List.mem_append.mp hx with z | z
  ·exact PA.le x z
  ·rw [List.mem_singleton.mp z]; exact k20
end
section
variable {P : Program} {w : World} {K : PySem.W.Frag} {mg : Str → Option Value} {base : Heap} {a : Adr} {d : Fds}
theorem zgm (T : Txt K mg a d) : FnOk P w K mg base CX0 1 a.f_Choice_take_back d.f_Choice_take_back ["self", "k"] (zw2 a.x_Choice) := by
 refine T.K_Choice_take_back.ok zgl (fun vs H Q E h => ?_) (fun cdv A outer s H vs Q E hr h => ?_)
 ·obtain ⟨c, dx, wd, pl, ps, k, rfl, _⟩ := h
  rfl
 obtain ⟨c, dx, wd, pl, ps, k, rfl, hc, PA, km, q⟩ := h
 obtain ⟨xs, hpl, pk⟩ := PA.ex
 have lx := pk.length
 have few := PA.few
 refine ⟨_, (zae (za8 (zar zd3 (pv 1) (zef (sc0 := zai zbp) (XN := ["self", "k"]) (N' := ["option", "value"]) (n := 2) (kp := []) rfl (piL (K := K) (zcr (pv 0) rfl)) rfl rfl (by decide +kernel) (fun _ _ _ _ _ => (pgT (K := K) (n := 2) rfl (za6 (zao (i := 0) (by show List.Nodup (["option", "value"] : List Str); decide +kernel) rfl (Or.inl rfl)) (za6 (zao (i := 1) (by show List.Nodup (["option", "value"] : List Str); decide +kernel) rfl (Or.inl rfl)) zcy)))) (fun _ _ _ _ _ => zgc) (fun _ _ _ _ _ => (pv 0))) (by with_unfolding_all rfl)) (zah zhq) zaz)
   (zah (zo6 (pv 0) (zef (sc0 := zai zbp) (XN := ["self", "k"]) (N' := ["pick", "k"]) (n := 1) (kp := [1]) rfl (piL (K := K) (zcr (pv 0) rfl)) rfl rfl (by decide +kernel) (fun _ _ _ _ _ => (zao (i := 0) (by show List.Nodup (["pick", "k"] : List Str); decide +kernel) rfl (Or.inl rfl))) (fun _ _ _ _ _ => (zbu (zar zqz (zaw (ixT (K := K)) (pv 0) zaf (fun _ _ => rfl)) (pv 1) (zat _)))) (fun _ _ _ _ _ => (pv 0))) rfl))), ?_⟩
 refine ⟨_, rfl, _, rfl, c, _, _, _, _, rfl, hc, T.C_Choice, T.n_Choice_picks, rfl, pl, rfl, ⟨_, SqL.of hpl⟩, ?_⟩
 refine zco (K := K) (a := pl) (xs := xs) (fun i ys σ H2 => (∃ v v', σ = [v, v']) ∧ H2 = H ∧ ys = zal ((ps.take i).map (·.1))) ⟨⟨none, none, rfl⟩, rfl, rfl⟩ (fun i ys σ H2 hi pv => ?_) (fun i ys σ H2 hi pv => ?_) (fun i x ys σ H2 hx pv => ?_) (fun ys σ H2 pv l1 hl1 => ?_)
 ·obtain ⟨_, _, rfl⟩ := pv
  rw [List.length_map, List.length_map, List.length_take]
  exact zam (by omega)
 ·rw [pv.2.1]
  exact SqL.of hpl
 ·obtain ⟨⟨v, v', rfl⟩, rfl, rfl⟩ := pv
  obtain ⟨p, t, hp, rfl, ht⟩ := pk.get hx
  refine ⟨t, _, rfl, sqT ht, rfl, _, _, rfl, _, _, rfl, rfl, ?_⟩
  refine ⟨_, rfl, ⟨_, _, rfl⟩, rfl, ?_⟩
  rw [List.take_add_one, hp, Option.toList_some, List.map_append, zh4]
  rfl
 obtain ⟨_, rfl, rfl⟩ := pv
 rw [← lx, List.take_length]
 have s1 := zad hl1 (.lst (zal (ps.map (·.1))))
 have g1 : L2.upd H2 l1 (.lst (zal (ps.map (·.1)))) l1 = some (.lst (zal (ps.map (·.1)))) := zab
 generalize L2.upd H2 l1 (.lst (zal (ps.map (·.1)))) = H1 at s1 g1 ⊢
 refine ⟨l1, _, rfl, .inl (SqL.of g1), rfl, zgf _, _, rfl, ?_⟩
 refine zqi (show (!inV (.int (k : Int)) (zal (ps.map (·.1)))) = false by rw [zf2, decide_eq_true km]; rfl) ?_
 have hc1 : H1 c = some (.ins a.x_Choice dx (chF wd pl)) := s1 _ _ hc
 have hpl1 : H1 pl = some (.lst xs) := s1 _ _ hpl
 refine ⟨_, rfl, c, _, _, _, _, rfl, hc1, T.C_Choice, T.n_Choice_picks, rfl, pl, rfl, ⟨_, SqL.of hpl1⟩, ?_⟩
 refine zco (K := K) (a := pl) (xs := xs) (fun i ys σ H2 => (∃ v, σ = [v, some (.int (k : Int))]) ∧ H2 = H1 ∧ ys.length ≤ i ∧ PickL H1 (woP (ps.take i) k) ys) ⟨⟨none, rfl⟩, rfl, Nat.le_refl _, rfl⟩ (fun i ys σ H2 hi pv => ?_) (fun i ys σ H2 hi pv => ?_) (fun i x ys σ H2 hx pv => ?_) (fun ys σ H2 pv l2 hl2 => ?_)
 ·exact zam (by have := pv.2.2.1; omega)
 ·rw [pv.2.1]
  exact SqL.of hpl1
 ·obtain ⟨⟨v, rfl⟩, rfl, h1, h2⟩ := pv
  obtain ⟨p, t, hp, rfl, ht⟩ := (pk.same (Same.tup s1)).get hx
  have et : woP (ps.take (i + 1)) k = woP (ps.take i) k ++ (if p.1 = k then [] else [p]) := by
   unfold woP
   rw [List.take_add_one, hp, Option.toList_some, List.filter_append]
   by_cases z : p.1 = k <;> simp [z]
  refine ⟨_, rfl, t, _, _, _, rfl, rfl, sqT ht, at0, _, rfl, rfl, _, rfl, ?_⟩
  by_cases z : p.1 = k
  ·refine zgp (by rw [z]) ?_
   refine ⟨⟨_, rfl⟩, rfl, by omega, ?_⟩
   rw [et, if_pos z, List.append_nil]
   exact h2
  ·refine zi2 ?_ ?_
   ·rw [Bool.not_eq_true', decide_eq_false_iff_not]
    intro y
    injection y with y
    omega
   ·refine ⟨_, rfl, ⟨_, rfl⟩, rfl, by rw [List.length_append, List.length_singleton]; omega, ?_⟩
    rw [et, if_neg z]
    exact PickL.snoc (p := p) ht h2
 ·obtain ⟨_, rfl, _, h2⟩ := pv
  rw [← lx, List.take_length] at h2
  have s2 := zad hl2 (.lst ys)
  have g2 : L2.upd H2 l2 (.lst ys) l2 = some (.lst ys) := zab
  have pk2 := h2.same (Same.tup s2)
  generalize L2.upd H2 l2 (.lst ys) = H3 at s2 g2 pk2 ⊢
  have s12 := s1.trans s2
  have hc3 : H3 c = some (.ins a.x_Choice dx (chF wd pl)) := s12 _ _ hc
  refine ⟨_, rfl, c, _, _, _, rfl, hc3, T.C_Choice, T.n_Choice_picks, (by show 2 < 1000; decide), ?_⟩
  have n2 : l2 ≠ c := fun z => by rw [z, hc3] at g2; cases g2
  have tp := ze6 (o' := .ins a.x_Choice dx (chF wd l2)) hc3 (fun _ z => nomatch z)
  refine q l2 _ (zax (Same.tup s12) tp) (zfb (zmy s12) (zjp hc3 (fun _ z => nomatch z))) (ze8 (zkp s12) (zgg hc3)) (s1.free hl2) zab ⟨⟨ys, ?_, pk2.same tp⟩, Nat.le_trans (List.length_filter_le _ _) few, fun x hx => PA.le x (List.mem_filter.mp hx).1⟩
  rw [zak n2]
  exact g2
end
section
variable {P : Program} {w : World} {K : PySem.W.Frag} {mg : Str → Option Value} {base : Heap} {a : Adr} {d : Fds}
theorem zkw (T : Txt K mg a d) : FnOk P w K mg base CX0 25 a.f_law_played d.f_law_played ["_law_state", "_law_choice", "_law_broken_here", "_law_many", "_law_begun"] (zr4 K a.x_Choice) := by
 have G_law_take := zdr (P := P) (w := w) (base := base) T
 have G_law_sets := zdl (P := P) (w := w) (base := base) T
 have G_Choice_choose := zid (P := P) (w := w) (base := base) T
 have G_Choice_take_back := zgm (P := P) (w := w) (base := base) T
 refine T.K_law_played.ok sc_law_played (fun vs H Q E h => ?_) (fun cdv A outer s H vs Q E hr h => ?_)
 ·obtain ⟨pen, sp, ns, k, c, dx, wd, pl, lb, lg, m, ts, ps0, rfl, _⟩ := h
  rfl
 obtain ⟨pen, sp, ns, k, c, dx, wd, pl0, lb, lg, m, ts, ps0, rfl, pnF, hpen, k0, k9, hc, PA0, PG0, ok0, nlb, WT', hlb, nlbp, m1, m9, ware, q⟩ := h
 obtain ⟨xs0, hlg, pkg⟩ := PG0.ex
 have p62 : (2 : Int) ^ 62 = 4611686018427387904 := by decide
 have pw : 2 ^ m ≤ 512 := zh6 m9
 have npc : c ≠ pen := fun z => by rw [z, hpen] at hc; cases hc
 have nlbc : lb ≠ c := fun z => by rw [z, hc] at hlb; cases hlb
 have lbX : lb ∉ [pen, c, pl0] := zoy nlbp nlbc nlb
 have tailA : ∃ t, PSs (zd0 CX0 P w K mg base ["_law_state", "_law_choice", "_law_broken_here", "_law_many", "_law_begun", "_law_chosen", "_law_turn", "_law_k", "_law_value", "_law_left"] "_law_played" (zai zcp) a.f_law_played cdv A outer s H E).nox ((zqn (zba zcp) 1).drop 4) t ∧ ∀ (D : zh7) (kn : Nat) (b : Bool) (kd : Int) (pl lc : Addr) (ps : List (Nat × Bool)) (v5 v8 : Option V) (H2 : Hp), KeepA [pen, c, pl0] H H2 → zc5 H H2 → H2 pen = some (.lst [.ref sp, .int kd]) → 0 ≤ kd → kd ≤ 990000 → H2 c = some (.ins a.x_Choice dx (chF wd pl)) → PicksAt H2 pl ps → PicksAt H2 lc ps → lc ≠ pl → (pl = pl0 ∨ H pl = none) → H lc = none → PickOk m ps → (∃ s, s < 2 ^ m ∧ InS (zaj ps) (zaq ps) s ∧ zbg ts s = true) → kn ∉ ps.map (·.1) → kn < m →
   (∀ (pl lc : Addr) (ps : List (Nat × Bool)) (v7 : Option V) (k' : Int) (H2 : Hp), KeepA [pen, c, pl0] H H2 → zc5 H H2 → H2 pen = some (.lst [.ref sp, .int k']) → kd ≤ k' → k' ≤ kd + 1 → H2 c = some (.ins a.x_Choice dx (chF wd pl)) → PicksAt H2 pl ps → PicksAt H2 lc ps → lc ≠ pl → (pl = pl0 ∨ H pl = none) → H lc = none → PickOk m ps → (∃ s, s < 2 ^ m ∧ InS (zaj ps) (zaq ps) s ∧ zbg ts s = true) → D.nx [some (.ref pen), some (.ref c), some (.ref lb), some (.int (m : Int)), some (.ref lg), some (.ref lc), v5, some (.int (kn : Int)), v7, v8] H2) →
   t D [some (.ref pen), some (.ref c), some (.ref lb), some (.int (m : Int)), some (.ref lg), some (.ref lc), v5, some (.int (kn : Int)), some (.bl b), v8] H2 := by
  refine ⟨_, (zah (za8 (PW.pt (zfu (zar zhc (pv 7) zaf (zat _)) (zfc (zar zhc (zag G_law_take hr.lv rfl T.K_law_take (zaa (pv 0) (zaa zaf zac))) zaf (zat _))))) (zae (za8 (zar (zdb hr.units) (zag G_law_sets hr.lv rfl T.K_law_sets (zaa (pv 2) (zaa (zlv zh8 zaf) (zaa (zap zcz (pv 5) (za7 (zaa (za9 (zaa (pv 7) (zaa (pv 8) zac))) zac))) zac)))) (za7 zac) (zat _)) (zah (zan (i := 8) sc_law_played.nd rfl (Or.inl rfl) (zhv (pv 8)))) zaz)
   (zae (zcb (zm7 (pv 1) T.C_Choice T.g_Choice_choose G_Choice_choose hr.lv T.K_Choice_choose.B .nil zhg (zaa (pv 7) (zaa (pv 8) zac))))
   (zah (zcb (zdx (K := K) PySem.F.plainAttrs_list PySem.F.slot_list_append PySem.F.type_list_append zb2 (pv 5) (zaa (za9 (zaa (pv 7) (zaa (pv 8) zac))) zac)))))) zaz)), ?_⟩
  intro D kn b kd pl lc ps v5 v8 H2 KA2 t2 hp2 kd0 kd1 hc2 PA2 PC2 nlp plc nlc ok wr kno knm nx
  have p9 := ok.len
  refine ⟨_, rfl, _, _, rfl, rfl, _, rfl, ?_⟩
  refine zcv (fun c1 => ?_) (fun c1 => ?_)
  rotate_left
  ·refine zek ?_
   exact nx pl lc ps _ kd H2 KA2 t2 hp2 (by omega) (by omega) hc2 PA2 PC2 nlp plc nlc ok wr
  refine ⟨_, rfl, pen, sp, ns, 4, kd, rfl, pnF _ _ KA2 hp2, by omega, by omega, by decide, fun w3 w30 w31 => ?_⟩
  have x3 := za2 (pen := pen) (H := H2) (.lst [.ref sp, .int (kd + 1)])
  have g3 : L2.upd H2 pen (.lst [.ref sp, .int (kd + 1)]) pen = some (.lst [.ref sp, .int (kd + 1)]) := zab
  generalize L2.upd H2 pen (.lst [.ref sp, .int (kd + 1)]) = H3 at x3 g3 ⊢
  have KA3 := KA2.pen x3 (.inl List.mem_cons_self) hp2 g3
  have t3 := zax t2 (SameX.tup hp2 x3)
  have PA3 := PA2.x hp2 (zbj PA2 hp2) x3
  have PC3 := PC2.x hp2 (zbj PC2 hp2) x3
  have hc3 : H3 c = some (.ins a.x_Choice dx (chF wd pl)) := x3 _ _ npc hc2
  refine ⟨_, _, rfl, rfl, _, rfl, ?_⟩
  refine zcv (fun c3 => ?_) (fun c3 => ?_)
  rotate_left
  ·exact nx pl lc ps _ (kd + 1) H3 KA3 t3 g3 (by omega) (by omega) hc3 PA3 PC3 nlp plc nlc ok wr
  obtain ⟨xs, hlc3, pk3⟩ := PC3.ex
  have lx := pk3.length
  refine ⟨_, rfl, 1, rfl, _, rfl, _, rfl, _, rfl, zam (by show 2 ≤ 1000; decide), fun tk htk => ?_⟩
  have s4 := zad htk (.tup [.int (kn : Int), .bl b])
  have g4 : L2.upd H3 tk (.tup [.int (kn : Int), .bl b]) tk = some (.tup [.int (kn : Int), .bl b]) := zab
  generalize L2.upd H3 tk (.tup [.int (kn : Int), .bl b]) = H4 at s4 g4 ⊢
  refine ⟨zam (by show 1 ≤ 1000; decide), fun lk hlk => ?_⟩
  have s5' := zad hlk (.lst [.ref tk])
  have s5 := s4.trans s5'
  have g5 : L2.upd H4 lk (.lst [.ref tk]) lk = some (.lst [.ref tk]) := zab
  have g5t := s5' _ _ g4
  generalize L2.upd H4 lk (.lst [.ref tk]) = H5 at s5 g5 g5t ⊢
  refine ⟨lc, lk, _, _, rfl, rfl, s5 _ _ hlc3, g5, zam (by rw [List.length_cons, List.length_nil]; omega), fun lf hlf => ?_⟩
  have s6' := zad hlf (.lst (xs ++ [.ref tk]))
  have s6 := s5.trans s6'
  have g6 : L2.upd H5 lf (.lst (xs ++ [.ref tk])) lf = some (.lst (xs ++ [.ref tk])) := zab
  have pk6 := PickL.snoc (p := (kn, b)) (s6' _ _ g5t) (pk3.same (Same.tup s6))
  generalize L2.upd H5 lf (.lst (xs ++ [.ref tk])) = H6 at s6 g6 pk6 ⊢
  have hlb6 : H6 lb = some (.lst (zal (brN m ts))) := (KA3.same s6).lst lbX hlb
  refine ⟨lb, lf, brN m ts, -1, ps ++ [(kn, b)], rfl, hlb6, by rw [zb4]; exact pw, ⟨⟨_, g6, pk6⟩, by rw [List.length_append, List.length_singleton]; omega, fun x hx => ?_⟩, fun ls H7 s7 nls hls => ?_⟩
  ·rcases List.mem_append.mp hx with z | z
   ·exact PA2.le x z
   ·rw [List.mem_singleton.mp z]; show kn ≤ 20; omega
  refine ⟨zam (by show 0 ≤ 1000; decide), fun le hle => ?_⟩
  have s8' := zad hle (.lst [])
  have s8 := (s6.trans s7).trans s8'
  have g8 : L2.upd H7 le (.lst []) le = some (.lst []) := zab
  have g8b := s8' _ _ hls
  generalize L2.upd H7 le (.lst []) = H8 at s8 g8 g8b ⊢
  refine ⟨ls, le, (zbk (brN m ts) (-1) (zaj (ps ++ [(kn, b)])) (zaq (ps ++ [(kn, b)]))).map (fun k : Nat => (k : Int)), [], rfl, rfl, SqL.of (by rw [zlu]; exact g8b), SqL.of g8, _, rfl, ?_⟩
  have KA8 := KA3.same s8
  have t8 := zax t3 (Same.tup s8)
  have PA8 := PA3.same s8
  have PC8 := PC3.same s8
  have hc8 : H8 c = some (.ins a.x_Choice dx (chF wd pl)) := s8 _ _ hc3
  have hp8 := s8 _ _ g3
  have c1' : (0 : Int) < (kn : Int) := of_decide_eq_true c1
  have kn1 : 1 ≤ kn := by omega
  have ho : kn ∈ zay m (zaj ps) (zaq ps) := mem_openP.mpr ⟨knm, kn1, kno⟩
  by_cases e : zbk (brN m ts) (-1) (zaj (ps ++ [(kn, b)])) (zaq (ps ++ [(kn, b)])) = []
  ·refine zfa (by rw [e]; rfl) ?_
   have L := zpd wr (sets_lead.mp e)
   refine ⟨_, rfl, _, rfl, ?_⟩
   generalize (!b) = b' at L ⊢
   have wr' := leadP_iff.mp L
   refine ⟨_, rfl, c, _, _, rfl, hc8, rfl, _, rfl, _, rfl, c, dx, wd, pl, m, ts, ps, kn, b', rfl, hc8, PA8, WT' _ t8, m9, m1, by omega, by omega, ho, (ok.snoc ho).stand m1, wr', fun H9 t9 ch9 hc9 PA9 => ?_⟩
   obtain ⟨ys, hlc9, pk9⟩ := (PC8.ch nlp t9 ch9).ex
   have ly := pk9.length
   refine ⟨_, rfl, .inl ⟨rfl, _, SqL.of hlc9⟩, _, rfl, _, rfl, zam (by show 2 ≤ 1000; decide), fun tq htq => ?_⟩
   have sA := zad htq (.tup [.int (kn : Int), .bl b'])
   have gA : L2.upd H9 tq (.tup [.int (kn : Int), .bl b']) tq = some (.tup [.int (kn : Int), .bl b']) := zab
   generalize L2.upd H9 tq (.tup [.int (kn : Int), .bl b']) = HA at sA gA ⊢
   have hlcA : HA lc = some (.lst ys) := sA _ _ hlc9
   refine ⟨lc, _, _, rfl, rfl, hlcA, zbd (by omega), ?_⟩
   have tB := ze6 (o' := .lst (ys ++ [.ref tq])) hlcA (fun _ z => nomatch z)
   have cB : ChS lc HA (L2.upd HA lc (.lst (ys ++ [.ref tq]))) := zgg hlcA
   have gB : L2.upd HA lc (.lst (ys ++ [.ref tq])) lc = some (.lst (ys ++ [.ref tq])) := zab
   generalize L2.upd HA lc (.lst (ys ++ [.ref tq])) = HB at tB cB gB ⊢
   have pkB := PickL.snoc (p := (kn, b')) (tB _ _ gA) ((pk9.same (Same.tup sA)).same tB)
   have npp : pen ≠ pl := Ne.symm (zbj PA8 hp8)
   have npl : pen ≠ lc := Ne.symm (zbj PC8 hp8)
   have KAB := ((KA8.ch ch9 (plc.imp (fun z => by rw [z]; simp) id)).same sA).ch cB (.inr nlc)
   have ncl : c ≠ lc := fun z => by rw [z, hlc9] at hc9; cases hc9
   exact nx pl lc (ps ++ [(kn, b')]) _ (kd + 1) HB KAB (zax t8 (zax t9 (zax (Same.tup sA) tB))) (cB.lst npl (sA _ _ (ch9.lst npp hp8))) (by omega) (by omega) (cB.ins ncl (sA _ _ hc9)) ((PA9.same sA).ch (Ne.symm nlp) tB cB) ⟨⟨_, gB, pkB⟩, PA9.few, PA9.le⟩ nlp plc nlc (ok.snoc ho) wr'
  ·refine zb1 (fun z => e (by simpa using z)) ?_
   have L : zfq ts m (zaj (ps ++ [(kn, b)])) (zaq (ps ++ [(kn, b)])) = true := by
    rw [← Bool.not_eq_false]
    exact fun z => e (sets_lead.mpr z)
   have wr' := leadP_iff.mp L
   refine ⟨_, rfl, c, _, _, rfl, hc8, rfl, _, rfl, _, rfl, c, dx, wd, pl, m, ts, ps, kn, b, rfl, hc8, PA8, WT' _ t8, m9, m1, by omega, by omega, ho, (ok.snoc ho).stand m1, wr', fun H9 t9 ch9 hc9 PA9 => ?_⟩
   obtain ⟨ys, hlc9, pk9⟩ := (PC8.ch nlp t9 ch9).ex
   have ly := pk9.length
   refine ⟨_, rfl, .inl ⟨rfl, _, SqL.of hlc9⟩, _, rfl, _, rfl, zam (by show 2 ≤ 1000; decide), fun tq htq => ?_⟩
   have sA := zad htq (.tup [.int (kn : Int), .bl b])
   have gA : L2.upd H9 tq (.tup [.int (kn : Int), .bl b]) tq = some (.tup [.int (kn : Int), .bl b]) := zab
   generalize L2.upd H9 tq (.tup [.int (kn : Int), .bl b]) = HA at sA gA ⊢
   have hlcA : HA lc = some (.lst ys) := sA _ _ hlc9
   refine ⟨lc, _, _, rfl, rfl, hlcA, zbd (by omega), ?_⟩
   have tB := ze6 (o' := .lst (ys ++ [.ref tq])) hlcA (fun _ z => nomatch z)
   have cB : ChS lc HA (L2.upd HA lc (.lst (ys ++ [.ref tq]))) := zgg hlcA
   have gB : L2.upd HA lc (.lst (ys ++ [.ref tq])) lc = some (.lst (ys ++ [.ref tq])) := zab
   generalize L2.upd HA lc (.lst (ys ++ [.ref tq])) = HB at tB cB gB ⊢
   have pkB := PickL.snoc (p := (kn, b)) (tB _ _ gA) ((pk9.same (Same.tup sA)).same tB)
   have npp : pen ≠ pl := Ne.symm (zbj PA8 hp8)
   have npl : pen ≠ lc := Ne.symm (zbj PC8 hp8)
   have KAB := ((KA8.ch ch9 (plc.imp (fun z => by rw [z]; simp) id)).same sA).ch cB (.inr nlc)
   have ncl : c ≠ lc := fun z => by rw [z, hlc9] at hc9; cases hc9
   exact nx pl lc (ps ++ [(kn, b)]) _ (kd + 1) HB KAB (zax t8 (zax t9 (zax (Same.tup sA) tB))) (cB.lst npl (sA _ _ (ch9.lst npp hp8))) (by omega) (by omega) (cB.ins ncl (sA _ _ hc9)) ((PA9.same sA).ch (Ne.symm nlp) tB cB) ⟨⟨_, gB, pkB⟩, PA9.few, PA9.le⟩ nlp plc nlc (ok.snoc ho) wr'
 obtain ⟨tA, hA, rA⟩ := tailA
 refine ⟨_, (zae (zan (i := 5) sc_law_played.nd rfl (Or.inl rfl) (zb0 zd8 rfl T.m_list PyProof.Rows.boot_list (zaa (pv 4) zac)))
   (zae (zbo PassesOwn.never rfl (zbi rfl T.m_range (zaa (zag G_law_take hr.lv rfl T.K_law_take (zaa (pv 0) (zaa (zap zb6 (pv 3) zaf) zac))) zac)) (zao (i := 6) sc_law_played.nd rfl (Or.inl rfl)) (zae (zan (i := 7) sc_law_played.nd rfl (Or.inr rfl) (zag G_law_take hr.lv rfl T.K_law_take (zaa (pv 0) (zaa (pv 3) zac))))
   (zae (zan (i := 8) sc_law_played.nd rfl (Or.inl rfl) (zbw zbx (zag G_law_take hr.lv rfl T.K_law_take (zaa (pv 0) (zaa zaf zac))) zaf (zat _)))
   (zae (zdu (i := 9) sc_law_played.nd rfl rfl rfl (sc0 := zai zcp) (XN := ["_law_state", "_law_choice", "_law_broken_here", "_law_many", "_law_begun", "_law_chosen", "_law_turn", "_law_k", "_law_value", "_law_left"]) (N' := ["_law_one", "_law_k"]) (n := 1) (kp := [7]) rfl (piL (K := K) (pv 5)) rfl rfl (by decide +kernel) (fun _ _ _ _ _ => (zao (i := 0) (by show List.Nodup (["_law_one", "_law_k"] : List Str); decide +kernel) rfl (Or.inl rfl))) (fun _ _ _ _ _ => (zbu (zar zqz (zaw (ixT (K := K)) (pv 0) zaf (fun _ _ => rfl)) (pv 1) (zat _)))) (fun _ _ _ _ _ => (pv 0)))
   (zae (za8 (zar zjv (za3 (zep (K := K)) rfl T.m_len PySem.boot_len (zaa (pv 9) zac)) (za3 (zep (K := K)) rfl T.m_len PySem.boot_len (zaa (pv 5) zac)) (zat _)) (zae (zcb (zm7 (pv 1) T.C_Choice T.g_Choice_take_back G_Choice_take_back hr.lv T.K_Choice_take_back.B .nil zhg (zaa (pv 7) zac)))
   (zah (zan (i := 5) sc_law_played.nd rfl (Or.inl rfl) (pv 9)))) zaz)
   hA)))))
   (zah (zau (pv 5))))), ?_⟩
 refine ⟨_, rfl, lg, _, rfl, .inl (SqL.of hlg), fun lc0 hlc0 => ?_⟩
 have s1 := zad hlc0 (.lst xs0)
 have g1 : L2.upd H lc0 (.lst xs0) lc0 = some (.lst xs0) := zab
 generalize L2.upd H lc0 (.lst xs0) = H1 at s1 g1 ⊢
 have hp1 : H1 pen = some (.lst [.ref sp, .int k]) := s1 _ _ hpen
 refine ⟨_, rfl, _, rfl, _, _, rfl, rfl, pen, sp, ns, ((m : Int) + 4), k, rfl, pnF _ _ ((KeepA.refl _ H).same s1) hp1, by omega, by omega, by omega, fun w1 w10 w11 => ?_⟩
 have x2 := za2 (pen := pen) (H := H1) (.lst [.ref sp, .int (k + 1)])
 have g2 : L2.upd H1 pen (.lst [.ref sp, .int (k + 1)]) pen = some (.lst [.ref sp, .int (k + 1)]) := zab
 generalize L2.upd H1 pen (.lst [.ref sp, .int (k + 1)]) = H2 at x2 g2 ⊢
 have KA2 := ((KeepA.refl [pen, c, pl0] H).same s1).pen x2 (.inl List.mem_cons_self) hp1 g2
 have t2 := zax (Same.tup s1) (SameX.tup hp1 x2)
 have hc2 : H2 c = some (.ins a.x_Choice dx (chF wd pl0)) := x2 _ _ npc (s1 _ _ hc)
 have PA1 := PA0.same s1
 have PA2 := PA1.x hp1 (zbj PA1 hp1) x2
 have PC1 : PicksAt H1 lc0 ps0 := ⟨⟨xs0, g1, pkg.same (Same.tup s1)⟩, PG0.few, PG0.le⟩
 have PC2 : PicksAt H2 lc0 ps0 := PC1.x hp1 (zbj PC1 hp1) x2
 have nlp0 : lc0 ≠ pl0 := fun z => by
  obtain ⟨xs, h1, _⟩ := PA0.ex
  rw [z, h1] at hlc0
  cases hlc0
 refine ⟨_, rfl, by rw [p62]; omega, by rw [p62]; omega, ?_⟩
 refine zb5 (n := w1.toNat) (fun i σ H8 => ∃ (pl lc : Addr) (ps : List (Nat × Bool)) (k8 : Int) (v5 v6 v7 v8 : Option V), σ = [some (.ref pen), some (.ref c), some (.ref lb), some (.int (m : Int)), some (.ref lg), some (.ref lc), v5, v6, v7, v8] ∧ KeepA [pen, c, pl0] H H8 ∧ zc5 H H8 ∧ H8 pen = some (.lst [.ref sp, .int k8]) ∧ k ≤ k8 ∧ k8 ≤ k + 1 + 3 * i ∧ H8 c = some (.ins a.x_Choice dx (chF wd pl)) ∧ PicksAt H8 pl ps ∧ PicksAt H8 lc ps ∧ lc ≠ pl ∧ (pl = pl0 ∨ H pl = none) ∧ H lc = none ∧ PickOk m ps ∧ (∃ s, s < 2 ^ m ∧ InS (zaj ps) (zaq ps) s ∧ zbg ts s = true)) ⟨pl0, lc0, ps0, k + 1, none, none, none, none, rfl, KA2, t2, g2, by omega, by omega, hc2, PA2, PC2, nlp0, .inl rfl, hlc0, ok0, ware⟩ ?_ ?_
 ·rintro i σ H3 hi ⟨pl, lc, ps, k8, v5, v6, v7, v8, rfl, KA3, t3, hp3, k80, k81, hc3, PA3, PC3, nlp, plc, nlc, ok, wr⟩
  have p9 := ok.len
  refine ⟨_, rfl, _, rfl, pen, sp, ns, (m : Int), k8, rfl, pnF _ _ KA3 hp3, by omega, by omega, by omega, fun wk wk0 wk1 => ?_⟩
  have x4 := za2 (pen := pen) (H := H3) (.lst [.ref sp, .int (k8 + 1)])
  have g4 : L2.upd H3 pen (.lst [.ref sp, .int (k8 + 1)]) pen = some (.lst [.ref sp, .int (k8 + 1)]) := zab
  generalize L2.upd H3 pen (.lst [.ref sp, .int (k8 + 1)]) = H4 at x4 g4 ⊢
  have KA4 := KA3.pen x4 (.inl List.mem_cons_self) hp3 g4
  refine ⟨_, rfl, pen, sp, ns, 2, k8 + 1, rfl, pnF _ _ KA4 g4, by omega, by omega, by decide, fun wv wv0 wv1 => ?_⟩
  have x5 := za2 (pen := pen) (H := H4) (.lst [.ref sp, .int (k8 + 1 + 1)])
  have g5 : L2.upd H4 pen (.lst [.ref sp, .int (k8 + 1 + 1)]) pen = some (.lst [.ref sp, .int (k8 + 1 + 1)]) := zab
  generalize L2.upd H4 pen (.lst [.ref sp, .int (k8 + 1 + 1)]) = H5 at x5 g5 ⊢
  have KA5 := KA4.pen x5 (.inl List.mem_cons_self) g4 g5
  have x35 := x4.trans x5
  have t5 := zax t3 (SameX.tup hp3 x35)
  have PA5 := PA3.x hp3 (zbj PA3 hp3) x35
  have PC5 := PC3.x hp3 (zbj PC3 hp3) x35
  have hc5 : H5 c = some (.ins a.x_Choice dx (chF wd pl)) := x35 _ _ npc hc3
  obtain ⟨kn, rfl⟩ : ∃ kn : Nat, wk = (kn : Int) := ⟨wk.toNat, by omega⟩
  obtain ⟨b, hb⟩ : ∃ b, b = decide (V.int wv = V.int 1) := ⟨_, rfl⟩
  refine ⟨rfl, ?_⟩
  rw [← hb]
  obtain ⟨xs, hlc, pk⟩ := PC5.ex
  have lx := pk.length
  refine ⟨_, rfl, lc, rfl, ⟨_, SqL.of hlc⟩, ?_⟩
  refine zco (K := K) (a := lc) (xs := xs) (fun i ys σ H6 => (∃ v, σ = [v, some (.int (kn : Int))]) ∧ H6 = H5 ∧ ys.length ≤ i ∧ PickL H5 (woP (ps.take i) kn) ys) ⟨⟨none, rfl⟩, rfl, Nat.le_refl _, rfl⟩ (fun i ys σ H6 hi pv => ?_) (fun i ys σ H6 hi pv => ?_) (fun i x ys σ H6 hx pv => ?_) (fun ys σ H6 pv lf hlf => ?_)
  ·exact zam (by have := pv.2.2.1; omega)
  ·rw [pv.2.1]
   exact SqL.of hlc
  ·obtain ⟨⟨v, rfl⟩, rfl, h1, h2⟩ := pv
   obtain ⟨p, t, hp, rfl, ht⟩ := pk.get hx
   have et : woP (ps.take (i + 1)) kn = woP (ps.take i) kn ++ (if p.1 = kn then [] else [p]) := by
    unfold woP
    rw [List.take_add_one, hp, Option.toList_some, List.filter_append]
    by_cases z : p.1 = kn <;> simp [z]
   refine ⟨_, rfl, t, _, _, _, rfl, rfl, sqT ht, at0, _, rfl, rfl, _, rfl, ?_⟩
   by_cases z : p.1 = kn
   ·refine zgp (by rw [z]) ?_
    refine ⟨⟨_, rfl⟩, rfl, by omega, ?_⟩
    rw [et, if_pos z, List.append_nil]
    exact h2
   ·refine zi2 ?_ ?_
    ·rw [Bool.not_eq_true', decide_eq_false_iff_not]
     intro y
     injection y with y
     exact z (by omega)
    ·refine ⟨_, rfl, ⟨_, rfl⟩, rfl, by rw [List.length_append, List.length_singleton]; omega, ?_⟩
     rw [et, if_neg z]
     exact PickL.snoc (p := p) ht h2
  obtain ⟨_, rfl, _, h2⟩ := pv
  rw [← lx, List.take_length] at h2
  have s6 := zad hlf (.lst ys)
  have g6 : L2.upd H6 lf (.lst ys) lf = some (.lst ys) := zab
  have pk6 := h2.same (Same.tup s6)
  have ly := pk6.length
  generalize L2.upd H6 lf (.lst ys) = H7 at s6 g6 pk6 ⊢
  have hlc7 : H7 lc = some (.lst xs) := s6 _ _ hlc
  have KA7 := KA5.same s6
  have t7 := zax t5 (Same.tup s6)
  have PA7 := PA5.same s6
  have PC7 := PC5.same s6
  have hc7 : H7 c = some (.ins a.x_Choice dx (chF wd pl)) := s6 _ _ hc5
  have nlf : H lf = none := KA5.dom _ hlf
  refine ⟨_, rfl, lf, _, rfl, .inl (SqL.of g6), _, rfl, lc, _, rfl, .inl (SqL.of hlc7), _, _, rfl, rfl, _, rfl, ?_⟩
  have few := PA3.few
  by_cases hin : kn ∈ ps.map (·.1)
  ·have less := zuj hin
   refine zi2 (decide_eq_true (by omega)) ?_
   refine ⟨_, rfl, c, _, _, rfl, hc7, rfl, _, rfl, c, dx, wd, pl, ps, kn, rfl, hc7, PA7, hin, fun pl' H8 t8 l8 ch8 n8 hc8 P8 => ?_⟩
   have hlf8 : H8 lf = some (.lst ys) := l8 _ _ g6
   refine ⟨_, rfl, ?_⟩
   refine rA _ kn b (k8 + 1 + 1) pl' lf (woP ps kn) _ _ H8 (KA7.ch ch8 (.inl (by simp))) (zax t7 t8) (l8 _ _ (s6 _ _ g5)) (by omega) (by omega) hc8 P8 ⟨⟨ys, hlf8, pk6.same t8⟩, P8.few, P8.le⟩ (fun z => by rw [← z, g6] at n8; cases n8) (.inr (KA7.dom _ n8)) nlf ok.wo ?_ (zus ps kn) (by omega) ?_
   ·obtain ⟨sw, h1, h2, h3⟩ := wr
    exact ⟨sw, h1, zwz h2, h3⟩
   ·intro pl lc ps v7 k' H9 A1 A2 A3 A4 A5 A6 A7 A8 A9 B1 B2 B3 B4
    exact ⟨pl, lc, ps, k', _, _, _, _, rfl, A1, A2, A3, by omega, by omega, A6, A7, A8, A9, B1, B2, B3, B4⟩
  ·have e := zs8 (ps := ps) (k := (kn : Int)) fun j h => by rw [← Int.ofNat.inj h]; exact hin
   rw [zu6] at e
   rw [e] at ly
   refine zb1 (fun z => by omega) ?_
   refine rA _ kn b (k8 + 1 + 1) pl lc ps _ _ H7 KA7 t7 (s6 _ _ g5) (by omega) (by omega) hc7 PA7 PC7 nlp plc nlc ok wr hin (by omega) ?_
   intro pl lc ps v7 k' H9 A1 A2 A3 A4 A5 A6 A7 A8 A9 B1 B2 B3 B4
   exact ⟨pl, lc, ps, k', _, _, _, _, rfl, A1, A2, A3, by omega, by omega, A6, A7, A8, A9, B1, B2, B3, B4⟩
 ·rintro σ H3 ⟨pl, lc, ps, k8, v5, v6, v7, v8, rfl, KA3, t3, hp3, k80, k81, hc3, PA3, PC3, nlp, plc, nlc, ok, wr⟩
  exact ⟨_, rfl, q lc pl ps k8 H3 KA3 t3 hp3 k80 (by omega) hc3 PA3 PC3 nlp plc nlc ok wr⟩
end
section
variable {P : Program} {w : World} {K : PySem.W.Frag} {mg : Str → Option Value} {base : Heap} {a : Adr} {d : Fds}
theorem zic (T : Txt K mg a d) : FnOk P w K mg base CX0 6 a.f_law_left_ties d.f_law_left_ties ["_law_broken_here", "_law_chosen", "_law_count"] zpz := by
 have G_law_sets := zdl (P := P) (w := w) (base := base) T
 refine T.K_law_left_ties.ok sc_law_left_ties (fun vs H Q E h => ?_) (fun cdv A outer s H vs Q E hr h => ?_)
 ·obtain ⟨lb, lc, m, ts, ps, rfl, _⟩ := h
  rfl
 obtain ⟨lb, lc, m, ts, ps, rfl, hlb, PA, ok, okT, m1, m9, t17, q⟩ := h
 have p62 : (2 : Int) ^ 62 = 4611686018427387904 := by decide
 have pw : 2 ^ m ≤ 512 := zh6 m9
 have S := ok.stand m1
 refine ⟨_, (zae (zan (i := 3) sc_law_left_ties.nd rfl (Or.inl rfl) (zap zeo (zap ze4 zaf (pv 2)) zaf))
   (zae (zbo PassesOwn.never rfl (zbi rfl T.m_range (zaa (pv 2) zac)) (zao (i := 4) sc_law_left_ties.nd rfl (Or.inl rfl)) (zah (za8 (zar (zdb hr.units) (zag G_law_sets hr.lv rfl T.K_law_sets (zaa (pv 0) (zaa (zap zeo (pv 3) (zap ze4 zaf (pv 4))) (zaa (pv 1) zac)))) (za7 zac) (zat _)) (zah (zan (i := 3) sc_law_left_ties.nd rfl (Or.inl rfl) (zap zeo (pv 3) (zap ze4 zaf (pv 4))))) zaz)))
   (zah (zau (pv 3))))), ?_⟩
 refine ⟨_, rfl, _, _, rfl, rfl, ⟨by omega, by omega, by decide⟩, _, _, rfl, rfl, ?_⟩
 have e0 : 1 * (2 : Int) ^ ((ts.length : Nat) : Int).toNat - 1 = ((2 ^ ts.length - 1 : Nat) : Int) := by
  rw [zhx]
  have := Nat.two_pow_pos ts.length
  omega
 simp only [e0]
 refine ⟨_, rfl, _, rfl, by rw [p62]; omega, by rw [p62]; omega, ?_⟩
 rw [Int.toNat_natCast]
 refine zb5 (n := ts.length) (fun i σ H2 => ∃ (M : Nat) (v4 : Option V), σ = [some (.ref lb), some (.ref lc), some (.int (ts.length : Int)), some (.int (M : Int)), v4] ∧ Same H H2 ∧ zct M ((List.range i).foldl (za1 ts m (zaj ps) (zaq ps)) (zcd ts))) ⟨_, none, rfl, Same.refl _, zto _⟩ ?_ ?_
 ·rintro t σ H2 ht ⟨M, v4, rfl, s2, hM⟩
  have tin : t ∈ (List.range t).foldl (za1 ts m (zaj ps) (zaq ps)) (zcd ts) := ziw _ _ (List.mem_range.mpr ht) (fun z => absurd (List.mem_range.mp z) (Nat.lt_irrefl _))
  have sub := zea (ts := ts) (m := m) (y := zaj ps) (n := zaq ps) (List.range t) (zcd ts)
  have er : (List.range (t + 1)).foldl (za1 ts m (zaj ps) (zaq ps)) (zcd ts) = za1 ts m (zaj ps) (zaq ps) ((List.range t).foldl (za1 ts m (zaj ps) (zaq ps)) (zcd ts)) t := by
   rw [List.range_succ, List.foldl_append]
   rfl
  generalize (List.range t).foldl (za1 ts m (zaj ps) (zaq ps)) (zcd ts) = left at hM tin er sub
  have hW := zqk hM tin
  have ge := zqt hM tin
  have wlt : ∀ i ∈ zbq left t, i < ts.length := fun i hi => List.mem_range.mp (sub.subset (mem_without.mp hi).1)
  have e1 : (M : Int) - 1 * (2 : Int) ^ ((t : Nat) : Int).toNat = ((M - 2 ^ t : Nat) : Int) := by
   rw [zhx]
   omega
  refine ⟨_, rfl, _, rfl, _, rfl, _, _, rfl, rfl, ⟨by omega, by omega, by decide⟩, _, _, rfl, rfl, _, rfl, ?_⟩
  simp only [e1]
  refine ⟨lb, lc, brN m ts, _, ps, rfl, s2 _ _ hlb, by rw [zb4]; exact pw, PA.same s2, fun ls H3 s3 nls hls => ?_⟩
  refine ⟨zam (by show 0 ≤ 1000; decide), fun le hle => ?_⟩
  have s4' := zad hle (.lst [])
  have g4 : L2.upd H3 le (.lst []) le = some (.lst []) := zab
  have g4b := s4' _ _ hls
  generalize L2.upd H3 le (.lst []) = H4 at s4' g4 g4b ⊢
  have s24 := s2.trans (s3.trans s4')
  refine ⟨ls, le, (zbk (brN m ts) ((M - 2 ^ t : Nat) : Int) (zaj ps) (zaq ps)).map (fun k : Nat => (k : Int)), [], rfl, rfl, SqL.of (by rw [zlu]; exact g4b), SqL.of g4, _, rfl, ?_⟩
  have iff := zlm okT m9 S hW wlt
  by_cases c : zbk (brN m ts) ((M - 2 ^ t : Nat) : Int) (zaj ps) (zaq ps) = []
  ·refine zfa (by rw [c]; rfl) ?_
   refine ⟨_, rfl, _, rfl, _, _, rfl, rfl, ⟨by omega, by omega, by decide⟩, _, _, rfl, rfl, ?_⟩
   simp only [e1]
   refine ⟨_, _, rfl, s24, ?_⟩
   rw [er]
   unfold za1
   rw [if_pos (iff.mp c)]
   exact hW
  ·refine zb1 (fun z => c (by simpa using z)) ?_
   refine ⟨_, _, rfl, s24, ?_⟩
   rw [er]
   unfold za1
   rw [if_neg (fun z => c (iff.mpr z))]
   exact hM
 ·rintro σ H2 ⟨M, v4, rfl, s2, hM⟩
  exact ⟨_, rfl, q M H2 s2 hM⟩
end
section
variable {P : Program} {w : World} {K : PySem.W.Frag} {mg : Str → Option Value} {base : Heap} {a : Adr} {d : Fds}
theorem zp1 (T : Txt K mg a d) : FnOk P w K mg base CX0 13 a.f_law_due d.f_law_due ["_law_broken_here", "_law_chosen", "_law_put", "_law_count"] zxk := by
 have G_law_left_ties := zic (P := P) (w := w) (base := base) T
 have G_law_sets := zdl (P := P) (w := w) (base := base) T
 have G_law_tree := zin (P := P) (w := w) (base := base) T 10
 refine T.K_law_due.ok sc_law_due (fun vs H Q E h => ?_) (fun cdv A outer s H vs Q E hr h => ?_)
 ·obtain ⟨lb, lc, tp, m, ts, ps, p, rfl, _⟩ := h
  rfl
 obtain ⟨lb, lc, tp, m, ts, ps, p, rfl, hlb, PA, okp, htp, okT, m1, m9, t17, B0, q⟩ := h
 have p62 : (2 : Int) ^ 62 = 4611686018427387904 := by decide
 have pw : 2 ^ m ≤ 512 := zh6 m9
 have ok : PickOk m ps := okp.subl (List.sublist_append_left _ _)
 have p9 := ok.len
 have pin := okp.in_ p (List.mem_append.mpr (.inr (List.mem_singleton.mpr rfl)))
 obtain ⟨xs, hlc, pk⟩ := PA.ex
 have lx := pk.length
 obtain ⟨ct3, ch3, cu3⟩ := zug (X := (zd0 CX0 P w K mg base ["_law_broken_here", "_law_chosen", "_law_put", "_law_count", "_law_ties", "_law_left", "_law_one", "_law_fewer", "_law_tree_here", "_law_others", "_law_numbers", "_law_t", "_law_turned"] "_law_due" (zai zc3) a.f_law_due cdv A outer s H E).nox) (st := (zba zc3).drop 3) (zae (zan (i := 8) sc_law_due.nd rfl (Or.inl rfl) (zag G_law_tree hr.lv rfl T.K_law_tree (zaa (pv 0) (zaa (pv 4) (zaa (zag G_law_sets hr.lv rfl T.K_law_sets (zaa (pv 0) (zaa zaf (zaa (zap zcz (pv 5) (za7 (zaa (pv 2) zac))) zac)))) zac)))))
   (zae (zan (i := 9) sc_law_due.nd rfl (Or.inl rfl) (za7 zac))
   (zae (zdu (i := 10) sc_law_due.nd rfl rfl rfl (sc0 := zai zc3) (XN := ["_law_broken_here", "_law_chosen", "_law_put", "_law_count", "_law_ties", "_law_left", "_law_one", "_law_fewer", "_law_tree_here", "_law_others", "_law_numbers", "_law_t", "_law_turned"]) (N' := ["_law_t", "_law_ties"]) (n := 1) (kp := [4]) rfl (zbi rfl T.m_range (zaa (pv 3) zac)) rfl rfl (by decide +kernel) (fun _ _ _ _ _ => (zao (i := 0) (by show List.Nodup (["_law_t", "_law_ties"] : List Str); decide +kernel) rfl (Or.inl rfl))) (fun _ _ _ _ _ => (zbu (zar zbx (zap zcu (zap zdw (pv 1) (pv 0)) zaf) zaf (zat _)))) (fun _ _ _ _ _ => (pv 0)))
   (zae (zbo PassesOwn.never rfl (piL (K := K) (pv 10)) (zao (i := 11) sc_law_due.nd rfl (Or.inl rfl)) (zah (zcb (zdx (K := K) PySem.F.plainAttrs_list PySem.F.slot_list_append PySem.F.type_list_append zb2 (pv 9) (zaa (za9 (zaa (pv 11) (zaa (zaw (ixL (K := K)) (zag G_law_sets hr.lv rfl T.K_law_sets (zaa (pv 0) (zaa (zap zeo (pv 4) (zap ze4 zaf (pv 11))) (zaa (zap zcz (pv 5) (za7 (zaa (pv 2) zac))) zac)))) zaf (fun _ _ => rfl)) zac))) zac)))))
   (zae (zbo PassesOwn.never rfl (piL (K := K) (pv 5)) (zao (i := 6) sc_law_due.nd rfl (Or.inr rfl)) (zae (zan (i := 12) sc_law_due.nd rfl (Or.inl rfl) (zap zcz (zef (sc0 := zai zc3) (XN := ["_law_broken_here", "_law_chosen", "_law_put", "_law_count", "_law_ties", "_law_left", "_law_one", "_law_fewer", "_law_tree_here", "_law_others", "_law_numbers", "_law_t", "_law_turned"]) (N' := ["_law_other", "_law_one"]) (n := 1) (kp := [6]) rfl (piL (K := K) (pv 5)) rfl rfl (by decide +kernel) (fun _ _ _ _ _ => (zao (i := 0) (by show List.Nodup (["_law_other", "_law_one"] : List Str); decide +kernel) rfl (Or.inl rfl))) (fun _ _ _ _ _ => (zbu (zar (zdd hr.units) (pv 0) (pv 1) (zat _)))) (fun _ _ _ _ _ => (pv 0))) (za7 (zaa (za9 (zaa (zaw (ixT (K := K)) (pv 6) zaf (fun _ _ => rfl)) (zaa (zhv (zaw (ixT (K := K)) (pv 6) zaf (fun _ _ => rfl))) zac))) (zaa (pv 2) zac)))))
   (zah (zcb (zdx (K := K) PySem.F.plainAttrs_list PySem.F.slot_list_append PySem.F.type_list_append zb2 (pv 9) (zaa (za9 (zaa (pv 6) (zaa (zaw (ixL (K := K)) (zag G_law_sets hr.lv rfl T.K_law_sets (zaa (pv 0) (zaa (pv 4) (zaa (pv 12) zac)))) zaf (fun _ _ => rfl)) zac))) zac))))))
   (zah (zau (za9 (zaa (pv 10) (zaa (pv 5) (zaa (pv 8) (zaa (pv 9) zac))))))))))))
 have tail : ∀ (M : Nat) (lp : Addr) (v6 v7 : Option V) (il : List Nat) (left ps' : List (Nat × Bool)) (H1 : Hp), Same H H1 → zkl ps' ps → zct M il → il = zbf ts m (zaj (ps ++ [p])) (zaq (ps ++ [p])) → left = zcc ts il m ps' p → PicksAt H1 lp left → H lp = none →
   ct3 { nx := fun _ H' => Q .non H', rt := Q } [some (.ref lb), some (.ref lc), some (.ref tp), some (.int (ts.length : Int)), some (.int (M : Int)), some (.ref lp), v6, v7, none, none, none, none, none] H1 := by
  intro M lp v6 v7 il left ps' H1 s1 so hM eil eleft PL nlp
  refine cu3 _ _ _ ?_
  have wok := zs7 okT m9 m1 so okp B0
  have ilsub : (zbf ts m (zaj (ps ++ [p])) (zaq (ps ++ [p]))).Sublist (zcd ts) := leastL_sub
  have qq := q
  rw [← eil] at wok ilsub
  rw [← eleft] at wok
  replace qq := fun v H' => qq v H' ps' so
  rw [← eil, ← eleft] at qq
  have lsub : left.Sublist ps' := by rw [eleft]; exact zc7 _ _
  have okp' : PickOk m (ps' ++ [p]) := okp.perm (so.pm.append (List.Perm.refl _))
  have okl : PickOk m (left ++ [p]) := okp'.subl (lsub.append (List.Sublist.refl _))
  have okl1 : PickOk m left := okl.subl (List.sublist_append_left _ _)
  have ll9 := okl1.len
  have S := okl.stand m1
  have lall : (zcd ts).length = ts.length := List.length_range
  have ilf : il.length ≤ 17 := by have := ilsub.length_le; omega
  have ilt : ∀ i ∈ il, i < ts.length := fun i hi => List.mem_range.mp (ilsub.subset hi)
  have ilpw : il.Pairwise (· < ·) := List.pairwise_lt_range.sublist ilsub
  obtain ⟨ls, hlp, pkl⟩ := PL.ex
  have lls := pkl.length
  have htp1 := s1 _ _ htp
  have hlb1 := s1 _ _ hlb
  refine ⟨_, rfl, _, rfl, _, rfl, _, rfl, _, rfl, zam (by show 1 ≤ 1000; decide), fun lk hlk => ?_⟩
  have s2 := zad hlk (.lst [.ref tp])
  have g2 : L2.upd H1 lk (.lst [.ref tp]) lk = some (.lst [.ref tp]) := zab
  generalize L2.upd H1 lk (.lst [.ref tp]) = H2 at s2 g2 ⊢
  refine ⟨lp, lk, _, _, rfl, rfl, s2 _ _ hlp, g2, zam (by rw [List.length_singleton]; omega), fun lw hlw => ?_⟩
  have s3 := zad hlw (.lst (ls ++ [.ref tp]))
  have g3 : L2.upd H2 lw (.lst (ls ++ [.ref tp])) lw = some (.lst (ls ++ [.ref tp])) := zab
  generalize L2.upd H2 lw (.lst (ls ++ [.ref tp])) = H3 at s3 g3 ⊢
  have s13 := s2.trans s3
  have PW3 : PicksAt H3 lw (left ++ [p]) := (PL.same s13).snocC (s13 _ _ hlp) (by omega) (by omega) (s13 _ _ htp1) g3
  refine ⟨lb, lw, brN m ts, 0, left ++ [p], rfl, s13 _ _ hlb1, by rw [zb4]; exact pw, PW3, fun sl H4 s4 nsl hsl => ?_⟩
  rw [zpb S] at hsl
  have s14 := s13.trans s4
  have of := zcj m (zaj (left ++ [p])) (zaq (left ++ [p]))
  refine ⟨lb, sl, m, ts, il, zaj (left ++ [p]), zaq (left ++ [p]), 9, M, rfl, s14 _ _ hlb1, hsl, S, m9, okT, hM, ilpw, fun i hi => Nat.lt_of_lt_of_le (ilt i hi) t17, ilt, by omega, by omega, fun tv H5 s5 dtv => ?_⟩
  have s15 := s14.trans s5
  refine ⟨zam (by show 0 ≤ 1000; decide), fun lo hlo => ?_⟩
  have s6 := zad hlo (.lst [])
  have g6 : L2.upd H5 lo (.lst []) lo = some (.lst []) := zab
  generalize L2.upd H5 lo (.lst []) = H6 at s6 g6 ⊢
  refine ⟨_, rfl, _, rfl, by rw [p62]; omega, by rw [p62]; omega, ?_⟩
  rw [Int.toNat_natCast]
  refine zso (fun k => M.testBit k) rfl (by omega) (fun k hk R r => ?_) (fun ln hln => ?_)
  ·refine ⟨_, rfl, _, rfl, _, _, rfl, rfl, by omega, _, _, rfl, rfl, rfl, _, rfl, ?_⟩
   rw [ze9]
   exact r
  rw [zsg hM ilpw ilt]
  have s7 := zad hln (.lst (zal il))
  have g7 : L2.upd H6 ln (.lst (zal il)) ln = some (.lst (zal il)) := zab
  generalize L2.upd H6 ln (.lst (zal il)) = H7 at s7 g7 ⊢
  have s57 := s6.trans s7
  have s17 := s15.trans s57
  have glo7 : H7 lo = some (.lst []) := s7 _ _ g6
  have nol : ∀ {b : Addr} {o : HO}, H5 b = some o → b ≠ lo := fun h z => by rw [z, hlo] at h; cases h
  have hlp5 := s15 _ _ hlp
  have hlb5 := s15 _ _ hlb1
  have htp5 := s15 _ _ htp1
  have nln : ln ≠ lo := fun z => by rw [z, g6] at hln; cases hln
  have nb := nol hlb5
  have np := nol hlp5
  have ntp := nol htp5
  refine ⟨_, rfl, ln, rfl, ⟨_, SqL.of g7⟩, ?_⟩
  refine zbz (K := K) (a := ln) (xs := zal il) (fun i σ H8 => ∃ (os : List V) (vt : Option V), σ = [some (.ref lb), some (.ref lc), some (.ref tp), some (.int (ts.length : Int)), some (.int (M : Int)), some (.ref lp), v6, v7, some tv, some (.ref lo), some (.ref ln), vt, none] ∧ SameX lo H7 H8 ∧ H8 lo = some (.lst os) ∧ EntL H8 ((zcq ts m il left p).take i) os) ⟨[], none, rfl, Same.x (Same.refl _), glo7, ⟨rfl, fun j e he => by cases j <;> cases he⟩⟩ (fun i σ H8 _ z => by
   obtain ⟨_, _, _, x8, _⟩ := z
   exact SqL.of (x8 _ _ nln g7)) ?_ ?_
  ·rintro i x σ H8 hx ⟨os, vt, rfl, x8, hos, en⟩
   rw [List.getElem?_map] at hx
   obtain ⟨t, ht, rfl⟩ := Option.map_eq_some_iff.mp hx
   have tin := List.mem_of_getElem? ht
   have tt := ilt t tin
   have il1 := (List.getElem?_eq_some_iff.mp ht).1
   have t8 := SameX.tup glo7 x8
   have t18 := zax (Same.tup s17) t8
   have ge := zqt hM tin
   have e1 : (M : Int) - 1 * (2 : Int) ^ ((t : Nat) : Int).toNat = ((M - 2 ^ t : Nat) : Int) := by
    rw [zhx]
    omega
   have hlp8 : H8 lp = some (.lst ls) := x8 _ _ np (s57 _ _ hlp5)
   have hlb8 : H8 lb = some (.lst (zal (brN m ts))) := x8 _ _ nb (s57 _ _ hlb5)
   have lel := en.len
   rw [List.length_take, zh0] at lel
   refine ⟨_, rfl, .inl ⟨rfl, _, SqL.of hos⟩, _, rfl, _, rfl, _, rfl, _, rfl, _, _, rfl, rfl, ⟨by omega, by omega, by decide⟩, _, _, rfl, rfl, _, rfl, _, rfl, zam (by show 1 ≤ 1000; decide), fun lk2 hlk2 => ?_⟩
   simp only [e1]
   have s9 := zad hlk2 (.lst [.ref tp])
   have g9 : L2.upd H8 lk2 (.lst [.ref tp]) lk2 = some (.lst [.ref tp]) := zab
   generalize L2.upd H8 lk2 (.lst [.ref tp]) = H9 at s9 g9 ⊢
   refine ⟨lp, lk2, _, _, rfl, rfl, s9 _ _ hlp8, g9, zam (by rw [List.length_singleton]; omega), fun lw2 hlw2 => ?_⟩
   have sA := zad hlw2 (.lst (ls ++ [.ref tp]))
   have gA : L2.upd H9 lw2 (.lst (ls ++ [.ref tp])) lw2 = some (.lst (ls ++ [.ref tp])) := zab
   generalize L2.upd H9 lw2 (.lst (ls ++ [.ref tp])) = HA at sA gA ⊢
   have s8A := s9.trans sA
   have t1A := zax t18 (Same.tup s8A)
   have PWA : PicksAt HA lw2 (left ++ [p]) := ⟨⟨_, gA, PickL.snoc (t1A _ _ htp1) (pkl.same t1A)⟩, by rw [List.length_append, List.length_singleton]; omega, PW3.le⟩
   obtain ⟨sw, ek, _⟩ := wok.tie t tin
   obtain ⟨rs, ers⟩ := znt okT m9 S (zqk hM tin) (fun i hi => ilt i (mem_without.mp hi).1) ek
   refine ⟨lb, lw2, brN m ts, _, left ++ [p], rfl, s8A _ _ hlb8, by rw [zb4]; exact pw, PWA, fun sl2 HB sB nsl2 hsl2 => ?_⟩
   rw [ers] at hsl2
   refine ⟨sl2, _, _, _, rfl, rfl, SqL.of hsl2, at0, zam (by show 2 ≤ 1000; decide), fun tq htq => ?_⟩
   have sC := zad htq (.tup [.int (t : Int), .int (sw : Int)])
   have gC : L2.upd HB tq (.tup [.int (t : Int), .int (sw : Int)]) tq = some (.tup [.int (t : Int), .int (sw : Int)]) := zab
   generalize L2.upd HB tq (.tup [.int (t : Int), .int (sw : Int)]) = HC at sC gC ⊢
   have s8C := (s8A.trans sB).trans sC
   have hosC : HC lo = some (.lst os) := s8C _ _ hos
   refine ⟨lo, _, _, rfl, rfl, hosC, zbd (by omega), ?_⟩
   have x9 := za2 (pen := lo) (H := HC) (.lst (os ++ [.ref tq]))
   have gD : L2.upd HC lo (.lst (os ++ [.ref tq])) lo = some (.lst (os ++ [.ref tq])) := zab
   generalize L2.upd HC lo (.lst (os ++ [.ref tq])) = HD at x9 gD ⊢
   have tD := SameX.tup hosC x9
   refine ⟨_, _, rfl, (x8.trans (Same.x s8C)).trans x9, gD, ?_⟩
   have f := fun e (he : e ∈ (zcq ts m il left p).take i) => zj4 e (List.mem_of_mem_take he)
   rw [List.take_add_one, zrw ht, ek, Option.toList_some]
   exact ((en.tup f (Same.tup s8C)).tup f tD).snoc (tD _ _ gC) rfl
  rintro σ H8 ⟨os0, vt, rfl, x8, hos, en⟩
  rw [show (zal il).length = il.length from List.length_map _] at en
  have hlp8 : H8 lp = some (.lst ls) := x8 _ _ np (s57 _ _ hlp5)
  refine ⟨_, rfl, lp, rfl, ⟨_, SqL.of hlp8⟩, ?_⟩
  refine zbz (K := K) (a := lp) (xs := ls) (fun i σ H9 => ∃ (os : List V) (vo vu : Option V), σ = [some (.ref lb), some (.ref lc), some (.ref tp), some (.int (ts.length : Int)), some (.int (M : Int)), some (.ref lp), vo, v7, some tv, some (.ref lo), some (.ref ln), vt, vu] ∧ SameX lo H7 H9 ∧ H9 lo = some (.lst os) ∧ EntL H9 ((zcq ts m il left p).take (il.length + i)) os) ⟨os0, v6, none, rfl, x8, hos, en⟩ (fun i σ H9 _ z => by
   obtain ⟨_, _, _, _, x9, _⟩ := z
   exact SqL.of (x9 _ _ np (s57 _ _ hlp5))) ?_ ?_
  ·rintro i x σ H9 hx ⟨os, vo, vu, rfl, x9, hos, en⟩
   have t9 := SameX.tup glo7 x9
   have t19 := zax (Same.tup s17) t9
   have pk9 := pkl.same t19
   obtain ⟨r, tr, hr, rfl, htr⟩ := pk9.get hx
   have rin := List.mem_of_getElem? hr
   have hlp9 : H9 lp = some (.lst ls) := x9 _ _ np (s57 _ _ hlp5)
   have hlb9 : H9 lb = some (.lst (zal (brN m ts))) := x9 _ _ nb (s57 _ _ hlb5)
   have i1 := (List.getElem?_eq_some_iff.mp hr).1
   have lel := en.len
   rw [List.length_take, zh0] at lel
   refine ⟨_, rfl, lp, rfl, ⟨_, SqL.of hlp9⟩, ?_⟩
   refine zn4 (K := K) (a := lp) (σr := [some (.ref tr)]) (fun c => !decide (c = r)) rfl hlp9 pk9 (by omega) (fun c hc t ht R z => ?_) (fun l8 zs hl8 pz => ?_)
   ·refine ⟨_, rfl, _, rfl, zbm c, zbm r, zer ht, zer htr, zc2 _, zc2 _, _, rfl, ?_⟩
    rw [zkr]
    exact z
   have pz : PickL H9 (zbb left r) zs := pz
   have lz := pz.length
   have lz2 : (zbb left r).length ≤ left.length := List.length_filter_le _ _
   have sA := zad hl8 (.lst zs)
   have gA : L2.upd H9 l8 (.lst zs) l8 = some (.lst zs) := zab
   generalize L2.upd H9 l8 (.lst zs) = HA at sA gA ⊢
   have htrA := sA _ _ htr
   refine ⟨_, rfl, tr, _, _, _, rfl, rfl, sqT htrA, at0, _, rfl, tr, _, _, _, rfl, rfl, sqT htrA, at1, ?_⟩
   refine ⟨_, rfl, zam (by show 2 ≤ 1000; decide), fun tn htn => ?_⟩
   have sB := zad htn (.tup [.int (r.1 : Int), .bl (!r.2)])
   have gB : L2.upd HA tn (.tup [.int (r.1 : Int), .bl (!r.2)]) tn = some (.tup [.int (r.1 : Int), .bl (!r.2)]) := zab
   generalize L2.upd HA tn (.tup [.int (r.1 : Int), .bl (!r.2)]) = HB at sB gB ⊢
   refine ⟨_, rfl, zam (by show 2 ≤ 1000; decide), fun lk2 hlk2 => ?_⟩
   have sC := zad hlk2 (.lst [.ref tn, .ref tp])
   have gC : L2.upd HB lk2 (.lst [.ref tn, .ref tp]) lk2 = some (.lst [.ref tn, .ref tp]) := zab
   generalize L2.upd HB lk2 (.lst [.ref tn, .ref tp]) = HC at sC gC ⊢
   refine ⟨l8, lk2, _, _, rfl, rfl, (sB.trans sC) _ _ gA, gC, zam (by show zs.length + 2 ≤ 1000; omega), fun lw2 hlw2 => ?_⟩
   have sD := zad hlw2 (.lst (zs ++ [.ref tn, .ref tp]))
   have gD : L2.upd HC lw2 (.lst (zs ++ [.ref tn, .ref tp])) lw2 = some (.lst (zs ++ [.ref tn, .ref tp])) := zab
   generalize L2.upd HC lw2 (.lst (zs ++ [.ref tn, .ref tp])) = HD at sD gD ⊢
   have s9D := ((sA.trans sB).trans sC).trans sD
   have t1D := zax t19 (Same.tup s9D)
   have r20 := (okl1.in_ r rin).2
   have PWD : PicksAt HD lw2 (zbb left r ++ [(r.1, !r.2), p]) := ⟨⟨_, gD, PickL.append (pz.same (Same.tup s9D)) ⟨tn, _, rfl, (sC.trans sD) _ _ gB, tp, _, rfl, t1D _ _ htp1, rfl⟩⟩, by rw [List.length_append]; simp only [List.length_cons, List.length_nil]; omega, fun c hc => by
    rcases List.mem_append.mp hc with z | z
    ·exact PL.le c (mem_woPk.mp z).1
    ·simp only [List.mem_cons, List.not_mem_nil, or_false] at z
     rcases z with rfl | rfl
     ·show r.1 ≤ 20; omega
     ·omega⟩
   obtain ⟨sw, ek, e1, e2, e3, e4⟩ := wok.pick r rin
   obtain ⟨rs, ers⟩ := znx okT m9 m1 okl hM ilt ek e4
   have hosD : HD lo = some (.lst os) := s9D _ _ hos
   refine ⟨_, rfl, .inl ⟨rfl, _, SqL.of hosD⟩, _, rfl, _, rfl, _, rfl, _, rfl, lb, lw2, brN m ts, _, _, rfl, s9D _ _ hlb9, by rw [zb4]; exact pw, PWD, fun sl2 HE sE nsl2 hsl2 => ?_⟩
   rw [ers] at hsl2
   refine ⟨sl2, _, _, _, rfl, rfl, SqL.of hsl2, at0, zam (by show 2 ≤ 1000; decide), fun tq htq => ?_⟩
   have sF := zad htq (.tup [.ref tr, .int (sw : Int)])
   have gF : L2.upd HE tq (.tup [.ref tr, .int (sw : Int)]) tq = some (.tup [.ref tr, .int (sw : Int)]) := zab
   generalize L2.upd HE tq (.tup [.ref tr, .int (sw : Int)]) = HF at sF gF ⊢
   have s9F := (s9D.trans sE).trans sF
   have hosF : HF lo = some (.lst os) := s9F _ _ hos
   refine ⟨lo, _, _, rfl, rfl, hosF, zbd (by omega), ?_⟩
   have xG := za2 (pen := lo) (H := HF) (.lst (os ++ [.ref tq]))
   have gG : L2.upd HF lo (.lst (os ++ [.ref tq])) lo = some (.lst (os ++ [.ref tq])) := zab
   generalize L2.upd HF lo (.lst (os ++ [.ref tq])) = HG at xG gG ⊢
   have tG := SameX.tup hosF xG
   refine ⟨_, _, _, rfl, (x9.trans (Same.x s9F)).trans xG, gG, ?_⟩
   have f := fun e (he : e ∈ (zcq ts m il left p).take (il.length + i)) => zj4 e (List.mem_of_mem_take he)
   rw [← Nat.add_assoc, List.take_add_one, zp2 hr, ek, Option.toList_some]
   exact ((en.tup f (Same.tup s9F)).tup f tG).snoc (tG _ _ gF) (zer (tG _ _ (s9F _ _ htr)))
  rintro σ H9 ⟨os, vo, vu, rfl, x9, hos, en⟩
  rw [← lls, List.take_of_length_le (by rw [zh0]; exact Nat.le_refl _)] at en
  have s19 := SameX.freshW s17 (s15.free hlo) glo7 x9
  have s59 := SameX.freshW s57 hlo glo7 x9
  refine ⟨_, rfl, _, rfl, _, rfl, _, rfl, zam (by show 4 ≤ 1000; decide), fun tz htz => ?_⟩
  have sZ := zad htz (.tup [.ref ln, .ref lp, tv, .ref lo])
  refine qq _ _ ((s1.trans s19).trans sZ) ?_
  exact ⟨tz, _, rfl, zab, _, _, rfl, ⟨ln, _, rfl, sZ _ _ (x9 _ _ nln g7), zj9 _⟩, _, _, rfl, ⟨lp, _, rfl, (s19.trans sZ) _ _ hlp, (pkl.same (Same.tup (s19.trans sZ))).dn⟩, _, _, rfl, Dn.same (s59.trans sZ) _ _ dtv, _, _, rfl, ⟨lo, _, rfl, sZ _ _ hos, (en.same sZ).dn⟩, rfl⟩
 refine ⟨_, (zae (zan (i := 4) sc_law_due.nd rfl (Or.inr rfl) (zag G_law_left_ties hr.lv rfl T.K_law_left_ties (zaa (pv 0) (zaa (zap zcz (pv 1) (za7 (zaa (pv 2) zac))) (zaa (pv 3) zac)))))
   (zae (zan (i := 5) sc_law_due.nd rfl (Or.inl rfl) (za3 (zfg (K := K)) rfl T.m_sorted PyProof.Rows.boot_sorted (zaa (pv 1) zac)))
   (zae (zbo PassesOwn.never rfl (piL (K := K) (za3 (zfg (K := K)) rfl T.m_sorted PyProof.Rows.boot_sorted (zaa (pv 1) zac))) (zao (i := 6) sc_law_due.nd rfl (Or.inr rfl)) (zae (zdu (i := 7) sc_law_due.nd rfl rfl rfl (sc0 := zai zc3) (XN := ["_law_broken_here", "_law_chosen", "_law_put", "_law_count", "_law_ties", "_law_left", "_law_one", "_law_fewer", "_law_tree_here", "_law_others", "_law_numbers", "_law_t", "_law_turned"]) (N' := ["_law_other", "_law_one"]) (n := 1) (kp := [6]) rfl (piL (K := K) (pv 5)) rfl rfl (by decide +kernel) (fun _ _ _ _ _ => (zao (i := 0) (by show List.Nodup (["_law_other", "_law_one"] : List Str); decide +kernel) rfl (Or.inl rfl))) (fun _ _ _ _ _ => (zbu (zar (zdd hr.units) (pv 0) (pv 1) (zat _)))) (fun _ _ _ _ _ => (pv 0)))
   (zah (za8 (zar (zdb hr.units) (zag G_law_sets hr.lv rfl T.K_law_sets (zaa (pv 0) (zaa (pv 4) (zaa (zap zcz (pv 7) (za7 (zaa (pv 2) zac))) zac)))) (za7 zac) (zat _)) (zah (zan (i := 5) sc_law_due.nd rfl (Or.inl rfl) (pv 7))) zaz))))
   ch3))), ?_⟩
 refine ⟨_, rfl, _, rfl, _, rfl, zam (by show 1 ≤ 1000; decide), fun lk hlk => ?_⟩
 have s1 := zad hlk (.lst [.ref tp])
 have g1 : L2.upd H lk (.lst [.ref tp]) lk = some (.lst [.ref tp]) := zab
 generalize L2.upd H lk (.lst [.ref tp]) = H1 at s1 g1 ⊢
 refine ⟨lc, lk, _, _, rfl, rfl, s1 _ _ hlc, g1, zam (by rw [List.length_singleton]; omega), fun lw hlw => ?_⟩
 have s2 := zad hlw (.lst (xs ++ [.ref tp]))
 have g2 : L2.upd H1 lw (.lst (xs ++ [.ref tp])) lw = some (.lst (xs ++ [.ref tp])) := zab
 generalize L2.upd H1 lw (.lst (xs ++ [.ref tp])) = H2 at s2 g2 ⊢
 have s02 := s1.trans s2
 have PW2 : PicksAt H2 lw (ps ++ [p]) := (PA.same s02).snocC (s02 _ _ hlc) (by omega) (by omega) (s02 _ _ htp) g2
 refine ⟨_, rfl, lb, lw, m, ts, ps ++ [p], rfl, s02 _ _ hlb, PW2, okp, okT, m1, m9, t17, fun M H3 s3 hM => ?_⟩
 have s03 := s02.trans s3
 obtain ⟨es, hes, tby, e64, srt⟩ := zju (PA.same s03) ok.nd
 refine ⟨_, rfl, lc, es, rfl, SqL.of hes, tby, e64, fun es' pe pw1 l4 hl4 => ?_⟩
 obtain ⟨ps', so, pk'⟩ := srt es' pe pw1
 have s4 := zad hl4 (.lst (es'.map fun e => V.ref e.2))
 have g4 : L2.upd H3 l4 (.lst (es'.map fun e => V.ref e.2)) l4 = some (.lst (es'.map fun e => V.ref e.2)) := zab
 generalize L2.upd H3 l4 (.lst (es'.map fun e => V.ref e.2)) = H4 at s4 g4 ⊢
 have s04 := s03.trans s4
 have PS4 : PicksAt H4 l4 ps' := ⟨⟨_, g4, pk'.same (Same.tup s4)⟩, by rw [so.pm.length_eq]; exact PA.few, fun r hr => PA.le r (so.pm.mem_iff.mp hr)⟩
 obtain ⟨es2, hes2, tby2, e642, srt2⟩ := zju (PA.same s04) ok.nd
 refine ⟨_, rfl, lc, es2, rfl, SqL.of hes2, tby2, e642, fun es'' pe2 pw2 l5 hl5 => ?_⟩
 obtain ⟨ps'', so2, pk''⟩ := srt2 es'' pe2 pw2
 cases zlr (so2.pm.trans so.pm.symm) so2.up so.up
 have s5 := zad hl5 (.lst (es''.map fun e => V.ref e.2))
 have g5 : L2.upd H4 l5 (.lst (es''.map fun e => V.ref e.2)) l5 = some (.lst (es''.map fun e => V.ref e.2)) := zab
 generalize L2.upd H4 l5 (.lst (es''.map fun e => V.ref e.2)) = H5 at s5 g5 ⊢
 have pk5 := pk''.same (Same.tup s5)
 generalize (es''.map fun e => V.ref e.2) = ys at g5 pk5
 have ly := pk5.length
 have s05 := s04.trans s5
 have okps' : PickOk m ps' := ok.perm so.pm
 have okp' : PickOk m (ps' ++ [p]) := okp.perm (so.pm.append (List.Perm.refl _))
 have l9' := okps'.len
 obtain ⟨il, hil⟩ : ∃ il, il = zbf ts m (zaj (ps ++ [p])) (zaq (ps ++ [p])) := ⟨_, rfl⟩
 rw [← hil] at hM
 have ilt : ∀ i ∈ il, i < ts.length := fun i hi => by
  rw [hil] at hi
  exact List.mem_range.mp (leastL_sub.subset hi)
 refine ⟨l5, rfl, ⟨_, SqL.of g5⟩, ?_⟩
 refine zbz (K := K) (a := l5) (xs := ys) (fun i σ H6 => ∃ (l2 : Addr) (v6 v7 : Option V), σ = [some (.ref lb), some (.ref lc), some (.ref tp), some (.int (ts.length : Int)), some (.int (M : Int)), some (.ref l2), v6, v7, none, none, none, none, none] ∧ Same H5 H6 ∧ H l2 = none ∧ PicksAt H6 l2 (lpk ts il m p (ps'.take i) ps')) ⟨l4, none, none, rfl, Same.refl _, s03.free hl4, PS4.same s5⟩ (fun i σ H6 _ z => by
  obtain ⟨_, _, _, _, s6, _⟩ := z
  exact SqL.of (s6 _ _ g5)) ?_ ?_
 ·rintro i x σ H6 hx ⟨l2, v6, v7, rfl, s6, nl2, PL6⟩
  have pk6 := pk5.same (Same.tup s6)
  obtain ⟨r, tr, hr, rfl, htr⟩ := pk6.get hx
  have sub := zc7 (ts := ts) (il := il) (m := m) (a := p) (ps'.take i) ps'
  have et : ps'.take (i + 1) = ps'.take i ++ [r] := by rw [List.take_add_one, hr, Option.toList_some]
  have ev := zhl (ts := ts) (il := il) (m := m) (a := p) (p := r) (ps'.take i) ps'
  rw [et, ev]
  generalize lpk ts il m p (ps'.take i) ps' = left at PL6 sub
  have okl : PickOk m (zbb left r ++ [p]) := okp'.subl ((zee _ _ _).trans (sub.append (List.Sublist.refl _)))
  have lle := sub.length_le
  obtain ⟨ls, hl2, pkl⟩ := PL6.ex
  refine ⟨_, rfl, l2, rfl, ⟨_, SqL.of hl2⟩, ?_⟩
  refine zn4 (K := K) (a := l2) (σr := [some (.ref tr)]) (fun c => !decide (c = r)) rfl hl2 pkl (by omega) (fun c hc t ht R z => ?_) (fun l8 zs hl8 pz => ?_)
  ·refine ⟨_, rfl, _, rfl, zbm c, zbm r, zer ht, zer htr, zc2 _, zc2 _, _, rfl, ?_⟩
   rw [zkr]
   exact z
  have pz : PickL H6 (zbb left r) zs := pz
  have lz := pz.length
  have lz2 : (zbb left r).length ≤ left.length := List.length_filter_le _ _
  have s7 := zad hl8 (.lst zs)
  have g7 : L2.upd H6 l8 (.lst zs) l8 = some (.lst zs) := zab
  generalize L2.upd H6 l8 (.lst zs) = H7 at s7 g7 ⊢
  have PF7 : PicksAt H7 l8 (zbb left r) := ⟨⟨_, g7, pz.same (Same.tup s7)⟩, by omega, fun c hc => PL6.le c (mem_woPk.mp hc).1⟩
  refine ⟨_, rfl, _, rfl, _, rfl, _, rfl, zam (by show 1 ≤ 1000; decide), fun lk2 hlk2 => ?_⟩
  have s8 := zad hlk2 (.lst [.ref tp])
  have g8 : L2.upd H7 lk2 (.lst [.ref tp]) lk2 = some (.lst [.ref tp]) := zab
  generalize L2.upd H7 lk2 (.lst [.ref tp]) = H8 at s8 g8 ⊢
  refine ⟨l8, lk2, _, _, rfl, rfl, s8 _ _ g7, g8, zam (by rw [List.length_singleton]; omega), fun lw2 hlw2 => ?_⟩
  have s9 := zad hlw2 (.lst (zs ++ [.ref tp]))
  have g9 : L2.upd H8 lw2 (.lst (zs ++ [.ref tp])) lw2 = some (.lst (zs ++ [.ref tp])) := zab
  generalize L2.upd H8 lw2 (.lst (zs ++ [.ref tp])) = H9 at s9 g9 ⊢
  have s79 := s8.trans s9
  have s69 := s7.trans s79
  have s09 := s05.trans (s6.trans s69)
  have PW9 : PicksAt H9 lw2 (zbb left r ++ [p]) := (PF7.same s79).snocC (s79 _ _ g7) (by omega) (by omega) (s09 _ _ htp) g9
  refine ⟨lb, lw2, brN m ts, (M : Int), zbb left r ++ [p], rfl, s09 _ _ hlb, by rw [zb4]; exact pw, PW9, fun sl HA sA nsl hsl => ?_⟩
  refine ⟨zam (by show 0 ≤ 1000; decide), fun le hle => ?_⟩
  have sB := zad hle (.lst [])
  have gB : L2.upd HA le (.lst []) le = some (.lst []) := zab
  have gBs := sB _ _ hsl
  generalize L2.upd HA le (.lst []) = HB at sB gB gBs ⊢
  refine ⟨sl, le, (zbk (brN m ts) (M : Int) (zaj (zbb left r ++ [p])) (zaq (zbb left r ++ [p]))).map (fun k : Nat => (k : Int)), [], rfl, rfl, SqL.of (by rw [zlu]; exact gBs), SqL.of gB, _, rfl, ?_⟩
  have s6B := s69.trans (sA.trans sB)
  have iff := zlm okT m9 (okl.stand m1) hM ilt
  by_cases c : zbk (brN m ts) (M : Int) (zaj (zbb left r ++ [p])) (zaq (zbb left r ++ [p])) = []
  ·refine zfa (by rw [c]; rfl) ?_
   refine ⟨_, rfl, l8, _, _, rfl, s6.trans s6B, (s05.trans s6).free hl8, ?_⟩
   rw [if_pos (iff.mp c)]
   exact PF7.same (s79.trans (sA.trans sB))
  ·refine zb1 (fun z => c (by simpa using z)) ?_
   refine ⟨l2, _, _, rfl, s6.trans s6B, nl2, ?_⟩
   rw [if_neg (fun z => c (iff.mpr z))]
   exact PL6.same s6B
 ·rintro σ H6 ⟨l2, v6, v7, rfl, s6, nl2, PL6⟩
  rw [← ly, List.take_length] at PL6
  exact tail M l2 v6 v7 il _ ps' H6 (s05.trans s6) so hM hil rfl PL6 nl2
end
section
variable {P : Program} {w : World} {K : PySem.W.Frag} {mg : Str → Option Value} {base : Heap} {a : Adr} {d : Fds}
theorem zkx (T : Txt K mg a d) (LB : zi4 mg base a.c_cases_of a.t_cases_of) : FnOk P w K mg base CX0 21 a.f_Choice_why d.f_Choice_why ["self", "k", "value"] (spT a.t_cases_of (zxy a.x_Choice)) := by
 have G_open_at := zj7 (P := P) (w := w) (base := base) T
 have G_leads_on := zij (P := P) (w := w) (base := base) T
 have G_why_barred := zk2 (P := P) (w := w) (base := base) T LB
 refine T.K_Choice_why.ok zk8 (fun vs H Q E h => ?_) (fun cdv A outer s H vs Q E hr h => ?_)
 ·obtain ⟨_, c, dx, wd, pl, m, ts, ps, k, b, rfl, _⟩ := h
  rfl
 obtain ⟨tb, c, dx, wd, pl, m, ts, ps, k, b, rfl, hc, PA, W, m9, m1, tsl, ok, ko, q⟩ := h
 have p9 := ok.len
 have km := mem_openP.mp ko
 obtain ⟨xs0, ys0, WA, _⟩ := W.ex
 refine ⟨_, (zae (za8 (zar zd3 (pv 1) (zag G_open_at hr.lv rfl T.K_open_at (zaa (zcr (pv 0) rfl) (zaa (zcr (pv 0) rfl) zac))) (by with_unfolding_all rfl)) (zah zhq) zaz)
   (zae (za8 (zcf (zag G_leads_on hr.lv rfl T.K_leads_on (zaa (zcr (pv 0) rfl) (zaa (zcr (pv 0) rfl) (zaa (za9 (zaa (pv 1) (zaa (pv 2) zac))) zac))))) (zah (zau zc1)) zaz)
   (zah (zau (zag G_why_barred hr.lv rfl T.K_why_barred (zaa (zcr (pv 0) rfl) (zaa (zcr (pv 0) rfl) (zaa (za9 (zaa (pv 1) (zaa (pv 2) zac))) zac)))))))), ?_⟩
 refine ⟨_, rfl, _, rfl, c, _, _, _, _, rfl, hc, T.C_Choice, T.n_Choice_wood, rfl, _, rfl, c, _, _, _, _, rfl, hc, T.C_Choice, T.n_Choice_picks, rfl, ?_⟩
 refine ⟨wd, pl, m, xs0, ys0, ps, rfl, WA, by omega, PA, fun l H1 s1 nl hl => ?_⟩
 refine ⟨l, _, rfl, .inl (SqL.of hl), rfl, zgf _, _, rfl, ?_⟩
 refine zqi (show (!inV (.int (k : Int)) (zal (zay m (zaj ps) (zaq ps)))) = false by rw [zf2, decide_eq_true ko]; rfl) ?_
 have hc1 : H1 c = _ := s1 _ _ hc
 refine ⟨_, rfl, c, _, _, _, _, rfl, hc1, T.C_Choice, T.n_Choice_wood, rfl, _, rfl, c, _, _, _, _, rfl, hc1, T.C_Choice, T.n_Choice_picks, rfl, _, rfl, _, rfl, zam (by show 2 ≤ 1000; decide), fun tp htp => ?_⟩
 have s2 := s1.trans (zad htp (.tup [.int (k : Int), .bl b]))
 have h2 : L2.upd H1 tp (.tup [.int (k : Int), .bl b]) tp = some (.tup [.int (k : Int), .bl b]) := zab
 generalize L2.upd H1 tp (.tup [.int (k : Int), .bl b]) = H2 at s2 h2 ⊢
 refine ⟨wd, pl, tp, m, ts, ps, (k, b), rfl, W.same s2, m9, m1, PA.same s2, by omega, by show k ≤ 20; omega, h2, (ok.snoc ko).stand m1, fun H3 o s3 ho => ?_⟩
 have e := zp5 ho
 refine ⟨_, rfl, ?_⟩
 by_cases z : o.isSome = true
 ·rw [z] at e ⊢
  refine zl9 ?_
  exact q _ _ (s2.trans s3) (fun _ => rfl) (fun z => by rw [← e] at z; cases z)
 ·rw [Bool.eq_false_iff.mpr z] at e ⊢
  refine zek ?_
  have s23 := s2.trans s3
  have hc3 : H3 c = _ := s23 _ _ hc
  refine ⟨_, rfl, c, _, _, _, _, rfl, hc3, T.C_Choice, T.n_Choice_wood, rfl, _, rfl, c, _, _, _, _, rfl, hc3, T.C_Choice, T.n_Choice_picks, rfl, _, rfl, _, rfl, zam (by show 2 ≤ 1000; decide), fun tq htq => ?_⟩
  have s4 := s23.trans (zad htq (.tup [.int (k : Int), .bl b]))
  have h4 : L2.upd H3 tq (.tup [.int (k : Int), .bl b]) tq = some (.tup [.int (k : Int), .bl b]) := zab
  generalize L2.upd H3 tq (.tup [.int (k : Int), .bl b]) = H4 at s4 h4 ⊢
  refine ⟨s4.tab tb, wd, pl, tq, m, ts, ps, (k, b), rfl, W.same s4, tsl, m9, PA.same s4, by omega, ok.nd, h4, by show k ≤ 20; omega, fun v H5 ps' sp s5 wy => ?_⟩
  exact q _ _ (s4.trans s5) (fun z => by rw [← e] at z; cases z) (fun _ => ⟨ps', sp, wy.up s4⟩)
end
section
variable {P : Program} {w : World} {K : PySem.W.Frag} {mg : Str → Option Value} {base : Heap} {a : Adr} {d : Fds}
theorem zmw (T : Txt K mg a d) (LB : zi4 mg base a.c_cases_of a.t_cases_of) : FnOk P w K mg base CX0 23 a.f_law_right d.f_law_right ["_law_choice", "_law_broken_here", "_law_chosen", "_law_put", "_law_count"] (zuo a.x_Choice a.t_cases_of) := by
 have G_law_sets := zdl (P := P) (w := w) (base := base) T
 have G_law_due := zp1 (P := P) (w := w) (base := base) T
 have G_Choice_why := zkx (P := P) (w := w) (base := base) T LB
 refine T.K_law_right.ok sc_law_right (fun vs H Q E h => ?_) (fun cdv A outer s H vs Q E hr h => ?_)
 ·obtain ⟨c, dx, wd, pl, lb, lc, tp, m, ts, ps, p, rfl, _⟩ := h
  rfl
 obtain ⟨c, dx, wd, pl, lb, lc, tp, m, ts, ps, p, rfl, tb, hc, PA, PC, ok, W, hlb, m1, m9, t17, htp, hpo, q⟩ := h
 have p62 : (2 : Int) ^ 62 = 4611686018427387904 := by decide
 have pw : 2 ^ m ≤ 512 := zh6 m9
 have p9 := ok.len
 have okp : PickOk m (ps ++ [p]) := ok.snoc (b := p.2) hpo
 have kp := mem_openP.mp hpo
 have okT := W.ok
 obtain ⟨xs, hlc, pk⟩ := PC.ex
 have lx := pk.length
 obtain ⟨ct2, ch2, cu2⟩ := zug (X := (zd0 CX0 P w K mg base ["_law_choice", "_law_broken_here", "_law_chosen", "_law_put", "_law_count", "_law_due_here", "_law_turn", "_law_got", "_law_part"] "_law_right" (zai zdp) a.f_law_right cdv A outer s H E).nox) (st := (zba zdp).drop 2) (zae (zbo PassesOwn.never rfl (zbi rfl T.m_range (zaa zaf zac)) (zao (i := 6) sc_law_right.nd rfl (Or.inl rfl)) (zae (zan (i := 7) sc_law_right.nd rfl (Or.inl rfl) (zm7 (pv 0) T.C_Choice T.g_Choice_why G_Choice_why hr.lv T.K_Choice_why.B .nil zhg (zaa (zaw (ixT (K := K)) (pv 3) zaf (fun _ _ => rfl)) (zaa (zaw (ixT (K := K)) (pv 3) zaf (fun _ _ => rfl)) zac))))
   (zae (za8 (PW.pt (zsy (zar (zdd hr.units) (pv 7) (pv 5) (zat _)) (zo3 (PW.pt (zfu (zar zfk (pv 7) zc1 (zat _)) (zfc (zf1 (zcf (za3 (zyd (K := K)) rfl T.m_isinstance PyProof.Rows.boot_isinstance (zaa (pv 7) (zaa (zqe (v := .ty "tuple") rfl T.m_tuple PyProof.Rows.boot_tuple rfl) zac))))))))))) (zah (zau zjt)) zaz)
   (zah (za8 (zar zfk (pv 7) zc1 (zat _)) (zah (zbo PassesOwn.never rfl (piL (K := K) (za7 (zaa (zaw (ixT (K := K)) (pv 7) zaf (fun _ _ => rfl)) (zaa (zaw (ixT (K := K)) (pv 7) zaf (fun _ _ => rfl)) (zaa (zaw (ixT (K := K)) (pv 7) zaf (fun _ _ => rfl)) zac))))) (zao (i := 8) sc_law_right.nd rfl (Or.inl rfl)) (zae (za8 (zf1 (zcf (za3 (zyd (K := K)) rfl T.m_isinstance PyProof.Rows.boot_isinstance (zaa (pv 8) (zaa (zqe (v := .ty "list") rfl T.m_list PyProof.Rows.boot_list rfl) zac))))) (zah (zau zjt)) zaz)
   (zah (zcb (zdx (K := K) PySem.F.plainAttrs_list PySem.F.slot_list_append PySem.F.type_list_append zb2 (pv 8) (zaa zaf zac))))))) zaz)))))
   (zah (zau zjt)))
 refine ⟨_, (zae (zan (i := 5) sc_law_right.nd rfl (Or.inl rfl) zc1)
   (zae (za8 (zar (zdb hr.units) (zag G_law_sets hr.lv rfl T.K_law_sets (zaa (pv 1) (zaa (zlv zh8 zaf) (zaa (zap zcz (pv 2) (za7 (zaa (pv 3) zac))) zac)))) (za7 zac) (zat _)) (zah (zan (i := 5) sc_law_right.nd rfl (Or.inl rfl) (zag G_law_due hr.lv rfl T.K_law_due (zaa (pv 1) (zaa (pv 2) (zaa (pv 3) (zaa (pv 4) zac))))))) zaz)
   ch2)), ?_⟩
 refine ⟨_, rfl, 1, rfl, _, rfl, _, rfl, zam (by show 1 ≤ 1000; decide), fun lk hlk => ?_⟩
 have s1 := zad hlk (.lst [.ref tp])
 have g1 : L2.upd H lk (.lst [.ref tp]) lk = some (.lst [.ref tp]) := zab
 generalize L2.upd H lk (.lst [.ref tp]) = H1 at s1 g1 ⊢
 refine ⟨lc, lk, _, _, rfl, rfl, s1 _ _ hlc, g1, zam (by rw [List.length_singleton]; omega), fun lw hlw => ?_⟩
 have s2 := zad hlw (.lst (xs ++ [.ref tp]))
 have g2 : L2.upd H1 lw (.lst (xs ++ [.ref tp])) lw = some (.lst (xs ++ [.ref tp])) := zab
 generalize L2.upd H1 lw (.lst (xs ++ [.ref tp])) = H2 at s2 g2 ⊢
 have s02 := s1.trans s2
 have PW2 : PicksAt H2 lw (ps ++ [p]) := (PC.same s02).snocC (s02 _ _ hlc) (by omega) (by omega) (s02 _ _ htp) g2
 refine ⟨lb, lw, brN m ts, -1, ps ++ [p], rfl, s02 _ _ hlb, by rw [zb4]; exact pw, PW2, fun ls H3 s3 nls hls => ?_⟩
 refine ⟨zam (by show 0 ≤ 1000; decide), fun le hle => ?_⟩
 have s4' := zad hle (.lst [])
 have g4 : L2.upd H3 le (.lst []) le = some (.lst []) := zab
 have g4b := s4' _ _ hls
 generalize L2.upd H3 le (.lst []) = H4 at s4' g4 g4b ⊢
 have s04 := (s02.trans s3).trans s4'
 refine ⟨ls, le, (zbk (brN m ts) (-1) (zaj (ps ++ [p])) (zaq (ps ++ [p]))).map (fun k : Nat => (k : Int)), [], rfl, rfl, SqL.of (by rw [zlu]; exact g4b), SqL.of g4, _, rfl, ?_⟩
 by_cases L : zfq ts m (zaj (ps ++ [p])) (zaq (ps ++ [p])) = false
 ·refine zfa (by rw [sets_lead.mpr L]; rfl) ?_
  have B0 := zue okT m9 (okp.stand m1) (zdq _) L
  refine ⟨_, rfl, _, rfl, _, rfl, _, rfl, lb, lc, tp, m, ts, ps, p, rfl, s04 _ _ hlb, PC.same s04, okp, s04 _ _ htp, okT, m1, m9, t17, B0, fun dv H5 ps' so s5 dn5 => ?_⟩
  have s05 := s04.trans s5
  have wok := zs7 okT m9 m1 so okp B0
  have ilsub : (zbf ts m (zaj (ps ++ [p])) (zaq (ps ++ [p]))).Sublist (zcd ts) := leastL_sub
  have lsub : (zcc ts (zbf ts m (zaj (ps ++ [p])) (zaq (ps ++ [p]))) m ps' p).Sublist ps' := zc7 _ _
  have lall : (zcd ts).length = ts.length := List.length_range
  have ill := ilsub.length_le
  have lll := lsub.length_le
  have lps := so.pm.length_eq
  obtain ⟨il, hil⟩ : ∃ il, il = zbf ts m (zaj (ps ++ [p])) (zaq (ps ++ [p])) := ⟨_, rfl⟩
  rw [← hil] at wok dn5 ill lll
  have ly := zvq ts m il (zcc ts il m ps' p) p
  refine cu2 _ _ _ ?_
  refine ⟨_, rfl, by rw [p62]; decide, by rw [p62]; decide, ?_⟩
  refine zb5 (n := 2) (fun i σ H6 => ∃ (v6 v7 v8 : Option V), σ = [some (.ref c), some (.ref lb), some (.ref lc), some (.ref tp), some (.int (ts.length : Int)), some dv, v6, v7, v8] ∧ Same H5 H6) ⟨none, none, none, rfl, Same.refl _⟩ ?_ ?_
  ·rintro i σ H6 hi ⟨v6, v7, v8, rfl, s6⟩
   have s06 := s05.trans s6
   have hc6 := s06 _ _ hc
   have htp6 := s06 _ _ htp
   refine ⟨_, rfl, c, _, _, rfl, hc6, rfl, _, rfl, tp, _, _, _, rfl, rfl, sqT htp6, at0, _, rfl, tp, _, _, _, rfl, rfl, sqT htp6, at1, s06.tab tb, c, dx, wd, pl, m, ts, ps, p.1, p.2, rfl, hc6, PA.same s06, W.same s06, m9, m1, by omega, ok, hpo, fun v H7 s7 vt vf => ?_⟩
   obtain ⟨ps2, so2, wy⟩ := vf L
   cases zlr (so2.pm.trans so.pm.symm) so2.up so.up
   rw [← hil] at wy
   have dnv := wy.dn wok
   obtain ⟨qa, lf, lp, ow, o1, o2, tv, zs, ys, rfl, hq, hlf, plp, dtv, oth, othP, ho1, ho2, how⟩ := wy.ex
   obtain ⟨nf, np, no, _⟩ := wy.new qa lf lp ow tv rfl hq
   obtain ⟨us, hlp, pkl⟩ := plp.ex
   have lus : us.length ≤ 9 := by have h2 : (zcc ts il m ps' p).length = us.length := pkl.length; omega
   obtain ⟨z1, hz1, lz1, _⟩ := oth.ex
   obtain ⟨z2, hz2, lz2, _⟩ := othP.ex
   rw [ho1] at hz1
   cases hz1
   rw [ho2] at hz2
   cases hz2
   have lys : ys.length ≤ 9 := by have h2 : ys.length = (zcc ts il m ps' p).length := lz2; omega
   refine ⟨_, rfl, _, rfl, zt4 ts m il (zcc ts il m ps' p) p, zt4 ts m il (zcc ts il m ps' p) p, dnv, Dn.same (s6.trans s7) _ _ dn5, zj8 ly (by decide), zj8 ly (by decide), _, rfl, ?_⟩
   refine zhf (by rw [zuf ly]; rfl) ?_
   refine ⟨_, rfl, rfl, _, rfl, ?_⟩
   refine zi2 (by rw [decide_eq_false (by intro z; cases z)]; rfl) ?_
   refine ⟨_, rfl, _, _, _, _, rfl, .tup hq, zi3, _, rfl, ?_⟩
   refine zek ?_
   refine ⟨_, rfl, rfl, _, rfl, ?_⟩
   refine zi2 (by rw [decide_eq_false (by intro z; cases z)]; rfl) ?_
   refine ⟨_, rfl, qa, _, _, _, rfl, rfl, sqT hq, at0, _, rfl, qa, _, _, _, rfl, rfl, sqT hq, at1, _, rfl, qa, _, _, _, rfl, rfl, sqT hq, at3, zam (by show 3 ≤ 1000; decide), fun lq hlq => ?_⟩
   have s8 := zad hlq (.lst [.ref lf, .ref lp, .ref ow])
   have g8 : L2.upd H7 lq (.lst [.ref lf, .ref lp, .ref ow]) lq = some (.lst [.ref lf, .ref lp, .ref ow]) := zab
   generalize L2.upd H7 lq (.lst [.ref lf, .ref lp, .ref ow]) = H8 at s8 g8 ⊢
   have s68 := s7.trans s8
   have each : ∀ l ∈ [lf, lp, ow], H6 l = none ∧ l ≠ lq ∧ ∃ ks : List V, H8 l = some (.lst ks) ∧ ks.length ≤ 500 := by
    intro l hl
    have ne : ∀ {o : HO}, H7 l = some o → l ≠ lq := fun h z => by rw [z, hlq] at h; cases h
    simp only [List.mem_cons, List.not_mem_nil, or_false] at hl
    rcases hl with rfl | rfl | rfl
    ·exact ⟨nf, ne hlf, _, s8 _ _ hlf, by rw [List.length_map]; omega⟩
    ·exact ⟨np, ne hlp, _, s8 _ _ hlp, by omega⟩
    ·exact ⟨no, ne how, _, s8 _ _ how, by rw [List.length_append]; omega⟩
   refine ⟨lq, rfl, ⟨_, SqL.of g8⟩, ?_⟩
   refine zbz (K := K) (a := lq) (xs := [.ref lf, .ref lp, .ref ow]) (fun j σ H9 => ∃ (v8 : Option V), σ = [some (.ref c), some (.ref lb), some (.ref lc), some (.ref tp), some (.int (ts.length : Int)), some dv, some (.int (i : Int)), some (.ref qa), v8] ∧ Same H6 H9 ∧ H9 lq = some (.lst [.ref lf, .ref lp, .ref ow]) ∧ ∀ l ∈ [lf, lp, ow], ∃ ks : List V, H9 l = some (.lst ks) ∧ ks.length ≤ 500 + j) ⟨v8, rfl, s68, g8, fun l hl => (each l hl).2.2⟩ (fun j σ H9 _ z => by
    obtain ⟨_, _, _, h, _⟩ := z
    exact SqL.of h) ?_ ?_
   ·rintro j x σ H9 hx ⟨v8', rfl, s9, h9, e9⟩
    obtain ⟨l, hl, rfl⟩ : ∃ l ∈ [lf, lp, ow], x = .ref l := by
     have := List.mem_of_getElem? hx
     simp only [List.mem_cons, List.not_mem_nil, or_false] at this
     rcases this with rfl | rfl | rfl <;> exact ⟨_, by simp, rfl⟩
    have j3 : j < 3 := (List.getElem?_eq_some_iff.mp hx).1
    obtain ⟨ks, hk, lks⟩ := e9 l hl
    refine ⟨_, rfl, _, _, _, _, rfl, .lst hk, zkz, _, rfl, ?_⟩
    refine zek ?_
    refine ⟨_, rfl, .inl ⟨rfl, _, SqL.of hk⟩, l, _, _, rfl, rfl, hk, zbd (by omega), ?_⟩
    refine ⟨_, rfl, Same.put s9 (each l hl).1 hk, by rw [zak (Ne.symm (each l hl).2.1)]; exact h9, fun l' hl' => ?_⟩
    by_cases e : l' = l
    ·rw [e]
     exact ⟨_, zab, by rw [List.length_append, List.length_singleton]; omega⟩
    ·obtain ⟨ks', h1, h2⟩ := e9 l' hl'
     exact ⟨ks', by rw [zak e]; exact h1, by omega⟩
   ·rintro σ H9 ⟨v8', rfl, s9, h9, e9⟩
    exact ⟨_, _, _, rfl, s6.trans s9⟩
  ·rintro σ H6 ⟨v6, v7, v8, rfl, s6⟩
   exact q _ (s05.trans s6)
 ·refine zb1 (fun z => L (sets_lead.mp (by simpa using z))) ?_
  have L := Bool.not_eq_false _ ▸ L
  refine cu2 _ _ _ ?_
  refine ⟨_, rfl, by rw [p62]; decide, by rw [p62]; decide, ?_⟩
  refine zb5 (n := 2) (fun i σ H6 => ∃ (v6 v7 v8 : Option V), σ = [some (.ref c), some (.ref lb), some (.ref lc), some (.ref tp), some (.int (ts.length : Int)), some .non, v6, v7, v8] ∧ Same H4 H6) ⟨none, none, none, rfl, Same.refl _⟩ ?_ ?_
  ·rintro i σ H6 hi ⟨v6, v7, v8, rfl, s6⟩
   have s06 := s04.trans s6
   have hc6 := s06 _ _ hc
   have htp6 := s06 _ _ htp
   refine ⟨_, rfl, c, _, _, rfl, hc6, rfl, _, rfl, tp, _, _, _, rfl, rfl, sqT htp6, at0, _, rfl, tp, _, _, _, rfl, rfl, sqT htp6, at1, s06.tab tb, c, dx, wd, pl, m, ts, ps, p.1, p.2, rfl, hc6, PA.same s06, W.same s06, m9, m1, by omega, ok, hpo, fun v H7 s7 vt vf => ?_⟩
   cases vt (by simpa using L)
   refine ⟨_, rfl, _, rfl, .none, .none, rfl, rfl, by decide, by decide, _, rfl, ?_⟩
   refine zhf rfl ?_
   refine ⟨_, rfl, rfl, _, rfl, ?_⟩
   refine zhf rfl ?_
   refine zek ?_
   refine ⟨_, rfl, rfl, _, rfl, ?_⟩
   refine zhf rfl ?_
   exact ⟨_, _, _, rfl, s6.trans s7⟩
  ·rintro σ H6 ⟨v6, v7, v8, rfl, s6⟩
   exact q _ (s04.trans s6)
end
section
variable {P : Program} {w : World} {K : PySem.W.Frag} {mg : Str → Option Value} {base : Heap} {a : Adr} {d : Fds}
theorem zh1 (T : Txt K mg a d) : FnOk P w K mg base CX0 1 a.f_Choice_chosen d.f_Choice_chosen ["self"] (zsb a.x_Choice) := by
 refine T.K_Choice_chosen.ok zih (fun vs H Q E h => ?_) (fun cdv A outer s H vs Q E hr h => ?_)
 ·obtain ⟨c, dx, wd, pl, ps, rfl, _⟩ := h
  rfl
 obtain ⟨c, dx, wd, pl, ps, rfl, hc, PA, q⟩ := h
 obtain ⟨xs, hpl, pk⟩ := PA.ex
 refine ⟨_, (zah (zau (zb0 zd8 rfl T.m_list PyProof.Rows.boot_list (zaa (zcr (pv 0) rfl) zac)))), ?_⟩
 refine ⟨_, rfl, c, _, _, _, _, rfl, hc, T.C_Choice, T.n_Choice_picks, rfl, pl, _, rfl, .inl (SqL.of hpl), fun l hl => ?_⟩
 have s1 := zad hl (.lst xs)
 exact q l _ s1 hl ⟨⟨xs, zab, pk.same (Same.tup s1)⟩, PA.few, PA.le⟩
end
section
variable {P : Program} {w : World} {K : PySem.W.Frag} {mg : Str → Option Value} {base : Heap} {a : Adr} {d : Fds}
theorem zo2 (T : Txt K mg a d) (LB : zi4 mg base a.c_cases_of a.t_cases_of) : FnOk P w K mg base CX0 25 a.f_law_all d.f_law_all ["_law_state", "_law_choice", "_law_broken_here", "_law_wood_here", "_law_chosen"] (zwf K a.x_Choice a.t_cases_of) := by
 have G_law_take := zdr (P := P) (w := w) (base := base) T
 have G_law_right := zmw (P := P) (w := w) (base := base) T LB
 have G_Choice_chosen := zh1 (P := P) (w := w) (base := base) T
 refine T.K_law_all.ok sc_law_all (fun vs H Q E h => ?_) (fun cdv A outer s H vs Q E hr h => ?_)
 ·obtain ⟨pen, sp, ns, k, c, dx, wd, pl, lb, lc, m, ts, ps, rfl, _⟩ := h
  rfl
 obtain ⟨pen, sp, ns, k, c, dx, wd, pl, lb, lc, m, ts, ps, rfl, tb, pn, k0, k9, hc, PA, PC, ok, WT', hlb, nlb, m1, m9, t17, q⟩ := h
 have p62 : (2 : Int) ^ 62 = 4611686018427387904 := by decide
 have p9 := ok.len
 obtain ⟨ct3, ch3, cu3⟩ := zug (X := (zd0 CX0 P w K mg base ["_law_state", "_law_choice", "_law_broken_here", "_law_wood_here", "_law_chosen", "_law_puts", "_law_k", "_law_put"] "_law_all" (zai zdc) a.f_law_all cdv A outer s H E).nox) (st := (zba zdc).drop 3) (zae (zbo PassesOwn.never rfl (piL (K := K) (pv 5)) (zao (i := 7) sc_law_all.nd rfl (Or.inl rfl)) (zah (za8 (zf1 (zcf (zag G_law_right hr.lv rfl T.K_law_right (zaa (pv 1) (zaa (pv 2) (zaa (pv 4) (zaa (pv 7) (zaa (zap zb6 (za3 (zep (K := K)) rfl T.m_len PySem.boot_len (zaa (zaw (ixT (K := K)) (pv 3) zaf (fun _ _ => rfl)) zac)) (za3 (zep (K := K)) rfl T.m_len PySem.boot_len (zaa (zaw (ixT (K := K)) (pv 3) zaf (fun _ _ => rfl)) zac))) zac)))))))) (zah (zau zjt)) zaz)))
   (zah (zau (zbw (zpn hr.units) (znh (pv 1) T.C_Choice T.g_Choice_chosen G_Choice_chosen hr.lv T.K_Choice_chosen.B .nil zhg) (pv 4) (zat _)))))
 have tail : ∀ (lpu : Addr) (us : List V) (pus : List (Nat × Bool)) (k1 : Int) (v6 : Option V) (H1 : Hp), SameX pen H H1 → H1 pen = some (.lst [.ref sp, .int k1]) → k ≤ k1 → k1 ≤ k + 2 → H1 lpu = some (.lst us) → PickL H1 pus us → (∀ r ∈ pus, r.1 ∈ zay m (zaj ps) (zaq ps)) → ct3 { nx := fun _ H' => Q .non H', rt := Q } [some (.ref pen), some (.ref c), some (.ref lb), some (.ref wd), some (.ref lc), some (.ref lpu), v6, none] H1 := by
  intro lpu us pus k1 v6 H1 x1 hp1 ka kb hpu pku pup
  refine cu3 _ _ _ ?_
  have t1 := SameX.tup pn.at_ x1
  have npc : c ≠ pen := fun z => by rw [z, pn.at_] at hc; cases hc
  have hc1 : H1 c = some (.ins a.x_Choice dx (chF wd pl)) := x1 _ _ npc hc
  have PA1 := PA.x pn.at_ (zbj PA pn.at_) x1
  have PC1 := PC.x pn.at_ (zbj PC pn.at_) x1
  have hlb1 : H1 lb = some (.lst (zal (brN m ts))) := x1 _ _ nlb hlb
  have tb1 : zcw H1 a.t_cases_of := SameX.tab x1 pn.at_ tb
  have W1 := WT' H1 t1
  obtain ⟨xs0, ys0, ⟨tb0, tc0, hw1, hb1, hcr1⟩, dn1⟩ := W1.ex
  have lxy := DnL.len2 dn1
  rw [List.length_map, List.length_append] at lxy
  refine ⟨_, rfl, lpu, rfl, ⟨_, SqL.of hpu⟩, ?_⟩
  refine zbz (K := K) (a := lpu) (xs := us) (fun i σ H2 => (∃ v7 : Option V, σ = [some (.ref pen), some (.ref c), some (.ref lb), some (.ref wd), some (.ref lc), some (.ref lpu), v6, v7]) ∧ Same H1 H2) ⟨⟨none, rfl⟩, Same.refl _⟩ (fun i σ H2 _ z => SqL.of (z.2 _ _ hpu)) ?_ ?_
  ·rintro i x σ H2 hx ⟨⟨v7, rfl⟩, s2⟩
   obtain ⟨r, tr, hr, rfl, htr⟩ := (pku.same (Same.tup s2)).get hx
   have hw2 := s2 _ _ hw1
   refine ⟨_, rfl, _, rfl, _, rfl, _, rfl, _, rfl, wd, _, _, _, rfl, rfl, sqT hw2, at1, tb0, _, rfl, .inr (sqT (s2 _ _ hb1)), _, rfl, wd, _, _, _, rfl, rfl, sqT hw2, at2, tc0, _, rfl, .inr (sqT (s2 _ _ hcr1)), _, _, rfl, rfl, c, dx, wd, pl, lb, lc, tr, m, ts, ps, r, ?_, s2.tab tb1, s2 _ _ hc1, PA1.same s2, PC1.same s2, ok, W1.same s2, s2 _ _ hlb1, m1, m9, t17, htr, pup r (List.mem_of_getElem? hr), fun H3 s3 => ?_⟩
   ·rw [show ((ts.length : Nat) : Int) = (xs0.length : Int) + (ys0.length : Int) by omega]
    rfl
   refine ⟨_, rfl, ?_⟩
   refine zek ?_
   exact ⟨⟨_, rfl⟩, s2.trans s3⟩
  ·rintro σ H2 ⟨⟨v7, rfl⟩, s2⟩
   refine ⟨_, rfl, c, _, _, rfl, s2 _ _ hc1, rfl, c, dx, wd, pl, ps, rfl, s2 _ _ hc1, PA1.same s2, fun lk H3 s3 nlk P9 => ?_⟩
   obtain ⟨xs3, g3, pk3⟩ := P9.ex
   obtain ⟨ys3, g3c, pk3c⟩ := ((PC1.same s2).same s3).ex
   refine ⟨_, rfl, .list (ps.map zbm), .list (ps.map zbm), ⟨lk, _, rfl, g3, pk3.dn⟩, ⟨lc, _, rfl, g3c, pk3c.dn⟩, zd7 _, zd7 _, ?_⟩
   rw [zg9 _ (SeqAt.canLay_of_shaped (zd7 _))]
   have s13 := s2.trans s3
   exact q k1 _ (x1.trans (Same.x s13)) (s13 _ _ hp1) ka kb
 refine ⟨_, (zae (zan (i := 5) sc_law_all.nd rfl (Or.inr rfl) (za7 zac))
   (zae (zbo PassesOwn.never rfl (zld rfl T.m_range (zaa zaf (zaa (zaw (ixT (K := K)) (pv 3) zaf (fun _ _ => rfl)) zac))) (zao (i := 6) sc_law_all.nd rfl (Or.inl rfl)) (zah (za8 (zar (zwe (K := K)) (pv 6) (zef (sc0 := zai zdc) (XN := ["_law_state", "_law_choice", "_law_broken_here", "_law_wood_here", "_law_chosen", "_law_puts", "_law_k", "_law_put"]) (N' := ["_law_one"]) (n := 1) (kp := []) rfl (piL (K := K) (pv 4)) rfl rfl (by decide +kernel) (fun _ _ _ _ _ => (zao (i := 0) (by show List.Nodup (["_law_one"] : List Str); decide +kernel) rfl (Or.inl rfl))) (fun _ _ _ _ _ => zgc) (fun _ _ _ _ _ => (zaw (ixT (K := K)) (pv 0) zaf (fun _ _ => rfl)))) (by with_unfolding_all rfl)) (zah (zan (i := 5) sc_law_all.nd rfl (Or.inr rfl) (zap zcz (pv 5) (za7 (zaa (za9 (zaa (pv 6) (zaa zjt zac))) (zaa (za9 (zaa (pv 6) (zaa zjt zac))) zac)))))) zaz)))
   (zae (za8 (PW.pt (zfu (zar zhc (zaw (ixT (K := K)) (pv 3) zaf (fun _ _ => rfl)) zaf (zat _)) (zfc (zar (zdd hr.units) (pv 5) (za7 zac) (zat _))))) (zah (zan (i := 5) sc_law_all.nd rfl (Or.inr rfl) (zef (sc0 := zai zdc) (XN := ["_law_state", "_law_choice", "_law_broken_here", "_law_wood_here", "_law_chosen", "_law_puts", "_law_k", "_law_put"]) (N' := ["_law_turn", "_law_puts", "_law_state"]) (n := 1) (kp := [5, 0]) rfl (zbi rfl T.m_range (zaa zaf zac)) rfl rfl (by decide +kernel) (fun _ _ _ _ _ => (zao (i := 0) (by show List.Nodup (["_law_turn", "_law_puts", "_law_state"] : List Str); decide +kernel) rfl (Or.inl rfl))) (fun _ _ _ _ _ => zgc) (fun _ _ _ _ _ => (zaw (ixL (K := K)) (pv 1) (zag G_law_take hr.lv rfl T.K_law_take (zaa (pv 2) (zaa (za3 (zep (K := K)) rfl T.m_len PySem.boot_len (zaa (pv 1) zac)) zac))) (fun _ _ => rfl)))))) zaz)
   ch3))), ?_⟩
 refine ⟨zam (by show 0 ≤ 1000; decide), fun le hle => ?_⟩
 have s1 := zad hle (.lst [])
 have g1 : L2.upd H le (.lst []) le = some (.lst []) := zab
 generalize L2.upd H le (.lst []) = H1 at s1 g1 ⊢
 have PC1 := PC.same s1
 obtain ⟨xs1, ys1, ⟨tb1, tc1, hw1, hb1, hcr1⟩, dn1⟩ := (WT' H1 (Same.tup s1)).ex
 refine ⟨_, rfl, wd, _, _, _, rfl, rfl, sqT hw1, at0, _, _, rfl, ⟨by rw [p62]; omega, by rw [p62]; omega, by rw [p62]; omega, by rw [p62]; omega⟩, ?_⟩
 refine zhz (lo := 1) (n := ((m : Int) - 1).toNat) (fun i σ H2 => ∃ (lpu : Addr) (us : List V) (pus : List (Nat × Bool)) (v6 : Option V), σ = [some (.ref pen), some (.ref c), some (.ref lb), some (.ref wd), some (.ref lc), some (.ref lpu), v6, none] ∧ Same H1 H2 ∧ lpu ≠ pen ∧ H2 lpu = some (.lst us) ∧ PickL H2 pus us ∧ pus.length ≤ 2 * i ∧ ∀ r ∈ pus, r.1 ∈ zay m (zaj ps) (zaq ps)) ⟨le, [], [], none, rfl, Same.refl _, fun z => (by rw [z, pn.at_] at hle; cases hle), g1, rfl, Nat.le_refl _, fun _ z => nomatch z⟩ ?_ ?_
 ·rintro i σ H2 hi ⟨lpu, us, pus, v6, rfl, s2, npu, hpu, pku, pul, pup⟩
  have lus := pku.length
  have im : i + 1 < m := by omega
  have ek : (1 : Int) + (i : Int) = ((i + 1 : Nat) : Int) := by omega
  rw [ek]
  obtain ⟨xs, hlc, pk⟩ := (PC1.same s2).ex
  have lx := pk.length
  refine ⟨_, rfl, _, rfl, lc, rfl, ⟨_, SqL.of hlc⟩, ?_⟩
  refine zco (K := K) (a := lc) (xs := xs) (fun i ys σ H3 => (∃ v, σ = [v]) ∧ H3 = H2 ∧ ys = zal ((ps.take i).map (·.1))) ⟨⟨none, rfl⟩, rfl, rfl⟩ (fun i ys σ H3 hi pv => ?_) (fun i ys σ H3 hi pv => ?_) (fun i x ys σ H3 hx pv => ?_) (fun ys σ H3 pv ln hln => ?_)
  ·rw [pv.2.2]
   exact zam (by rw [List.length_map, List.length_map, List.length_take]; omega)
  ·rw [pv.2.1]
   exact SqL.of hlc
  ·obtain ⟨⟨v, rfl⟩, rfl, rfl⟩ := pv
   obtain ⟨r, t, hr, rfl, ht⟩ := pk.get hx
   refine ⟨_, rfl, t, _, _, _, rfl, rfl, sqT ht, at0, ⟨_, rfl⟩, rfl, ?_⟩
   rw [List.take_add_one, hr, Option.toList_some, List.map_append, zh4]
   rfl
  obtain ⟨_, rfl, rfl⟩ := pv
  rw [← lx, List.take_length]
  have s3 := zad hln (.lst (zal (ps.map (·.1))))
  have g3 : L2.upd H3 ln (.lst (zal (ps.map (·.1)))) ln = some (.lst (zal (ps.map (·.1)))) := zab
  generalize L2.upd H3 ln (.lst (zal (ps.map (·.1)))) = H4 at s3 g3 ⊢
  refine ⟨ln, _, rfl, .inl (SqL.of g3), rfl, zgf _, _, rfl, ?_⟩
  by_cases hin : (i + 1) ∈ ps.map (·.1)
  ·refine zqi (show (!inV (.int ((i + 1 : Nat) : Int)) (zal (ps.map (·.1)))) = false by rw [zf2, decide_eq_true hin]; rfl) ?_
   exact ⟨lpu, us, pus, _, rfl, s2.trans s3, npu, s3 _ _ hpu, pku.same (Same.tup s3), by omega, pup⟩
  refine zyz (show (!inV (.int ((i + 1 : Nat) : Int)) (zal (ps.map (·.1)))) = true by rw [zf2, decide_eq_false hin]; rfl) ?_
  refine ⟨_, rfl, _, rfl, zam (by show 2 ≤ 1000; decide), fun ka hka => ?_⟩
  have sC := zad hka (.tup [.int ((i + 1 : Nat) : Int), .bl false])
  have gC : L2.upd H4 ka (.tup [.int ((i + 1 : Nat) : Int), .bl false]) ka = some (.tup [.int ((i + 1 : Nat) : Int), .bl false]) := zab
  generalize L2.upd H4 ka (.tup [.int ((i + 1 : Nat) : Int), .bl false]) = HC at sC gC ⊢
  refine ⟨_, rfl, zam (by show 2 ≤ 1000; decide), fun kb hkb => ?_⟩
  have sD := zad hkb (.tup [.int ((i + 1 : Nat) : Int), .bl true])
  have gD : L2.upd HC kb (.tup [.int ((i + 1 : Nat) : Int), .bl true]) kb = some (.tup [.int ((i + 1 : Nat) : Int), .bl true]) := zab
  have gDa := sD _ _ gC
  generalize L2.upd HC kb (.tup [.int ((i + 1 : Nat) : Int), .bl true]) = HD at sD gD gDa ⊢
  refine ⟨zam (by show 2 ≤ 1000; decide), fun lk hlk => ?_⟩
  have sE := zad hlk (.lst [.ref ka, .ref kb])
  have gE : L2.upd HD lk (.lst [.ref ka, .ref kb]) lk = some (.lst [.ref ka, .ref kb]) := zab
  have gEa := sE _ _ gDa
  have gEb := sE _ _ gD
  generalize L2.upd HD lk (.lst [.ref ka, .ref kb]) = HE at sE gE gEa gEb ⊢
  have s2E := ((s3.trans sC).trans sD).trans sE
  have pkk : PickL HE [(i + 1, false), (i + 1, true)] [.ref ka, .ref kb] := ⟨ka, _, rfl, gEa, kb, _, rfl, gEb, rfl⟩
  refine ⟨lpu, lk, _, _, rfl, rfl, s2E _ _ hpu, gE, zam (by show us.length + 2 ≤ 1000; omega), fun l9 hl9 => ?_⟩
  have sG := zad hl9 (.lst (us ++ [.ref ka, .ref kb]))
  have gG : L2.upd HE l9 (.lst (us ++ [.ref ka, .ref kb])) l9 = some (.lst (us ++ [.ref ka, .ref kb])) := zab
  generalize L2.upd HE l9 (.lst (us ++ [.ref ka, .ref kb])) = HG at sG gG ⊢
  have s2G := s2E.trans sG
  refine ⟨l9, _, _, _, rfl, s2.trans s2G, fun z => ?_, gG, PickL.append (pku.same (Same.tup s2G)) (pkk.same (Same.tup sG)), by rw [List.length_append]; simp only [List.length_cons, List.length_nil]; omega, fun r hr => ?_⟩
  ·have y : HE pen = some (.lst [.ref sp, .int k]) := ((s1.trans s2).trans s2E) _ _ pn.at_
   rw [z] at hl9
   rw [hl9] at y
   cases y
  ·rcases List.mem_append.mp hr with z | z
   ·exact pup r z
   ·have er : r.1 = i + 1 := by
     simp only [List.mem_cons, List.not_mem_nil, or_false] at z
     rcases z with rfl | rfl <;> rfl
    rw [er]
    exact mem_openP.mpr ⟨im, by omega, hin⟩
 rintro σ H2 ⟨lpu, us, pus, v6, rfl, s2, npu, hpu, pku, pul, pup⟩
 have s02 := s1.trans s2
 have lus := pku.length
 have hp2 : H2 pen = some (.lst [.ref sp, .int k]) := s02 _ _ pn.at_
 have go : ct3 { nx := fun _ H' => Q .non H', rt := Q } [some (.ref pen), some (.ref c), some (.ref lb), some (.ref wd), some (.ref lc), some (.ref lpu), v6, none] H2 := tail lpu us pus k v6 H2 (Same.x s02) hp2 (by omega) (by omega) hpu pku pup
 have hw2 := s2 _ _ hw1
 refine ⟨_, rfl, wd, _, _, _, rfl, rfl, sqT hw2, at0, _, _, rfl, rfl, _, rfl, ?_⟩
 by_cases c6 : (m : Int) > 6
 rotate_left
 ·refine zb1 c6 ?_
  refine zek ?_
  exact go
 refine zfa c6 ?_
 refine ⟨_, rfl, zam (by show 0 ≤ 1000; decide), fun l9 hl9 => ?_⟩
 have s3 := zad hl9 (.lst [])
 have g3 : L2.upd H2 l9 (.lst []) l9 = some (.lst []) := zab
 generalize L2.upd H2 l9 (.lst []) = H3 at s3 g3 ⊢
 have s03 := s02.trans s3
 refine ⟨.list (pus.map zbm), .list [], ⟨lpu, _, rfl, s3 _ _ hpu, (pku.same (Same.tup s3)).dn⟩, ⟨l9, _, rfl, g3, rfl⟩, zd7 _, zgv, _, rfl, ?_⟩
 by_cases pe : pus = []
 ·subst pe
  refine zhf (by rw [show PyData.eqv (.list (List.map zbm [])) (.list []) = true from zg9 _ (SeqAt.canLay_of_shaped zgv)]; rfl) ?_
  exact tail lpu us [] k v6 H3 (Same.x s03) (s3 _ _ hp2) (by omega) (by omega) (s3 _ _ hpu) (pku.same (Same.tup s3)) pup
 have en : PyData.eqv (.list (pus.map zbm)) (.list []) = false := by
  cases pus with
  | nil => exact absurd rfl pe
  | cons r pus => simp [PyData.eqv, PyData.eqvAll]
 refine zi2 (by rw [en]; rfl) ?_
 have pl1 : 1 ≤ pus.length := List.length_pos_iff.mpr pe
 have hp3 : H3 pen = some (.lst [.ref sp, .int k]) := s03 _ _ pn.at_
 have hpu3 : H3 lpu = some (.lst us) := s3 _ _ hpu
 refine ⟨_, rfl, by rw [p62]; decide, by rw [p62]; decide, ?_⟩
 refine zeb (k := 2) (fun i ys σ H4 => (∃ v, σ = [v, some (.ref lpu), some (.ref pen)]) ∧ SameX pen H3 H4 ∧ H4 pen = some (.lst [.ref sp, .int (k + i)]) ∧ i ≤ 2 ∧ ys.length = i ∧ ∃ qs, PickL H4 qs ys ∧ ∀ r ∈ qs, r.1 ∈ zay m (zaj ps) (zaq ps)) ⟨⟨none, rfl⟩, Same.x (Same.refl _), by rw [show k + ((0 : Nat) : Int) = k by omega]; exact hp3, by omega, rfl, [], rfl, fun _ z => nomatch z⟩ (fun i ys σ H4 hi pv => ?_) (fun i ys σ H4 hi pv => ?_) (fun ys σ H4 pv lz hlz => ?_)
 ·obtain ⟨_, _, _, _, hy, _⟩ := pv
  exact zam (by omega)
 ·obtain ⟨⟨v, rfl⟩, x4, hp4, i2, hy, qs, pq, qin⟩ := pv
  have hpu4 : H4 lpu = some (.lst us) := x4 _ _ npu hpu3
  have pn4 : Pen K H4 pen sp ns (k + i) := pn.to ((Same.x s03).trans x4) hp4
  refine ⟨_, rfl, _, rfl, _, rfl, lpu, _, rfl, .inl (SqL.of hpu4), pen, sp, ns, (us.length : Int), k + i, rfl, pn4, by omega, by omega, by omega, fun wj wj0 wj1 => ?_⟩
  have x5 := za2 (pen := pen) (H := H4) (.lst [.ref sp, .int (k + i + 1)])
  have g5 : L2.upd H4 pen (.lst [.ref sp, .int (k + i + 1)]) pen = some (.lst [.ref sp, .int (k + i + 1)]) := zab
  generalize L2.upd H4 pen (.lst [.ref sp, .int (k + i + 1)]) = H5 at x5 g5 ⊢
  have t5 := SameX.tup hp4 x5
  have t35 := zax (SameX.tup hp3 x4) t5
  obtain ⟨wn, rfl⟩ : ∃ wn : Nat, wj = (wn : Int) := ⟨wj.toNat, by omega⟩
  obtain ⟨uv, huv⟩ : ∃ uv, us[wn]? = some uv := ⟨_, List.getElem?_eq_getElem (by omega)⟩
  obtain ⟨r, tr, hr, rfl, htr⟩ := ((pku.same (Same.tup s3)).same t35).get huv
  refine ⟨lpu, _, _, _, rfl, rfl, SqL.of (x5 _ _ npu hpu4), zdj huv, ⟨_, rfl⟩, x4.trans x5, by rw [show k + ((i + 1 : Nat) : Int) = k + i + 1 by omega]; exact g5, by omega, by rw [List.length_append, List.length_singleton, hy], qs ++ [r], PickL.snoc htr (pq.same t5), fun z hz => ?_⟩
  rcases List.mem_append.mp hz with y | y
  ·exact qin z y
  ·rw [List.mem_singleton.mp y]
   exact pup r (List.mem_of_getElem? hr)
 obtain ⟨_, x4, hp4, _, hy, qs, pq, qin⟩ := pv
 have s5 := zad hlz (.lst ys)
 refine tail lz ys qs (k + (2 : Nat)) v6 _ ((Same.x s03).trans (x4.trans (Same.x s5))) (s5 _ _ hp4) (by omega) (by omega) zab (pq.same (Same.tup s5)) qin
end
section
variable {P : Program} {w : World} {K : PySem.W.Frag} {mg : Str → Option Value} {base : Heap} {a : Adr} {d : Fds}
theorem zg6 (T : Txt K mg a d) : FnOk P w K mg base CX0 19 a.f_Choice___init__ d.f_Choice___init__ ["self", "wood"] (zwp a.x_Choice) := by
 have G_first_ware_at := zdh (P := P) (w := w) (base := base) T
 refine T.K_Choice___init__.ok zgw (fun vs H Q E h => ?_) (fun cdv A outer s H vs Q E hr h => ?_)
 ·obtain ⟨c, dx, wd, m, ts, rfl, _⟩ := h
  rfl
 obtain ⟨c, dx, wd, m, ts, rfl, hc, W, m9, m1, ⟨sw, sm, sW⟩, q⟩ := h
 refine ⟨_, (zae (za8 (zar zt0 (zag G_first_ware_at hr.lv rfl T.K_first_ware_at (zaa (pv 1) (zaa (za7 zac) zac))) zc1 (zat _)) (zah zhq) zaz)
   (zae (zo6 (pv 0) (pv 1) rfl)
   (zah (zo6 (pv 0) (za7 zac) rfl)))), ?_⟩
 refine ⟨_, rfl, zam (by show 0 ≤ 1000; decide), fun l1 hl1 => ?_⟩
 have s1 := zad hl1 (.lst [])
 have h1 : L2.upd H l1 (.lst []) l1 = some (.lst []) := zab
 generalize L2.upd H l1 (.lst []) = H1 at s1 h1 ⊢
 refine ⟨wd, l1, m, ts, [], rfl, W.same s1, m9, m1, ⟨⟨[], h1, rfl⟩, by decide, (fun _ z => nomatch z)⟩, zvm m1, fun H2 o s2 ho => ?_⟩
 obtain ⟨s0, rfl⟩ := zg5 ho ⟨sw, sm, ztg sW, sW⟩
 refine ⟨rfl, _, rfl, ?_⟩
 refine zb1 (fun z => nomatch z) ?_
 have s12 := s1.trans s2
 have hc2 : H2 c = some (.ins a.x_Choice dx []) := s12 _ _ hc
 refine ⟨_, rfl, _, rfl, c, _, _, _, rfl, hc2, T.C_Choice, T.n_Choice_wood, by decide, ?_⟩
 have t3 := ze6 (o' := .ins a.x_Choice dx [(("wood" : Str), .ref wd)]) hc2 (fun _ z => nomatch z)
 have hc3 : L2.upd H2 c (.ins a.x_Choice dx [(("wood" : Str), .ref wd)]) c = some (.ins a.x_Choice dx [(("wood" : Str), .ref wd)]) := zab
 refine ⟨zam (by show 0 ≤ 1000; decide), fun l2 hl2 => ?_⟩
 have hl2' : L2.upd H2 c (.ins a.x_Choice dx [(("wood" : Str), .ref wd)]) l2 = none := hl2
 have s4 := zad hl2' (.lst [])
 have h4 : L2.upd (L2.upd H2 c (.ins a.x_Choice dx [(("wood" : Str), .ref wd)])) l2 (.lst []) l2 = some (.lst []) := zab
 have hc4 : L2.upd (L2.upd H2 c (.ins a.x_Choice dx [(("wood" : Str), .ref wd)])) l2 (.lst []) c = some (.ins a.x_Choice dx [(("wood" : Str), .ref wd)]) := s4 _ _ hc3
 have nlc : l2 ≠ c := fun z => by rw [z, hc3] at hl2'; cases hl2'
 refine ⟨_, rfl, c, _, _, _, rfl, hc4, T.C_Choice, T.n_Choice_picks, (by show 1 < 1000; decide), ?_⟩
 refine q l2 _ (zax (zax (zax (Same.tup s12) t3) (Same.tup s4)) (ze6 hc4 (fun _ z => nomatch z))) (zfb (zfb (zfb (zmy s12) (zjp (o' := .ins a.x_Choice dx [(("wood" : Str), .ref wd)]) hc2 (fun _ z => nomatch z))) (zmy s4)) (zjp hc4 (fun _ z => nomatch z))) (ze8 (ze8 (ze8 (zkp s12) (zgg hc2)) (zkp s4)) (zgg hc4)) (s12.free (by rw [zak nlc] at hl2'; exact hl2')) zab ⟨⟨[], ?_, rfl⟩, by decide, (fun _ z => nomatch z)⟩
 rw [zak nlc]
 exact h4
end
section
variable {P : Program} {w : World} {K : PySem.W.Frag} {mg : Str → Option Value} {base : Heap} {a : Adr} {d : Fds}
theorem zj0 (T : Txt K mg a d) : FnOk P w K mg base CX0 19 a.f_Choice_ware d.f_Choice_ware ["self"] (zwh a.x_Choice) := by
 have G_first_ware_at := zdh (P := P) (w := w) (base := base) T
 refine T.K_Choice_ware.ok zkq (fun vs H Q E h => ?_) (fun cdv A outer s H vs Q E hr h => ?_)
 ·obtain ⟨c, dx, wd, pl, m, ts, ps, rfl, _⟩ := h
  rfl
 obtain ⟨c, dx, wd, pl, m, ts, ps, rfl, hc, PA, W, m9, m1, S, q⟩ := h
 refine ⟨_, (zah (zau (zag G_first_ware_at hr.lv rfl T.K_first_ware_at (zaa (zcr (pv 0) rfl) (zaa (zcr (pv 0) rfl) zac))))), ?_⟩
 refine ⟨_, rfl, c, _, _, _, _, rfl, hc, T.C_Choice, T.n_Choice_wood, rfl, _, rfl, c, _, _, _, _, rfl, hc, T.C_Choice, T.n_Choice_picks, rfl, ?_⟩
 exact ⟨wd, pl, m, ts, ps, rfl, W, m9, m1, PA, S, q⟩
end
section
variable {P : Program} {w : World} {K : PySem.W.Frag} {mg : Str → Option Value} {base : Heap} {a : Adr} {d : Fds}
theorem zxb (T : Txt K mg a d) (LB : zi4 mg base a.c_cases_of a.t_cases_of) : FnOk P w K mg base CX0 29 a.f_law d.f_law ["_law_script"] (spT a.t_cases_of (zqa K)) := by
 have G_law_wood := zoa (P := P) (w := w) (base := base) T
 have G_law_broken := zk9 (P := P) (w := w) (base := base) T
 have G_law_sets := zdl (P := P) (w := w) (base := base) T
 have G_law_played := zkw (P := P) (w := w) (base := base) T
 have G_law_all := zo2 (P := P) (w := w) (base := base) T LB
 have G_Choice___init__ := zg6 (P := P) (w := w) (base := base) T
 have G_Choice_ware := zj0 (P := P) (w := w) (base := base) T
 refine T.K_law.ok sc_law (fun vs H Q E h => ?_) (fun cdv A outer s H vs Q E hr h => ?_)
 ·obtain ⟨_, p, ns, rfl, _⟩ := h
  rfl
 obtain ⟨ta, sp, ns, rfl, hS, hl, q⟩ := h
 have p62 : (2 : Int) ^ 62 = 4611686018427387904 := by decide
 obtain ⟨ct3, ch3, cu3⟩ := zug (X := (zd0 CX0 P w K mg base ["_law_script", "_law_state", "_law_wood_here", "_law_broken_here", "_law_choice", "_law_chosen", "_law_turn"] "law" (zai zon) a.f_law cdv A outer s H E).nox) (st := (zba zon).drop 3) (zae (zan (i := 3) sc_law.nd rfl (Or.inl rfl) (zag G_law_broken hr.lv rfl T.K_law_broken (zaa (pv 2) zac)))
   (zae (zan (i := 4) sc_law.nd rfl (Or.inl rfl) (zux T.g_Choice___init__ G_Choice___init__ hr.lv rfl T.g_Choice T.K_Choice___init__.B .nil zhg (zaa (pv 2) zac)))
   (zae (zan (i := 5) sc_law.nd rfl (Or.inl rfl) (za7 zac))
   (zae (zbo PassesOwn.never rfl (zbi rfl T.m_range (zaa zaf zac)) (zao (i := 6) sc_law.nd rfl (Or.inl rfl)) (zae (zan (i := 5) sc_law.nd rfl (Or.inl rfl) (zag G_law_played hr.lv rfl T.K_law_played (zaa (pv 1) (zaa (pv 4) (zaa (pv 3) (zaa (zaw (ixT (K := K)) (pv 2) zaf (fun _ _ => rfl)) (zaa (pv 5) zac)))))))
   (zah (za8 (zf1 (zcf (zag G_law_all hr.lv rfl T.K_law_all (zaa (pv 1) (zaa (pv 4) (zaa (pv 3) (zaa (pv 2) (zaa (pv 5) zac)))))))) (zah (zau zjt)) zaz))))
   (zah (zau (zbw zbx (znh (pv 4) T.C_Choice T.g_Choice_ware G_Choice_ware hr.lv T.K_Choice_ware.B .nil zhg) (zaw (ixL (K := K)) (zag G_law_sets hr.lv rfl T.K_law_sets (zaa (pv 3) (zaa (zlv zh8 zaf) (zaa (pv 5) zac)))) zaf (fun _ _ => rfl)) (zat _))))))))
 refine ⟨_, (zae (zan (i := 1) sc_law.nd rfl (Or.inl rfl) (za7 (zaa (pv 0) (zaa zaf zac))))
   (zae (zan (i := 2) sc_law.nd rfl (Or.inl rfl) (zag G_law_wood hr.lv rfl T.K_law_wood (zaa (pv 1) (zaa zaf zac))))
   (zae (za8 (zar (zdb hr.units) (zag G_law_sets hr.lv rfl T.K_law_sets (zaa (zag G_law_broken hr.lv rfl T.K_law_broken (zaa (pv 2) zac)) (zaa (zlv zh8 zaf) (zaa (za7 zac) zac)))) (za7 zac) (zat _)) (zah (zan (i := 2) sc_law.nd rfl (Or.inl rfl) (za9 (zaa (zaw (ixT (K := K)) (pv 2) zaf (fun _ _ => rfl)) (zaa (zaw (ixT (K := K)) (pv 2) zaf (fun _ _ => rfl)) (zaa (za9 zac) zac)))))) zaz)
   ch3))), ?_⟩
 refine ⟨_, rfl, zam (by show 2 ≤ 1000; decide), fun pen hpen => ?_⟩
 have pn := zvp hS hl hpen
 have s1 := zad hpen (.lst [.ref sp, .int 0])
 generalize L2.upd H pen (.lst [.ref sp, .int 0]) = H1 at pn s1 ⊢
 have rest : ∀ (wd : Addr) (m : Nat) (ts : List Tie) (k : Int) (H2 : Hp), KeepA [] H H2 → H2 pen = some (.lst [.ref sp, .int k]) → 0 ≤ k → k ≤ 500 → 1 ≤ m → m ≤ 9 → (∃ s, s < 2 ^ m ∧ zbg ts s = true) → ts.length ≤ 17 → (∀ H', zc5 H2 H' → WoodT H' wd m ts) → ct3 { nx := fun _ H' => Q .non H', rt := Q } [some (.ref sp), some (.ref pen), some (.ref wd), none, none, none, none] H2 := by
  intro wd m ts k H2 KA2 hpen2 k0 k5 m1 m9 ware tsl WT'
  refine cu3 _ _ _ ?_
  have pw : 2 ^ m ≤ 512 := zh6 m9
  have W := WT' H2 (zgh H2)
  obtain ⟨wa0, wm0, wW0⟩ := ware
  refine ⟨_, rfl, wd, m, ts, rfl, W, m9, by omega, fun lb H5 s5 nlb hlb' => ?_⟩
  have hlb : H5 lb = some (.lst (zal (brN m ts))) := hlb'
  have KA5 := KA2.same s5
  have hpen5 := s5 _ _ hpen2
  have nlpn : lb ≠ pen := fun z => by rw [z, hpen2] at nlb; cases nlb
  refine ⟨_, rfl, fun x dx hx hdx nd => ?_⟩
  have t1 := zad hdx (.own x)
  have t2 := t1.trans (zad (show L2.upd H5 dx (.own x) x = none by rw [zak (Ne.symm nd)]; exact hx) (.ins a.x_Choice dx []))
  have t2x : L2.upd (L2.upd H5 dx (.own x)) x (.ins a.x_Choice dx []) x = some (.ins a.x_Choice dx []) := zab
  generalize L2.upd (L2.upd H5 dx (.own x)) x (.ins a.x_Choice dx []) = H3' at t2 t2x ⊢
  have s52 := s5.trans t2
  refine ⟨x, dx, wd, m, ts, rfl, t2x, W.same s52, m9, m1, ⟨wa0, wm0, wW0⟩, fun pl0 H4 t4 l4 c4 n4 hc4 PA4 => ⟨rfl, ?_⟩⟩
  have t24 : zc5 H2 H4 := zax (Same.tup s52) t4
  have xn : H x = none := KA5.dom _ hx
  have KA4 := (KA2.same s52).ch c4 (.inr xn)
  have hpen4 : H4 pen = some (.lst [.ref sp, .int k]) := l4 _ _ (t2 _ _ hpen5)
  have hlb4 : H4 lb = some (.lst (zal (brN m ts))) := l4 _ _ (t2 _ _ hlb)
  have pl0n : H pl0 = none := (KA2.same s52).dom _ n4
  have nbx : lb ≠ x := fun z => by rw [z, hc4] at hlb4; cases hlb4
  have nlp0 : lb ≠ pl0 := fun z => by
   have y : H3' lb = some (.lst (zal (brN m ts))) := t2 _ _ hlb
   rw [z, n4] at y
   cases y
  refine ⟨zam (by show 0 ≤ 1000; decide), fun lc0 hlc0 => ?_⟩
  have s6 := zad hlc0 (.lst [])
  have g6 : L2.upd H4 lc0 (.lst []) lc0 = some (.lst []) := zab
  generalize L2.upd H4 lc0 (.lst []) = H6 at s6 g6 ⊢
  refine ⟨_, rfl, by rw [p62]; decide, by rw [p62]; decide, ?_⟩
  refine zb5 (n := 2) (fun i σ H8 => ∃ (k8 : Int) (pl lc : Addr) (ps : List (Nat × Bool)) (v6 : Option V), σ = [some (.ref sp), some (.ref pen), some (.ref wd), some (.ref lb), some (.ref x), some (.ref lc), v6] ∧ KeepA [] H H8 ∧ zc5 H2 H8 ∧ H8 pen = some (.lst [.ref sp, .int k8]) ∧ 0 ≤ k8 ∧ k8 ≤ 500 + 62 * i ∧ H8 x = some (.ins a.x_Choice dx (chF wd pl)) ∧ PicksAt H8 pl ps ∧ PicksAt H8 lc ps ∧ H pl = none ∧ lb ≠ pl ∧ H8 lb = some (.lst (zal (brN m ts))) ∧ PickOk m ps ∧ (∃ s, s < 2 ^ m ∧ InS (zaj ps) (zaq ps) s ∧ zbg ts s = true)) ⟨k, pl0, lc0, [], none, rfl, KA4.same s6, zax t24 (Same.tup s6), s6 _ _ hpen4, k0, by omega, s6 _ _ hc4, PA4.same s6, ⟨⟨[], g6, rfl⟩, by decide, (fun _ z => nomatch z)⟩, pl0n, nlp0, s6 _ _ hlb4, PickOk.nil m, ⟨wa0, wm0, ztg wW0, wW0⟩⟩ ?_ ?_
  ·rintro i σ H8 hi ⟨k8, pl, lc, ps, v6, rfl, KA8, t28, hp8, k80, k81, hc8, PA8, PC8, pln, nlp, hlb8, ok, wr⟩
   obtain ⟨xs1, ys1, ⟨tb1, tc1, hw8, hb8, hcr8⟩, dn8⟩ := (WT' H8 t28).ex
   have ex3 := zy0 (P := fun c => c ∈ ([] : List Addr) ∨ H c = none) (.inr hpen) (.inr xn) (.inr pln)
   refine ⟨_, rfl, _, rfl, _, rfl, _, rfl, wd, _, _, _, rfl, rfl, sqT hw8, at0, _, rfl, pen, sp, ns, k8, x, dx, wd, pl, lb, lc, m, ts, ps, rfl, fun k' H' KA hp' => zor hS hl (KA8.comp KA ex3) hpen hp', hp8, k80, by omega, hc8, PA8, PC8, ok, nlp, fun H' t => WT' H' (zax t28 t), hlb8, nlpn, m1, m9, wr, fun lc' pl' ps' k9 H9 KB9 t9 hp9 k90 k91 hc9 PA9 PC9 nlp' plc nlc ok' wr' => ?_⟩
   have KA9 := KA8.comp KB9 ex3
   have t29 := zax t28 t9
   have hlb9 : H9 lb = some (.lst (zal (brN m ts))) := KB9.lst (zoy nlpn nbx nlp) hlb8
   have pln' : H pl' = none := by
    rcases plc with z | z
    ·rw [z]; exact pln
    ·exact KA8.dom _ z
   have nlbp' : lb ≠ pl' := fun z => by
    rcases plc with y | y
    ·exact nlp (z.trans y)
    ·rw [← z, hlb8] at y
     cases y
   refine ⟨_, rfl, _, rfl, _, rfl, _, rfl, _, rfl, pen, sp, ns, k9, x, dx, wd, pl', lb, lc', m, ts, ps', rfl, KA9.tab _ ta, zor hS hl KA9 hpen hp9, by omega, by omega, hc9, PA9, PC9, ok', fun H' t => WT' H' (zax t29 t), hlb9, nlpn, m1, m9, tsl, fun kA HA xA hpA kA0 kA1 => ?_⟩
   refine ⟨_, rfl, ?_⟩
   refine zek ?_
   have npx : x ≠ pen := fun z => by rw [z, hp9] at hc9; cases hc9
   exact ⟨kA, pl', lc', ps', _, rfl, KA9.pen xA (.inr hpen) hp9 hpA, zax t29 (SameX.tup hp9 xA), hpA, by omega, by omega, xA _ _ npx hc9, PA9.x hp9 (zbj PA9 hp9) xA, PC9.x hp9 (zbj PC9 hp9) xA, pln', nlbp', xA _ _ nlpn hlb9, ok', wr'⟩
  ·rintro σ H8 ⟨k8, pl, lc, ps, v6, rfl, KA8, t28, hp8, k80, k81, hc8, PA8, PC8, pln, nlp, hlb8, ok, wr⟩
   refine ⟨_, rfl, x, _, _, rfl, hc8, rfl, x, dx, wd, pl, m, ts, ps, rfl, hc8, PA8, WT' H8 t28, m9, m1, ok.stand m1, fun H9 o s9 ho => ?_⟩
   obtain ⟨s0, rfl⟩ := zg5 ho wr
   have hd := zpe ho
   refine ⟨_, rfl, 1, rfl, _, rfl, lb, lc, brN m ts, -1, ps, rfl, s9 _ _ hlb8, by rw [zb4]; exact pw, PC8.same s9, fun ls HA sA nls hls => ?_⟩
   obtain ⟨r, er⟩ : ∃ r, zbk (brN m ts) (-1) (zaj ps) (zaq ps) = s0 :: r := by
    cases e : zbk (brN m ts) (-1) (zaj ps) (zaq ps) with
    | nil => rw [e] at hd; cases hd
    | cons y r => rw [e] at hd; cases hd; exact ⟨r, rfl⟩
   rw [er] at hls
   refine ⟨ls, _, _, _, rfl, rfl, SqL.of hls, at0, rfl, ?_⟩
   rw [decide_eq_true (show zgn (some s0) = V.int (s0 : Int) from rfl)]
   exact q _
 refine ⟨_, rfl, pen, sp, ns, 6, 0, rfl, pn, by decide, by decide, by decide, by decide, fun wd m bs cs k2 H2 x2 hp2 k20 k21 m1 m9 W2 lc2 => ?_⟩
 have KA2 := ((KeepA.refl [] H).same s1).pen x2 (.inr hpen) pn.at_ hp2
 obtain ⟨ts, ets, okt, tsl, WT'⟩ := W2.ties
 have W := WT' H2 (zgh H2)
 have tsl : ts.length ≤ 17 := by
  have := W2.many W
  have := W2.b8
  omega
 obtain ⟨xs0, ys0, ⟨tb, tc, hw, hb, hc⟩, dn⟩ := W.ex
 refine ⟨_, rfl, wd, m, ts, rfl, W, m9, by omega, fun lb H3 s3 nlb hlb => ?_⟩
 refine ⟨1, rfl, zam (by show 0 ≤ 1000; decide), fun le hle => ?_⟩
 have s4 := s3.trans (zad hle (.lst []))
 have g4 : L2.upd H3 le (.lst []) le = some (.lst []) := zab
 have g4b := (zad hle (.lst [])) _ _ hlb
 generalize L2.upd H3 le (.lst []) = H4 at s4 g4 g4b ⊢
 have pw : 2 ^ m ≤ 512 := zh6 m9
 refine ⟨lb, le, brN m ts, -1, [], rfl, g4b, by rw [zb4]; exact pw, ⟨⟨[], g4, rfl⟩, by decide, (fun _ z => nomatch z)⟩, fun ls H5 s5 nls hls => ?_⟩
 rw [zr0] at hls
 refine ⟨zam (by show 0 ≤ 1000; decide), fun le2 hle2 => ?_⟩
 have s6 := (s4.trans s5).trans (zad hle2 (.lst []))
 have g6 : L2.upd H5 le2 (.lst []) le2 = some (.lst []) := zab
 have g6b := (zad hle2 (.lst [])) _ _ hls
 generalize L2.upd H5 le2 (.lst []) = H6 at s6 g6 g6b ⊢
 refine ⟨ls, le2, (zhe m ts).map (fun k : Nat => (k : Int)), [], rfl, rfl, SqL.of (by rw [zlu]; exact g6b), SqL.of g6, _, rfl, ?_⟩
 have KA6 := KA2.same s6
 by_cases e : zhe m ts = []
 ·refine zfa (by rw [e]; rfl) ?_
  refine ⟨_, rfl, wd, _, _, _, rfl, rfl, sqT (s6 _ _ hw), at0, _, rfl, wd, _, _, _, rfl, rfl, sqT (s6 _ _ hw), at1, ?_⟩
  refine ⟨zam (by show 0 ≤ 1000; decide), fun te hte => ?_⟩
  have s7 := s6.trans (zad hte (.tup []))
  have g7 : L2.upd H6 te (.tup []) te = some (.tup []) := zab
  generalize L2.upd H6 te (.tup []) = H7 at s7 g7 ⊢
  refine ⟨zam (by show 3 ≤ 1000; decide), fun wd' hwd' => ?_⟩
  have s8' := zad hwd' (.tup [.int (m : Int), .ref tb, .ref te])
  have s8 := s7.trans s8'
  have g8 : L2.upd H7 wd' (.tup [.int (m : Int), .ref tb, .ref te]) wd' = some (.tup [.int (m : Int), .ref tb, .ref te]) := zab
  have g8b := s8' _ _ g7
  generalize L2.upd H7 wd' (.tup [.int (m : Int), .ref tb, .ref te]) = H8 at s8 g8 g8b ⊢
  have WC := W2.cut hw (Same.tup s8) g8 g8b
  obtain ⟨ts', ware, _, _, WT''⟩ := WC.bare
  have tsl' : ts'.length ≤ 17 := by
   have := WC.many (WT'' _ (zgh _))
   have := WC.b8
   rw [List.length_nil] at *
   omega
  exact rest wd' m ts' k2 H8 (KA2.same s8) (s8 _ _ hp2) (by omega) (by omega) m1 m9 ware tsl' WT''
 ·refine zb1 (fun z => e (by simpa using z)) ?_
  obtain ⟨wa, hwa⟩ := List.exists_mem_of_ne_nil _ e
  exact rest wd m ts k2 H6 KA6 (s6 _ _ hp2) (by omega) (by omega) m1 m9 ⟨wa, mem_wareL.mp hwa⟩ tsl fun H' t => WT' H' (zax (Same.tup s6) t)
end
theorem all_mk {l : PySem.W.OpenLaw} {w : World} {K : PySem.W.Frag} {h : Heap} {mg : Str → Option Value} {fa f1 f2 f3 f4 f5 f6 f7 f8 f9 f10 f11 f12 f13 f14 f15 f16 f17 f18 f19 f20 f21 f22 f23 f24 f25 f26 f27 f28 f29 f30 f31 f32 f33 f34 f35 f36 f37 f38 f39 f40 f41 f42 f43 f44 f45 f46 f47 f48 cc12 tt12 y_Choice : Addr} (X : K.In h) (G : h.Ns mainGlobals mg) (hfa : mg "law" = some (.ref fa))
  {d1 d2 d3 d4 d5 d6 d7 d8 d9 d10 d11 d12 d13 d14 d15 d16 d17 d18 d19 d20 d21 d22 d23 d24 d25 d26 d27 d28 d29 d30 d31 d32 d33 d34 d35 d36 d37 d38 d39 d40 d41 d42 d43 d44 d45 d46 d47 d48 : FuncData}
  {coc12 : Value} {cod12 : Option Addr} {cvs12 : Array Value} {csl12 : Array (Option Value)}
  (a1 : Dk K "has" ztv f1 d1)
  (a2 : Dk K "with_option" zew f2 d2)
  (a3 : Dk K "open_options" zda f3 d3)
  (a4 : Dk K "many_ties" zf6 f4 d4)
  (a5 : Dk K "tie_at" zjr f5 d5)
  (a6 : Dk K "count_in" zfe f6 d6)
  (a7 : Dk K "every_tie" zf3 f7 d7)
  (a8 : Dk K "sure_broken" ze2 f8 d8)
  (a9 : Dk K "least_sum" zet f9 d9)
  (a10 : Dk K "sure_broken_bough" za4 f10 d10)
  (a11 : Dk K "first_sure_broken" zcs f11 d11)
  (a12 : Dk K "cases_of" zck f12 d12)
  (e12 : d12.code = .ref cc12) (m12 : K.lookup cc12 = some ⟨coc12, cod12, .fields cvs12, csl12⟩) (n12 : (cvs12[11]? : Option Value) = some (.ref tt12))
  (a13 : Dk K "ware_leaf" zf8 f13 d13)
  (a14 : Dk K "told_tree" zdm f14 d14)
  (a15 : Dk K "first_ware" zfi f15 d15)
  (a16 : Dk K "first_keeping" zb7 f16 d16)
  (a17 : Dk K "bars" zpf f17 d17)
  (a18 : Dk K "least_ties" zfl f18 d18)
  (a19 : Dk K "tie_others" zd9 f19 d19)
  (a20 : Dk K "left_without" zch f20 d20)
  (a21 : Dk K "stand_of" zgu f21 d21)
  (a22 : Dk K "open_at" zig f22 d22)
  (a23 : Dk K "first_ware_at" zdz f23 d23)
  (a24 : Dk K "leads_on" zg3 f24 d24)
  (a25 : Dk K "why_barred" zfj f25 d25)
  (a26 : Dk K "least_picks" zey f26 d26)
  (a27 : Dk K "pick_others" ze0 f27 d27)
  (a28 : Dk K "_law_take" zeg f28 d28)
  (a29 : Dk K "_law_boughs" zcm f29 d29)
  (a30 : Dk K "_law_cross" zbv f30 d30)
  (a31 : Dk K "_law_wood" zem f31 d31)
  (a32 : Dk K "_law_keeps" zdt f32 d32)
  (a33 : Dk K "_law_broken" zd6 f33 d33)
  (a34 : Dk K "_law_stand" zfx f34 d34)
  (a35 : Dk K "_law_sets" zgt f35 d35)
  (a36 : Dk K "_law_tree" zdg f36 d36)
  (a37 : Dk K "_law_played" zcp f37 d37)
  (a38 : Dk K "_law_left_ties" zd1 f38 d38)
  (a39 : Dk K "_law_due" zc3 f39 d39)
  (a40 : Dk K "_law_right" zdp f40 d40)
  (a41 : Dk K "_law_all" zdc f41 d41)
  (a42 : Dk K "law" zon f42 d42)
  (a43 : Dq K y_Choice "__init__" "Choice.__init__" zc9 f43 d43)
  (a44 : Dq K y_Choice "chosen" "Choice.chosen" zdy f44 d44)
  (a45 : Dq K y_Choice "choose" "Choice.choose" zd2 f45 d45)
  (a46 : Dq K y_Choice "take_back" "Choice.take_back" zbp f46 d46)
  (a47 : Dq K y_Choice "ware" "Choice.ware" zev f47 d47)
  (a48 : Dq K y_Choice "why" "Choice.why" zfd f48 d48)
  (z1 : PySem.W.nsIn K mainGlobals "range" = some none)
  (z2 : PySem.W.nsIn K mainGlobals "len" = some none)
  (z3 : PySem.W.nsIn K mainGlobals "isinstance" = some none)
  (z4 : PySem.W.nsIn K mainGlobals "max" = some none)
  (z5 : PySem.W.nsIn K mainGlobals "int" = some none)
  (z6 : PySem.W.nsIn K mainGlobals "list" = some none)
  (z7 : PySem.W.nsIn K mainGlobals "tuple" = some none)
  (z8 : PySem.W.nsIn K mainGlobals "sorted" = some none)
  (z9 : PySem.W.nsIn K mainGlobals "enumerate" = some none)
  (z10 : PySem.W.nsIn K mainGlobals "sum" = some none)
  (gm_Choice : PySem.W.nsIn K mainGlobals "Choice" = some (some (.ref y_Choice)))
  (p1_Choice : PySem.W.plainGet K y_Choice Str.empty = true) (p2_Choice : PySem.W.hasDictIn K y_Choice = true) (p3_Choice : PySem.W.plainOver K y_Choice = true) (p4_Choice : PySem.W.findIn K (.ref y_Choice) "__setattr__" = some (some (.builtin "object.__setattr__"))) (p5_Choice : PySem.W.makesIn K y_Choice = true) (p6_Choice : PySem.W.keepIn K (.ref y_Choice) = true)
  (q_Choice_picks : PySem.W.findIn K (.ref y_Choice) "picks" = some none)
  (q_Choice_wood : PySem.W.findIn K (.ref y_Choice) "wood" = some none)
  : (∃ fd : FuncData, (∀ (s : Shared) (v : Value), BindsTo s fd ⟨[v], []⟩ [("_law_script", v)]) ∧ ∀ base : Heap, K.In base → base.Ns mainGlobals mg → (∀ p ∈ ([(cc12, tt12)] : List (Addr × Addr)), zi4 mg base p.1 p.2) → FnOk l.prog w K mg base CX0 29 fa fd ["_law_script"] (spT tt12 (zqa K))) := by
 have e := hfa.symm.trans (PySem.W.mg_of X G a42.1)
 cases e
 have T : Txt K mg ⟨f1, f2, f3, f4, f5, f6, f7, f8, f9, f10, f11, f12, f13, f14, f15, f16, f17, f18, f19, f20, f21, f22, f23, f24, f25, f26, f27, f28, f29, f30, f31, f32, f33, f34, f35, f36, f37, f38, f39, f40, f41, fa, f43, f44, f45, f46, f47, f48, cc12, tt12, y_Choice⟩ ⟨d1, d2, d3, d4, d5, d6, d7, d8, d9, d10, d11, d12, d13, d14, d15, d16, d17, d18, d19, d20, d21, d22, d23, d24, d25, d26, d27, d28, d29, d30, d31, d32, d33, d34, d35, d36, d37, d38, d39, d40, d41, d42, d43, d44, d45, d46, d47, d48⟩ := ⟨PySem.W.mg_none_of X G z1, PySem.W.mg_none_of X G z2, PySem.W.mg_none_of X G z3, PySem.W.mg_none_of X G z4, PySem.W.mg_none_of X G z5, PySem.W.mg_none_of X G z6, PySem.W.mg_none_of X G z7, PySem.W.mg_none_of X G z8, PySem.W.mg_none_of X G z9, PySem.W.mg_none_of X G z10, a1.df X G (bd2 fun _ _ _ _ _ _ _ _ => rfl), a2.df X G (bd2 fun _ _ _ _ _ _ _ _ => rfl), a3.df X G (bd3 fun _ _ _ _ _ _ _ _ _ => rfl), a4.df X G (bd1 fun _ _ _ _ _ _ _ => rfl), a5.df X G (bd2 fun _ _ _ _ _ _ _ _ => rfl), a6.df X G (bd2 fun _ _ _ _ _ _ _ _ => rfl), a7.df X G (bd1 fun _ _ _ _ _ _ _ => rfl), a8.df X G (bd3 fun _ _ _ _ _ _ _ _ _ => rfl), a9.df X G (bd3 fun _ _ _ _ _ _ _ _ _ => rfl), a10.df X G (bd3 fun _ _ _ _ _ _ _ _ _ => rfl), a11.df X G (bd4 fun _ _ _ _ _ _ _ _ _ _ => rfl), a12.df X G (bd4 fun _ _ _ _ _ _ _ _ _ _ => rfl), a13.df X G (bd3 fun _ _ _ _ _ _ _ _ _ => rfl), a14.df X G (bd5 fun _ _ _ _ _ _ _ _ _ _ _ => rfl), a15.df X G (bd3 fun _ _ _ _ _ _ _ _ _ => rfl), a16.df X G (bd4 fun _ _ _ _ _ _ _ _ _ _ => rfl), a17.df X G (bd4 fun _ _ _ _ _ _ _ _ _ _ => rfl), a18.df X G (bd3 fun _ _ _ _ _ _ _ _ _ => rfl), a19.df X G (bd4 fun _ _ _ _ _ _ _ _ _ _ => rfl), a20.df X G (bd2 fun _ _ _ _ _ _ _ _ => rfl), a21.df X G (bd1 fun _ _ _ _ _ _ _ => rfl), a22.df X G (bd2 fun _ _ _ _ _ _ _ _ => rfl), a23.df X G (bd2 fun _ _ _ _ _ _ _ _ => rfl), a24.df X G (bd3 fun _ _ _ _ _ _ _ _ _ => rfl), a25.df X G (bd3 fun _ _ _ _ _ _ _ _ _ => rfl), a26.df X G (bd4 fun _ _ _ _ _ _ _ _ _ _ => rfl), a27.df X G (bd4 fun _ _ _ _ _ _ _ _ _ _ => rfl), a28.df X G (bd2 fun _ _ _ _ _ _ _ _ => rfl), a29.df X G (bd2 fun _ _ _ _ _ _ _ _ => rfl), a30.df X G (bd3 fun _ _ _ _ _ _ _ _ _ => rfl), a31.df X G (bd2 fun _ _ _ _ _ _ _ _ => rfl), a32.df X G (bd2 fun _ _ _ _ _ _ _ _ => rfl), a33.df X G (bd1 fun _ _ _ _ _ _ _ => rfl), a34.df X G (bd1 fun _ _ _ _ _ _ _ => rfl), a35.df X G (bd3 fun _ _ _ _ _ _ _ _ _ => rfl), a36.df X G (bd3 fun _ _ _ _ _ _ _ _ _ => rfl), a37.df X G (bd5 fun _ _ _ _ _ _ _ _ _ _ _ => rfl), a38.df X G (bd3 fun _ _ _ _ _ _ _ _ _ => rfl), a39.df X G (bd4 fun _ _ _ _ _ _ _ _ _ _ => rfl), a40.df X G (bd5 fun _ _ _ _ _ _ _ _ _ _ _ => rfl), a41.df X G (bd5 fun _ _ _ _ _ _ _ _ _ _ _ => rfl), a42.df X G (bd1 fun _ _ _ _ _ _ _ => rfl), ⟨p5_Choice, a43.1, a43.2.1, p6_Choice⟩, a43.dm (bd2 fun _ _ _ _ _ _ _ _ => rfl), ⟨a44.1, a44.2.1, a44.2.2.kp⟩, a44.dm (bd1 fun _ _ _ _ _ _ _ => rfl), ⟨a45.1, a45.2.1, a45.2.2.kp⟩, a45.dm (bd3 fun _ _ _ _ _ _ _ _ _ => rfl), ⟨a46.1, a46.2.1, a46.2.2.kp⟩, a46.dm (bd2 fun _ _ _ _ _ _ _ _ => rfl), ⟨a47.1, a47.2.1, a47.2.2.kp⟩, a47.dm (bd1 fun _ _ _ _ _ _ _ => rfl), ⟨a48.1, a48.2.1, a48.2.2.kp⟩, a48.dm (bd3 fun _ _ _ _ _ _ _ _ _ => rfl), e12, PySem.W.mg_of X G gm_Choice, ⟨p1_Choice, p2_Choice, p3_Choice, p4_Choice⟩, q_Choice_picks, q_Choice_wood⟩
 exact ⟨d42, zyi a42.2 fun _ _ _ _ _ _ _ => rfl, fun base _ _ LL => zxb T (LL _ List.mem_cons_self)⟩
theorem walk {l : PySem.W.OpenLaw} {q : Program} {loose : List Str} {XP : (Str → Option Value) → Heap → Prop} {YP : World → Heap → Prop} {d : DefRec} {K : Params → PySem.W.Frag} {c12 P12 : Addr} (hn : l.most = some 63) (hdf : d.params.defaults = [])
  (hY : ∀ (w : World) (h : Heap), YP w h → (K w.params).In h)
  (hK0 : ∀ w : World, PySem.W.noTabs (K w.params) = true) (hT : ∀ (w : World) (h : Heap), YP w h → PySem.W.TabsAt [(c12, P12)] h)
(F : ∀ (w : World) (mg : Str → Option Value) (fa : Addr) (h : Heap), (K w.params).In h → h.Ns mainGlobals mg → mg d.name = some (.ref fa) →
   ∃ fd : FuncData, (∀ (s : Shared) (u : Value), BindsTo s fd ⟨[u], []⟩ [("_law_script", u)]) ∧ ∀ base : Heap, (K w.params).In base → base.Ns mainGlobals mg → (∀ p ∈ ([(c12, P12)] : List (Addr × Addr)), zi4 mg base p.1 p.2) → FnOk l.prog w (K w.params) mg base CX0 29 fa fd ["_law_script"] (spT P12 (zqa (K w.params)))) :
  PySem.W.WalkO q loose XP YP l.row.toRowW d [] (fun f vs => PySem.call f vs) :=
 L2.walk_ofT (n := 63) (k := 29) (x := "_law_script") (tabs := fun _ => [(c12, P12)]) (sp := fun w => (spT P12 (zqa (K w.params)))) hn (by decide) hdf ⟨rfl, by decide, by decide⟩ hY hK0 hT F (fun _ _ a ns hl hT hS => ⟨hT _ List.mem_cons_self, a, ns, rfl, hS, hl, fun _ => rfl⟩)
end Ow
structure PySem.W.Fast : Prop where
 (tw13379965608600908519 tw15546275264028233961 tw6058916305538895913 tw14678863390118397665 tw3020357193569691014 tw11485361572821514873 tw5233666078778647846 tw9712997347013734832 tw4871290733740499513 tw5005560916012168546 tw17927645519168239235 tw7811657310425356189 tw4063778073621085904 tw4529899700700627077 tw4706032829097208774 tw15171928652170429001 tw15030816901821429110 tw3719815720282246437 tw17013825093337964681 tw15207382006056320524 tw1254090969113328394 tw10603412473043084775 tw10503435459959129828 tw371447606415589419 tw2990713324647139906 tw7228440276909733425 tw2247053734500498404 tw8666805030844982512 tw11015572105963792291 tw13532717221106751879 tw1262843807710142592 tw7485262519072344933 tw14319632385391225207 tw12426958195241835037 tw11020115182694271609 tw3005791482803590801 tw1134352979942691667 tw7263512896924382514 tw9324830610251127154 tw9108894303310334853 tw15201667326829293091 tw11152937536024246921 tw7312222863650109050 tw6106042334476336277 tw11866470516935834903 tw13931351410417405683 tw6029797900536110096 tw8294025275771244354 tw16990899724165298275 tw3274847746550114215 tw1950843070355704303 tw5048151042957736245 tw2821025653666945586 tw5128443977118268333 tw16154014690704433168 tw8298768857174704749 tw1115284844823549100 tw11698175404744702377 tw13044250972477683564 tw8518310669847446091 tw10543130473451165112 tw10981388869655672281 tw5773652207251349022 tw3359824759263930223 tw5960087592954243184 tw17226218289135214621 tw3108518352149541776 tw8169169628249056496 tw8724566790043973918 tw8233838168162241925 tw16150353302335483451 tw15989698579628030899 tw17984829466458121588 tw5399267728164036644 tw10689696487042361333 tw16791142488132978288 tw10903629174412437243 tw5217011754547569502 tw9420391475304630313 tw16187763230087157406 tw5953929027329968639 tw17123802368748734534 tw9395927612200198632 tw4033205628802640566 tw17854765564950506237 tw5427781801839400260 tw10404338234983971059 tw2518335356989154456 tw11639640913515967856 tw9408563800273059234 tw7667852429505168614 tw7681265735911584330 tw14311966635238049421 tw13653057143915916065 tw4357934383087812451 tw4795634229398751213 tw6647668547501641968 tw4961025713932275395 tw11091310365138502022 tw12336758861112682575 tw17121901081036400109 tw6755312076890237156 tw275765499773360507 tw5577688800291234586 tw6527445520248143175 tw1897739250101734173 tw15592316998907222656 tw746495702128949646 tw4389027813150843281 tw10595703669969656430 tw1635343063669911262 tw14738861140670798139 tw15990409650840288832 tw10496665079383632479 tw10778012443811051904 tw5569933992471128908 tw7812888708596233049 tw18308787982278798329 tw15641513369934129520 tw1108151564579188100 tw4864913973460642354 tw10354510380677797656 tw17419410428633993442 tw4536500878494755521 tw13955832138619987926 tw16580823280548597880 tw12382011587543210250 tw7053886727021891263 tw13138090535228939306 tw1119328244009698420 tw2585824095164161081 tw6356900177162501744 tw5995571571919332895 tw13106988498341937553 tw14724299553749011429 tw2669091164580925291 tw11086664604445909879 tw5474858591086744567 tw16443109786058101170 tw6133030068610855025 tw14267261936888121275 tw12226818668493318717 tw3439446584362509024 tw9102245395792936554 tw2614977046852137170 tw5453229673509412753 tw10333302838320314328 tw4151912473213661869 tw16801890917652322018 tw13018504181901919268 tw16488481942749612412 tw8011812200729125742 tw15195622417140935439 tw5891494032483534002 tw15294694369978638759 tw1652756343309390047 tw14569900281357067806 tw9180486640861994873 tw4480157783423315821 tw4157392422257574250 tw13254774354622042625 tw15789118741963363980 tw12510760669582193841 tw3901768757198050965 tw4394034002642451656 tw2943248538143900415 tw16666516440808906923 tw5022557912335623723 tw14048608414389483793 tw16744760364202173253 tw6245605223254829583 tw6818504109744895056 tw17620598338472378569 tw1891823731513576964 tw3615464568540986564 tw18018955824795032485 tw8172286443851353411 tw7640500388273697341 tw3629855800807313165 tw1920103354972079829 tw247352439253638244 tw2649961404934131459 tw2077775027494132325 tw10220108263670939184 tw17078846813145890273 tw3751755883867176039 tw17161465092773056468 tw17367470691960578883 tw9945602288948979792 tw11339514258796486078 tw4546882899324963120 tw5902480490911197179 tw15228958618101184740 tw12162301601859955403 tw14025837759734022805 tw12089913184285487068 tw8308951877529197216 tw15725604298355146974 tw13606377909372759752 tw10676743588100263070 tw1706014634257408487 tw7260532228943540995 tw3703586698220076143 tw838316155912810282 tw14490231747372577080 tw5038926467996379914 tw14327434491880287762 tw12788899356488546859 tw1423261553558546100 tw8315632203100839712 tw16086196822744671171 tw4103479445168234232 tw10447127411955764168 tw13730979407672035344 tw9706034900871799811 tw7369205193940529256 tw7222766226067724190 tw3308119670131095527 tw16649288712247140816 tw14984252145139409524 tw1114039729547065402 tw4434583249899708537 tw17167448790054780427 tw5088455574196577625 tw5527025808501485441 tw6743696983556083474 tw4563021440282252036 tw4452320287506165713 tw591863351748705703 tw4009580600803204831 tw13772374597763538783 tw11861460688652544965 tw13345469175230728862 tw17175871000514483421 tw12532791921990681802 tw5265891224136526659 tw13040561542759073819 tw4792431112602726140 tw5555215149767358059 tw15144518090200405411 tw13965763232055825986 tw2224266149350388281 tw8807714012298582565 tw8531597696547286866 tw1199779688168378098 tw6867897690446920199 tw3999623363920658504 tw6745236491124435972 tw1979816105602077419 tw6314325437746095373 tw6538238584925052296 tw1251937164472620485 tw14599934528379559216 tw5664362939716726124 tw3119396398670995460 tw2696434451083619602 tw9949785070035454879 tw13732232150813359246 tw511213636002964048 tw6860952778118159587 tw16523280873597421358 tw13699418164143237865 tw11121230493746412188 tw5881342832933428876 tw4986664262560026152 tw2258521611576124994 tw12289131748641307252 tw17608027094463486777 tw12064832862158350153 tw13787310460804301606 tw15316349872545452958 tw7891292181647705057 tw8800961464013965671 tw3273112938216863505 tw2346980853366632030 tw935224133373143720 tw7153102193414829927 tw8313733779619496324 tw11514085663334481599 tw11718667570921671502 tw9138308320144617992 tw9426413832821841134 tw10176372209988099937 tw7244933304634582640 tw8859386053167898373 tw8204525400332423877 tw3592052271404265354 tw981703279400802374 tw14027678808055071688 tw15876731810773885478 tw2792574051460714054 tw583220902880082359 tw7495730857085343504 tw6486965129625516120 tw6277688240538645854 tw15831973076210916852 tw7948968343301177490 tw9449495667821422481 tw8857695413553720113 tw546462469143156032 tw6528521185293057412 tw16546023758182106116 tw18066812684892051985 tw3237747550843556830 tw4816711648505347200 tw2070587056497994267 tw15097269709235211657 tw194198738711943132 tw18349929764729955630 tw16304321843427342593 tw11781857435179937007 tw3998807020101820944 tw7361995904009729234 tw11791950015944935638 tw17140713128468636535 tw10262138229387134914 tw12846007155540516887 tw8273703268582414430 tw7485239335037340099 tw8819678336279816466 tw10772889965274417095 tw14248011262760694418 tw16742595537037788429 tw15799378962024281269 tw17025334288733079885 tw4686282462142502264 tw6013586589010439920 tw5635378730952442097 tw1679483509005267846 tw4403621209679018532 tw13706350794805120166 tw5892364936339328400 tw18025686806149387839 tw12075387672103848188 tw11313269179526055758 tw4628632933734378771 tw17223752027322233477 tw7795769226533546507 tw17738079010262761497 tw9824292875290769386 tw5960174660371336533 tw9487613795839234878 tw11150111833216654189 tw14049019819949962220 tw3446638753557889690 tw9145478622291657516 tw7575199731675107589 tw7665011372959221534 tw9317466528945871000 tw1372745250994122505 tw4276503315411458445 tw12816569822979489072 tw1492700794720659817 tw9278254957236911699 tw4882321730961891816 tw110132912590025665 tw4442917285392663748 tw4179910396260915595 tw13748992406102889689 tw11471541393194059413 tw4854586757362039545 tw15599650775383158582 : True)
namespace Ow
end Ow
open PySem PySem.W PyProof.Rows
set_option maxRecDepth 100000 in
set_option maxHeartbeats 0 in
theorem PySem.Challenge.cw_optionwood_k42_why_told_holds : PySem.Challenge.rw_optionwood_k42_why_told.Holds := by
 w_on; o_law; k_head; (case hw => w_witness2)
 k_fill
 refine' Ow.walk (l := PySem.Challenge.rw_optionwood_k42_why_told) (c12 := _) (P12 := _) rfl rfl (fun w h Y => PySem.W.km_in_of Y) ?K0 ?hT ?F
 case F =>
  intro w mg fa h KX G hmg
  refine' Ow.all_mk KX G hmg ?a1 ?a2 ?a3 ?a4 ?a5 ?a6 ?a7 ?a8 ?a9 ?a10 ?a11 ?a12 ?e12 ?m12 ?n12 ?a13 ?a14 ?a15 ?a16 ?a17 ?a18 ?a19 ?a20 ?a21 ?a22 ?a23 ?a24 ?a25 ?a26 ?a27 ?a28 ?a29 ?a30 ?a31 ?a32 ?a33 ?a34 ?a35 ?a36 ?a37 ?a38 ?a39 ?a40 ?a41 ?a42 ?a43 ?a44 ?a45 ?a46 ?a47 ?a48 ?z1 ?z2 ?z3 ?z4 ?z5 ?z6 ?z7 ?z8 ?z9 ?z10 ?gm_Choice ?p1_Choice ?p2_Choice ?p3_Choice ?p4_Choice ?p5_Choice ?p6_Choice ?q_Choice_picks ?q_Choice_wood
  (case gm_Choice => k_is)
  all_goals try (refine' L2.dk ?a ?l ?c ?k; (case a => k_is); (case l => k_is); (case c => k_is); (case k => k_is))
  all_goals try (refine' L2.dq ?a ?l ?c ?k ?i; (case a => k_is); (case l => k_is); (case c => k_is); (case k => k_is); (case i => k_is))
  (case e12 => exact rfl)
  (case m12 => k_is)
  (case n12 => exact rfl)
  (case z1 => k_is)
  (case z2 => k_is)
  (case z3 => k_is)
  (case z4 => k_is)
  (case z5 => k_is)
  (case z6 => k_is)
  (case z7 => k_is)
  (case z8 => k_is)
  (case z9 => k_is)
  (case z10 => k_is)
  (case p1_Choice => first | k_is | kernel_rfl)
  (case p2_Choice => first | k_is | kernel_rfl)
  (case p3_Choice => first | k_is | kernel_rfl)
  (case p4_Choice => first | k_is | kernel_rfl)
  (case p5_Choice => first | k_is | kernel_rfl)
  (case p6_Choice => first | k_is | kernel_rfl)
  (case q_Choice_picks => first | k_is | kernel_rfl)
  (case q_Choice_wood => first | k_is | kernel_rfl)
 case K0 => intro w; kernel_rfl
 case hT =>
  intro w h Y q hq
  simp only [List.mem_cons, List.not_mem_nil, or_false] at hq
  subst hq
  exact ⟨PySem.W.codeHd_of_K (PySem.W.km_in_of Y) (by kernel_rfl), PySem.W.km_tabs_of Y _ (by decide)⟩
#print axioms PySem.Challenge.cw_optionwood_k42_why_told_holds
