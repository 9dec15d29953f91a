import PyProof.Rows.All
import Wide.All
import OpenK.AllK
import Wide.FinOn
import Lean
import PyProof.EqAt
import PyProof.EqKinds
import PyProof.TupleCall
import PySem.Challenge.RW_optionwood_k55_whole_three_woods
set_option Elab.async false
set_option linter.all false
set_option maxRecDepth 100000
namespace L2
open PySem PySem.Spec PyProof.Rows
abbrev Key := Sum Int Str
def ztl : Key → Value → Bool
 | .inl k, v => Value.isInt k v
 | .inr x, v => Value.isStrOf x v
def zv5 (w : World) : Key → Int
 | .inl k => hashInt k
 | .inr x => hashStr w x
theorem zch : ∀ {k : Key} {v : Value}, ztl k v = true → (∃ i t, k = Sum.inl i ∧ v = Value.int i t) ∨ (∃ x t, k = Sum.inr x ∧ v = Value.str x t)
 | .inl i, v, h => by
  obtain ⟨t, e⟩ := Value.isInt_shape (k := i) (v := v) h
  exact .inl ⟨i, t, rfl, e⟩
 | .inr x, v, h => by
  obtain ⟨t, e⟩ := Value.isStrOf_shape (x := x) (v := v) h
  exact .inr ⟨x, t, rfl, e⟩
theorem zuc (a b : Int) : decide ((Sum.inl a : Key) = Sum.inl b) = (a == b) := by
 by_cases e : a = b
 ·subst e; simp
 ·have h : ¬ (Sum.inl a : Key) = Sum.inl b := fun q => e (Sum.inl.inj q)
  rw [decide_eq_false h]
  exact (beq_eq_false_iff_ne.mpr e).symm
theorem ztv (a b : Str) : decide ((Sum.inr a : Key) = Sum.inr b) = decide (a = b) := by
 by_cases e : a = b
 ·subst e; simp
 ·have h : ¬ (Sum.inr a : Key) = Sum.inr b := fun q => e (Sum.inr.inj q)
  rw [decide_eq_false h, decide_eq_false e]
theorem zum (a : Int) (b : Str) : decide ((Sum.inl a : Key) = Sum.inr b) = false := decide_eq_false (fun q => nomatch q)
theorem ztu (a : Str) (b : Int) : decide ((Sum.inr a : Key) = Sum.inl b) = false := decide_eq_false (fun q => nomatch q)
def zov (prog : Program) (w : World) : PySem.KeyKind prog w Key where
 is := ztl
 hash := zv5 w
 inj := fun v a b ha hb => by
  rcases zch ha with ⟨i, t, rfl, rfl⟩ | ⟨x, t, rfl, rfl⟩
  ·rcases zch hb with ⟨j, u, rfl, e⟩ | ⟨y, u, rfl, e⟩
   ·injection e with e1 _; rw [e1]
   ·exact nomatch e
  ·rcases zch hb with ⟨j, u, rfl, e⟩ | ⟨y, u, rfl, e⟩
   ·exact nomatch e
   ·injection e with e1 _; rw [e1]
 byValue := fun k v h => by
  rcases zch h with ⟨i, t, rfl, rfl⟩ | ⟨x, t, rfl, rfl⟩ <;> rfl
 pyHash := fun hv h => by
  rcases zch hv with ⟨i, t, rfl, rfl⟩ | ⟨x, t, rfl, rfl⟩
  ·exact wpAny_pyHash_int h
  ·exact wpAny_pyHash_str h
 eqBool := fun hu hv h => by
  rcases zch hu with ⟨i, t, rfl, rfl⟩ | ⟨x, t, rfl, rfl⟩
  ·rcases zch hv with ⟨j, u, rfl, rfl⟩ | ⟨y, u, rfl, rfl⟩
   ·rw [zuc] at h; exact wpAny_eqBool_int h
   ·rw [zum] at h; exact SeqAt.EqAt.int_str i t y u _ _ _ _ h
  ·rcases zch hv with ⟨j, u, rfl, rfl⟩ | ⟨y, u, rfl, rfl⟩
   ·rw [ztu] at h; exact SeqAt.EqAt.str_int x t j u _ _ _ _ h
   ·rw [ztv] at h; exact wpAny_eqBool_str h
 «strs» := fun k x t v h => by
  rcases zch h with ⟨i, u, rfl, e⟩ | ⟨y, u, rfl, e⟩
  ·exact nomatch e
  ·injection e with e1 _
   subst e1
   cases v <;> rfl
end L2
namespace L2
open PySem PySem.Spec PyProof.Rows
inductive V where
 | non | bl (b : Bool) | int (i : Int) | str (x : Str) | byt (b : Array UInt8) | flt (b : UInt64) | ref (a : Addr) | ty (n : String)
 deriving DecidableEq
def RelV : V → Value → Prop
 | .non, u => u = Value.none
 | .bl b, u => u = Value.bool b
 | .int i, u => ∃ t, u = Value.int i t
 | .str x, u => ∃ t, u = Value.str x t
 | .byt b, u => ∃ t, u = Value.bytes b t
 | .flt b, u => ∃ t, u = Value.float b t
 | .ref a, u => u = Value.ref a
 | .ty n, u => u = Value.type n
abbrev Vals : List V → List Value → Prop := Paired RelV
theorem Vals.length {xs : List V} {us : List Value} (r : Vals xs us) : xs.length = us.length := Paired.length r
theorem Vals.get : ∀ {xs : List V} {us : List Value} {i : Nat} {x : V}, Vals xs us → xs[i]? = some x → ∃ u, us[i]? = some u ∧ RelV x u
 | _, _, _, _, .nil, e => by simp at e
 | _, _, 0, _, .cons r _, e => by simp at e; subst e; exact ⟨_, rfl, r⟩
 | _, _, i + 1, x, .cons _ t, e => by
  obtain ⟨u, h1, h2⟩ := Vals.get (i := i) (x := x) t (by simpa using e)
  exact ⟨u, by simpa using h1, h2⟩
theorem Vals.set {x : V} {u : Value} (r : RelV x u) : ∀ {xs : List V} {us : List Value} (i : Nat), Vals xs us → Vals (xs.set i x) (us.set i u)
 | _, _, _, .nil => .nil
 | _, _, 0, .cons _ t => .cons r t
 | _, _, i + 1, .cons q t => .cons q (Vals.set r i t)
theorem Vals.append : ∀ {xs ys : List V} {us ws : List Value}, Vals xs us → Vals ys ws → Vals (xs ++ ys) (us ++ ws)
 | _, _, _, _, .nil, s => s
 | _, _, _, _, .cons r t, s => .cons r (Vals.append t s)
theorem Vals.take : ∀ {xs : List V} {us : List Value} (n : Nat), Vals xs us → Vals (xs.take n) (us.take n)
 | _, _, 0, _ => .nil
 | _, _, _ + 1, .nil => .nil
 | _, _, n + 1, .cons r t => .cons r (Vals.take n t)
theorem Vals.drop : ∀ {xs : List V} {us : List Value} (n : Nat), Vals xs us → Vals (xs.drop n) (us.drop n)
 | _, _, 0, r => r
 | _, _, _ + 1, .nil => .nil
 | _, _, n + 1, .cons _ t => Vals.drop n t
def RelO : Option V → Option Value → Prop
 | some v, some u => RelV v u
 | none, none => True
 | _, _ => False
def KV {κ : Type} : List (κ × V) → List (κ × Value) → Prop := Paired fun (p : κ × V) (q : κ × Value) => p.1 = q.1 ∧ RelV p.2 q.2
def kV : Key → V
 | .inl i => .int i
 | .inr x => .str x
inductive HO where
 | lst (xs : List V)
 | tup (xs : List V)
 | dK (kvs : List (Key × V)) | dT (kvs : List (List Key × V))
 | set (S : Int → Bool) (n : Nat)
 | ins (C dx : Addr) (fs : List (Str × V))
 | own (x : Addr)
 | xd (fs : List (Str × V))
 | met (f x : Addr)
 | rng (lo hi : Int)
 | frz (o : Obj) (u : HO)
 | tbl (ps : Array Value)
 | ext (φ : Heap → Prop)
abbrev Hp := Addr → Option HO
def upd (H : Hp) (a : Addr) (o : HO) : Hp := fun b => if b = a then some o else H b
theorem zae {H : Hp} {a : Addr} {o : HO} : upd H a o a = some o := by unfold upd; rw [if_pos rfl]
theorem zao {H : Hp} {a b : Addr} {o : HO} (h : b ≠ a) : upd H a o b = H b := by unfold upd; rw [if_neg h]
theorem zmn {H : Hp} {a b : Addr} {o u : HO} (h : H a = some o) (h' : H b = some u) (d : o ≠ u) : a ≠ b := by
 intro e; subst e; rw [h] at h'; exact d (Option.some.inj h')
theorem zav {H : Hp} {a b : Addr} {o : HO} (h : H a = some o) (h' : H b = none) : a ≠ b := by
 intro e; subst e; rw [h] at h'; cases h'
section
variable (P : Program) (w : World)
def ObjOk (H : Hp) (h : Heap) (a : Addr) : HO → Prop
 | .lst xs => xs.length ≤ sizeLine ∧ ∃ (its : List Value) (n : Nat), Vals xs its ∧ h.get? a = some { cls := .type "list", data := .seq its.toArray n }
 | .tup xs => xs.length ≤ sizeLine ∧ ∃ its : List Value, Vals xs its ∧ IsTup h a its.toArray
 | .dK kvs => kvs.length ≤ sizeLine ∧ (a == sysModules) = false ∧ ∃ vs, KV kvs vs ∧ h.DictOf (zov P w) a vs
 | .dT kvs => kvs.length ≤ sizeLine ∧ (a == sysModules) = false ∧ ∃ xs : List (List Key × Addr × Value),
   Paired (fun (p : List Key × V) (q : List Key × Addr × Value) => p.1 = q.1 ∧ H q.2.1 = some (.tup (p.1.map kV)) ∧ RelV p.2 q.2.2) kvs xs ∧
   ∃ o es ep, h.get? a = some o ∧ o.ExactDict ∧ o.data = .dict es ep ∧ es.toList = xs.map (entryOfKey (tupleKind (zov P w))) ∧ (xs.map (·.1)).Nodup
 | .set S n => h.SetOf (intKind P w) a S n
 | .ins C dx fs => H dx = some (.own a) ∧ fs.length ≤ 1000 ∧ dx ≠ a ∧ h.get? a = some (PySem.W.instObj C dx) ∧
   ∃ mA, h.Ns1 dx mA ∧ (∀ f, RelO (fs.lookup f) (mA f)) ∧ PySem.Within mA (fs.map (·.1))
 | .own _ => ∃ o, h.get? a = some o
 | .xd fs => ∃ mA, h.Ns1 a mA ∧ ∀ f, RelO (fs.lookup f) (mA f)
 | .rng lo hi => ∃ t u v, h.get? a = some { cls := .type "range", data := .fields #[.int lo t, .int hi u, .int 1 v] }
 | .frz o u => h.get? a = some o ∧ ObjOk H h a u
 | .tbl ps => h.get? a = some { cls := .none, data := .fields ps }
 | .met f x => h.get? a = some (PySem.W.methodObj (.ref f) (.ref x))
 | .ext φ => φ h ∧ (∃ o, h.get? a = some o) ∧ ∀ h1 h2 : Heap, φ h1 → (∀ o, h1.get? a = some o → h2.get? a = some o) → φ h2
def HOk (H : Hp) (h : Heap) : Prop := ∀ a o, H a = some o → ObjOk P w H h a o
end
section
variable {P : Program} {w : World} {H H' : Hp} {h h' : Heap} {a : Addr} {o : HO}
theorem ObjOk.lt (x : ObjOk P w H h a o) : a < h.objs.size := by
 cases o with
 | lst xs => obtain ⟨_, _, _, _, e⟩ := x; exact Heap.lt_size e
 | tup xs => obtain ⟨_, _, _, p⟩ := x; exact p.lt
 | dK kvs => obtain ⟨_, _, _, _, o, _, _, e, _⟩ := x; exact Heap.lt_size e
 | dT kvs => obtain ⟨_, _, _, _, o, _, _, e, _⟩ := x; exact Heap.lt_size e
 | set S n => obtain ⟨o, _, _, _, e, _⟩ := x; exact Heap.lt_size e
 | ins C dx fs => obtain ⟨_, _, _, e, _⟩ := x; exact Heap.lt_size e
 | own y => obtain ⟨_, e⟩ := x; exact Heap.lt_size e
 | xd fs => obtain ⟨_, ⟨_, _, _, e, _⟩, _⟩ := x; exact Heap.lt_size e
 | rng lo hi => obtain ⟨_, _, _, e⟩ := x; exact Heap.lt_size e
 | frz ob u => obtain ⟨e, _⟩ := x; exact Heap.lt_size e
 | tbl ps => exact Heap.lt_size (show h.get? a = some _ from x)
 | met f y => exact Heap.lt_size (show h.get? a = some _ from x)
 | ext φ => obtain ⟨_, ⟨_, e⟩, _⟩ := x; exact Heap.lt_size e
theorem Paired.mapP {α β : Type} {F G : α → β → Prop} : ∀ {l₁ : List α} {l₂ : List β}, Paired F l₁ l₂ → (∀ a b, F a b → G a b) → Paired G l₁ l₂
 | _, _, .nil, _ => .nil
 | _, _, .cons r t, f => .cons (f _ _ r) (Paired.mapP t f)
theorem ObjOk.stay (x : ObjOk P w H h a o) (k : ∀ b u, (b = a ∨ H b = some (.own a)) → h.get? b = some u → h'.get? b = some u)
  (ho : ∀ b, H b = some (.own a) → H' b = some (.own a)) (ht : ∀ b xs, H b = some (.tup xs) → H' b = some (.tup xs)) : ObjOk P w H' h' a o := by
 induction o with
 | lst xs => obtain ⟨z, its, n, r, e⟩ := x; exact ⟨z, its, n, r, k _ _ (.inl rfl) e⟩
 | tup xs => obtain ⟨z, its, r, ob, e, c⟩ := x; exact ⟨z, its, r, ob, k _ _ (.inl rfl) e, c⟩
 | dK kvs => obtain ⟨z, y, vs, r, ob, es, ep, e, c⟩ := x; exact ⟨z, y, vs, r, ob, es, ep, k _ _ (.inl rfl) e, c⟩
 | dT kvs =>
  obtain ⟨z, y, xs, r, ob, es, ep, e, c⟩ := x
  exact ⟨z, y, xs, Paired.mapP r fun p q z => ⟨z.1, ht _ _ z.2.1, z.2.2⟩, ob, es, ep, k _ _ (.inl rfl) e, c⟩
 | set S n => obtain ⟨ob, es, ep, t, e, c⟩ := x; exact ⟨ob, es, ep, t, k _ _ (.inl rfl) e, c⟩
 | ins C dx fs =>
  obtain ⟨d, z, ne, e, mA, ⟨od, es, ep, e2, c⟩, r⟩ := x
  exact ⟨ho _ d, z, ne, k _ _ (.inl rfl) e, mA, ⟨od, es, ep, k _ _ (.inr d) e2, c⟩, r⟩
 | own y => obtain ⟨ob, e⟩ := x; exact ⟨ob, k _ _ (.inl rfl) e⟩
 | xd fs => obtain ⟨mA, ⟨od, es, ep, e, c⟩, r⟩ := x; exact ⟨mA, ⟨od, es, ep, k _ _ (.inl rfl) e, c⟩, r⟩
 | rng lo hi => obtain ⟨t, u, v, e⟩ := x; exact ⟨t, u, v, k _ _ (.inl rfl) e⟩
 | frz ob u ih => obtain ⟨e, q⟩ := x; exact ⟨k _ _ (.inl rfl) e, ih q⟩
 | tbl ps =>
  have e : h.get? a = some { cls := .none, data := .fields ps } := x
  show h'.get? a = some { cls := .none, data := .fields ps }
  exact k a _ (.inl rfl) e
 | met f y =>
  have e : h.get? a = some (PySem.W.methodObj (.ref f) (.ref y)) := x
  show h'.get? a = some (PySem.W.methodObj (.ref f) (.ref y))
  exact k a _ (.inl rfl) e
 | ext φ => obtain ⟨p, ⟨o, e⟩, st⟩ := x; exact ⟨st _ _ p fun o q => k _ _ (.inl rfl) q, ⟨o, k _ _ (.inl rfl) e⟩, st⟩
theorem HOk.lt (x : HOk P w H h) (e : H a = some o) : a < h.objs.size := (x a o e).lt
theorem HOk.fresh (x : HOk P w H h) (e : h.objs.size ≤ a) : H a = none := by
 cases q : H a with
 | none => rfl
 | some u => exact absurd (Nat.lt_of_lt_of_le (x.lt q) e) (Nat.lt_irrefl _)
theorem HOk.kept (x : HOk P w H h) (k : ∀ b u, h.get? b = some u → h'.get? b = some u) : HOk P w H h' := fun a o e =>
 (x a o e).stay (fun b u _ q => k b u q) (fun _ q => q) fun _ _ q => q
theorem HOk.laid (x : HOk P w H h) (k : ∀ b u, h.get? b = some u → h'.get? b = some u) (hp : h.objs.size ≤ a) (new : ObjOk P w (upd H a o) h' a o) : HOk P w (upd H a o) h' := fun b u e => by
 have hn := x.fresh hp
 by_cases hb : b = a
 ·subst hb; rw [zae] at e; cases e; exact new
 ·rw [zao hb] at e
  exact (x b u e).stay (fun c v _ q => k c v q) (fun c q => by rw [zao (zav q hn)]; exact q) fun c xs q => by rw [zao (zav q hn)]; exact q
end
def Rd (H : Hp) (a : Addr) (u : HO) : Prop := H a = some u ∨ ∃ o, H a = some (.frz o u)
theorem Rd.ok {P : Program} {w : World} {H : Hp} {h : Heap} {a : Addr} {u : HO} (r : Rd H a u) (x : HOk P w H h) : ObjOk P w H h a u := by
 rcases r with r | ⟨o, r⟩
 ·exact x a u r
 ·obtain ⟨_, q⟩ := x a _ r
  exact q
def Mut : Option HO → Prop
 | some (.lst _) => True
 | some (.dK _) => True
 | some (.dT _) => True
 | some (.set _ _) => True
 | some (.ins _ _ _) => True
 | some (.ext _) => True
 | _ => False
section
variable {P : Program} {w : World} {H : Hp} {h h' : Heap} {x e : Addr} {o' : HO}
theorem HOk.write (ok : HOk P w H h) (mu : Mut (H x)) (he : e = x ∨ H e = some (.own x)) (k : ∀ b u, b ≠ e → h.get? b = some u → h'.get? b = some u) (heo : ∃ u, h'.get? e = some u)
  (new : ObjOk P w (upd H x o') h' x o') : HOk P w (upd H x o') h' := fun b u q => by
 have nown : ∀ c y, H c = some (.own y) → c ≠ x := fun c y r z => by subst z; rw [r] at mu; exact mu
 have ntup : ∀ c xs, H c = some (.tup xs) → c ≠ x := fun c xs r z => by subst z; rw [r] at mu; exact mu
 by_cases hb : b = x
 ·subst hb; rw [zae] at q; cases q; exact new
 ·rw [zao hb] at q
  by_cases hbe : b = e
  ·have q' : H b = some (.own x) := by
    rcases he with z | z
    ·exact absurd (hbe.trans z) hb
    ·rw [hbe]; exact z
   rw [q] at q'; cases q'
   obtain ⟨v, hv⟩ := heo
   exact ⟨v, by rw [hbe]; exact hv⟩
  ·refine (ok b u q).stay (fun c v hc r => k c v ?_ r) (fun c r => by rw [zao (nown c b r)]; exact r) fun c xs r => by rw [zao (ntup c xs r)]; exact r
   rcases hc with rfl | hc
   ·exact hbe
   ·rintro rfl
    rcases he with z | z
    ·exact nown c b hc z
    ·rw [hc] at z; cases z; exact hb rfl
end
structure Un (fs ex : List Addr) (H H' : Hp) (h h' : Heap) : Prop where
 keep : ∀ b o, h.get? b = some o → H b = none → b ∉ fs → b ∉ ex → h'.get? b = some o
 slot : ∀ b o, h.get? b = some o → H b = none → b ∈ fs → b ∉ ex → ∃ sl, h'.get? b = some { o with slots := sl }
 free : ∀ b o, h.get? b = some o → H b = none → b ∉ ex → H' b = none
 there : ∀ b o, h.get? b = some o → b ∉ ex → ∃ o', h'.get? b = some o'
 tups : ∀ b xs, H b = some (.tup xs) → H' b = some (.tup xs)
 frzs : ∀ b o u, H b = some (.frz o u) → H' b = some (.frz o u)
 tbls : ∀ b ps, H b = some (.tbl ps) → ∃ more, H' b = some (.tbl (ps ++ more))
section
variable {fs fs' ex ex' : List Addr} {H H1 H2 : Hp} {h h1 h2 h' : Heap} {a x e : Addr} {o : HO}
theorem Un.any (u : Un fs ex H H1 h h1) {b : Addr} {ob : Obj} (q : h.get? b = some ob) (n : H b = none) (hx : b ∉ ex) : ∃ sl, h1.get? b = some { ob with slots := sl } := by
 by_cases hb : b ∈ fs
 ·exact u.slot b ob q n hb hx
 ·exact ⟨ob.slots, u.keep b ob q n hb hx⟩
theorem Un.kept (k : ∀ b u, h.get? b = some u → h'.get? b = some u) : Un fs ex H H h h' :=
 ⟨fun b ob q _ _ _ => k b ob q, fun b ob q _ _ _ => ⟨ob.slots, k b ob q⟩, fun _ _ _ n _ => n, fun b ob q _ => ⟨ob, k b ob q⟩, fun _ _ q => q, fun _ _ _ q => q, fun _ ps q => ⟨#[], by rw [q]; simp⟩⟩
theorem Un.refl : Un fs ex H H h h := Un.kept fun _ _ q => q
theorem Un.laid (k : ∀ b u, h.get? b = some u → h'.get? b = some u) (hp : h.objs.size ≤ a) (hn : H a = none) : Un fs ex H (upd H a o) h h' where
 keep := fun b u q _ _ _ => k b u q
 slot := fun b u q _ _ _ => ⟨u.slots, k b u q⟩
 free := fun b u q n _ => by rw [zao (Nat.ne_of_lt (Nat.lt_of_lt_of_le (Heap.lt_size q) hp))]; exact n
 there := fun b u q _ => ⟨u, k b u q⟩
 tups := fun b xs q => by rw [zao (zav q hn)]; exact q
 frzs := fun b u xs q => by rw [zao (zav q hn)]; exact q
 tbls := fun b ps q => ⟨#[], by rw [zao (zav q hn), q]; simp⟩
theorem Un.write (mu : Mut (H x)) (he : e = x ∨ H e = some (.own x)) (k : ∀ b u, b ≠ e → h.get? b = some u → h'.get? b = some u) (heo : ∃ u, h'.get? e = some u) : Un fs ex H (upd H x o) h h' := by
 have hx : ∀ b, H b = none → b ≠ x := fun b n z => by subst z; rw [n] at mu; exact mu
 have hb : ∀ b, H b = none → b ≠ e := fun b n z => by
  subst z
  rcases he with r | r
  ·exact hx b n r
  ·rw [n] at r; cases r
 have hm : ∀ b u, H b = some u → ¬ Mut (some u) → b ≠ x := fun b u q nm z => by subst z; rw [q] at mu; exact nm mu
 refine ⟨fun b u q n _ _ => k b u (hb b n) q, fun b u q n _ _ => ⟨u.slots, k b u (hb b n) q⟩, fun b u q n _ => by rw [zao (hx b n)]; exact n, fun b u q _ => ?_,
  fun b xs q => by rw [zao (hm b _ q fun z => z)]; exact q, fun b u xs q => by rw [zao (hm b _ q fun z => z)]; exact q, fun b ps q => ⟨#[], by rw [zao (hm b _ q fun z => z), q]; simp⟩⟩
 by_cases hbe : b = e
 ·subst hbe; exact heo
 ·exact ⟨u, k b u hbe q⟩
end
def trk (h : Heap) (H : Hp) : List Addr := (List.range h.objs.size).filter fun a => (H a).isSome
def zj4 (h : Heap) (H : Hp) : Heap := PySem.W.hideAll h (trk h H)
theorem zp4 (h : Heap) (H : Hp) : (zj4 h H).objs.size = h.objs.size := PySem.W.hideAll_size _ _
theorem zrt {h : Heap} {H : Hp} {b : Addr} {o : Obj} (e : h.get? b = some o) (n : H b = none) : (zj4 h H).get? b = some o :=
 PySem.W.hideAll_get _ e fun hm => by
  have q : (H b).isSome = true := (List.mem_filter.mp hm).2
  rw [n] at q; simp at q
theorem zr5 {h : Heap} {H : Hp} {b : Addr} {o : Obj} (e : (zj4 h H).get? b = some o) : h.get? b = some o ∧ H b = none := by
 have e' : h.get? b = some o := PySem.W.of_hideAll (trk h H) e
 refine ⟨e', ?_⟩
 cases q : H b with
 | none => rfl
 | some x =>
  have hm : b ∈ trk h H := List.mem_filter.mpr ⟨List.mem_range.mpr (Heap.lt_size e'), by simp [q]⟩
  have z : (zj4 h H).get? b = none := PySem.W.hideAll_none (trk h H) hm
  rw [z] at e; cases e
end L2
namespace L2
open PySem PySem.Spec PyProof.Rows
structure Mod (K : PySem.W.Frag) (mg : Str → Option Value) (base : Heap) : Prop where
 kin : K.In base
 glob : base.Ns mainGlobals mg
 blt : ∃ mb, base.Ns builtinsNs mb ∧ ∀ x : Str, x ≠ "__name__" → mb x = bootBuiltins x
 nolimit : base.NoLimit
structure Cx where
 prog : Program
 w : World
 K : PySem.W.Frag
 mg : Str → Option Value
 base : Heap
 A : Around
 N : List Str
 s₀ : Shared
 H₀ : Hp
 env : Env
 outer : List Env
 stack : List Env
 ex : List Addr
 fn : Str → Bool
 calm : Bool
 pn : List (Addr × Obj)
 xe : Value → Shared → Prop
def frs (l : List Env) : List Addr := l.filterMap (·.frame)
abbrev Cx.fs (X : Cx) : List Addr := frs X.outer
def Vis (sc : Scope) (x : Str) : Prop := sc.names.lookup x = some .local ∨ sc.names.lookup x = some .cell ∨ sc.names.lookup x = some .free
def Loc (sc : Scope) (x : Str) : Prop := sc.names.lookup x = some .local ∨ sc.names.lookup x = some .cell
def zvu (env : Env) (h : Heap) (m : Str → Option Value) (x : Str) (u : Value) : Prop :=
 (env.kindOf x = some .local ∧ m x = some u) ∨ ((env.kindOf x = some .cell ∨ env.kindOf x = some .free) ∧ ∃ c, env.cells.lookup x = some c ∧ h.IsCell c (some u))
structure Cx.Ok (X : Cx) : Prop where
 mod : Mod X.K X.mg X.base
 kind : X.env.scope.kind = .function
 glob : X.env.globals = mainGlobals
 blt : X.env.builtins = builtinsNs
 above : X.s₀.heap.objs.size ≤ X.env.locals
 inj : ∀ x y c, X.env.cells.lookup x = some c → X.env.cells.lookup y = some c → x = y
 has : ∀ x, (X.env.kindOf x = some .cell ∨ X.env.kindOf x = some .free) → ∃ c, X.env.cells.lookup x = some c
 cab : ∀ x c, X.fn x = true → X.env.cells.lookup x = some c → X.s₀.heap.objs.size ≤ c
 hd : X.calm = true → X.A.handled = none
 frames : X.A.frames = some X.stack
 stk : X.stack = X.outer ∨ (X.stack = X.env :: X.outer ∧ X.env.frame = some X.env.locals)
 exf : ∀ b ∈ X.ex, b ≠ X.env.locals ∧ ∀ x c, X.env.cells.lookup x = some c → c ≠ b
 bs : ∀ b o, X.base.get? b = some o → X.s₀.heap.get? b = some o ∧ X.H₀ b = none
 bsz : X.base.objs.size ≤ X.s₀.heap.objs.size
 noex : ∀ b o, X.base.get? b = some o → b ∉ X.ex
 exfs : ∀ b ∈ X.ex, b ∉ X.fs
 funs : X.s₀.heap.FunFrames X.base X.outer
 frf : ∀ b ∈ X.fs, X.H₀ b = none
structure Inv (X : Cx) (pins : List (Addr × Obj)) (σ : List (Option V)) (H : Hp) (s : Shared) : Prop where
 ok : X.Ok
 os : s.os = X.s₀.os
 bare : AllBare s.gens
 base : Un X.fs X.ex X.H₀ H X.s₀.heap s.heap
 loc : ∃ m, s.heap.Ns X.env.locals m ∧ ∀ (i : Nat) (x : Str) (v : V), X.N[i]? = some x → σ[i]? = some (some v) → Vis X.env.scope x → ∃ u, RelV v u ∧ zvu X.env s.heap m x u
 cell : ∀ x c, X.env.cells.lookup x = some c → ∃ v, s.heap.IsCell c v
 free : H X.env.locals = none
 freeC : ∀ x c, X.env.cells.lookup x = some c → H c = none
 pin : ∀ p ∈ X.pn ++ pins, s.heap.get? p.1 = some p.2 ∧ H p.1 = none ∧ p.1 ≠ X.env.locals ∧ p.1 ∉ X.fs ∧ ∀ v, p.2.data ≠ .cell v
 hok : HOk X.prog X.w H s.heap
 len : σ.length = X.N.length
section
variable {X : Cx} {pins : List (Addr × Obj)} {σ : List (Option V)} {H H' : Hp} {s : Shared} {h' : Heap}
theorem Cx.Ok.nofr (ok : X.Ok) {b : Addr} {o : Obj} (e : X.base.get? b = some o) : b ∉ X.fs := fun hb => by
 have := (ok.funs.mem hb).1
 rw [e] at this; cases this
theorem Inv.bs (I : Inv X pins σ H s) : ∀ b o, X.base.get? b = some o → s.heap.get? b = some o ∧ H b = none := fun b o e =>
 ⟨I.base.keep b o (I.ok.bs b o e).1 (I.ok.bs b o e).2 (I.ok.nofr e) (I.ok.noex b o e), I.base.free b o (I.ok.bs b o e).1 (I.ok.bs b o e).2 (I.ok.noex b o e)⟩
theorem Inv.bk (I : Inv X pins σ H s) : ∀ b o, X.base.get? b = some o → s.heap.get? b = some o := fun b o e => (I.bs b o e).1
theorem Inv.mod (I : Inv X pins σ H s) : Mod X.K X.mg X.base := I.ok.mod
theorem Inv.kIn (I : Inv X pins σ H s) : X.K.In s.heap := I.ok.mod.kin.keeps I.bk
theorem Inv.lt (I : Inv X pins σ H s) : X.env.locals < s.heap.objs.size := let ⟨_, hn, _⟩ := I.loc; hn.lt
theorem Inv.sz (I : Inv X pins σ H s) : X.s₀.heap.objs.size ≤ s.heap.objs.size := Nat.le_trans I.ok.above (Nat.le_of_lt I.lt)
theorem Inv.nofs (I : Inv X pins σ H s) {a : Addr} (h : s.heap.objs.size ≤ a) : a ∉ X.fs := fun hb => by
 obtain ⟨_, o, ho, _⟩ := I.ok.funs.mem hb
 exact absurd (Nat.lt_of_lt_of_le (Heap.lt_size ho) (Nat.le_trans I.sz h)) (Nat.lt_irrefl _)
theorem Inv.cne (I : Inv X pins σ H s) : ∀ x c, X.env.cells.lookup x = some c → c ≠ X.env.locals := fun x c e z => by
 obtain ⟨v, o, ho, hd⟩ := I.cell x c e
 obtain ⟨m, ⟨o', es, ep, ho', hd', _⟩, _⟩ := I.loc
 rw [z, ho'] at ho; cases ho; rw [hd'] at hd; cases hd
theorem Inv.funs (I : Inv X pins σ H s) : s.heap.FunFrames X.base X.outer := by
 have all : ∀ (l : List Env), (∀ b ∈ frs l, b ∈ X.fs) → X.s₀.heap.FunFrames X.base l → s.heap.FunFrames X.base l := by
  intro l
  induction l with
  | nil => intro _ _; trivial
  | cons env r ih =>
   intro hs hl
   obtain ⟨hk, ⟨L, o, hf, hn, ho, hd⟩, hr⟩ := hl
   have hL : L ∈ X.fs := hs L (by unfold frs; rw [List.filterMap_cons, hf]; exact List.mem_cons_self)
   obtain ⟨sl, e⟩ := I.base.slot L o ho (I.ok.frf L hL) hL fun z => I.ok.exfs L z hL
   exact ⟨hk, ⟨L, _, hf, hn, e, hd⟩, ih (fun b hb => hs b (by unfold frs; rw [List.filterMap_cons, hf]; exact List.mem_cons_of_mem _ hb)) hr⟩
 exact all X.outer (fun _ hb => hb) I.ok.funs
theorem Inv.stack (I : Inv X pins σ H s) : s.heap.FunFrames X.base X.stack := by
 rcases I.ok.stk with e | ⟨e, hf⟩
 ·rw [e]; exact I.funs
 ·rw [e]
  obtain ⟨m, hn, _⟩ := I.loc
  refine .cons (by rw [I.ok.kind]; decide) hf hn ?_ I.funs
  exact Heap.get?_none_of_le (Nat.le_trans I.ok.bsz I.ok.above)
theorem Inv.stkSub (I : Inv X pins σ H s) : ∀ b ∈ frs X.stack, b ∈ X.env.locals :: X.fs := fun b hb => by
 rcases I.ok.stk with e | ⟨e, hf⟩
 ·rw [e] at hb; exact List.mem_cons_of_mem _ hb
 ·rw [e] at hb
  unfold frs at hb
  rw [List.filterMap_cons, hf] at hb
  exact hb
theorem Inv.stkFree (I : Inv X pins σ H s) : ∀ b ∈ frs X.stack, H b = none := fun b hb => by
 rcases List.mem_cons.mp (I.stkSub b hb) with e | hb
 ·rw [e]; exact I.free
 ·obtain ⟨_, o, ho, _⟩ := I.ok.funs.mem hb
  exact I.base.free b o ho (I.ok.frf b hb) fun z => I.ok.exfs b z hb
theorem Inv.step {g' : Array GenState} {t' : Nat} {d' : Drawn} {ch : List Addr} (I : Inv X pins σ H s)
  (hch : ∀ b ∈ ch, (b ∈ X.ex ∨ X.s₀.heap.objs.size ≤ b) ∧ b ≠ X.env.locals ∧ (∀ x c, X.env.cells.lookup x = some c → c ≠ b) ∧ ∀ p ∈ X.pn ++ pins, p.1 ≠ b)
  (keep : ∀ b o, b ≠ X.env.locals → b ∉ X.fs → b ∉ ch → s.heap.get? b = some o → H b = none → h'.get? b = some o)
  (slot : ∀ b o, b ≠ X.env.locals → b ∈ X.fs → b ∉ ch → s.heap.get? b = some o → H b = none → ∃ sl, h'.get? b = some { o with slots := sl }) (free : ∀ b o, b ∉ ch → s.heap.get? b = some o → H b = none → H' b = none)
  (there : ∀ b o, b ∉ ch → s.heap.get? b = some o → ∃ o', h'.get? b = some o')
  (tups : ∀ b xs, H b = some (.tup xs) → H' b = some (.tup xs)) (frzs : ∀ b o u, H b = some (.frz o u) → H' b = some (.frz o u)) (tbls : ∀ b ps, H b = some (.tbl ps) → ∃ more, H' b = some (.tbl (ps ++ more)))
  (ns : ∀ m, s.heap.Ns X.env.locals m → h'.Ns X.env.locals m) (hok : HOk X.prog X.w H' h') (hg : AllBare g') :
  Inv X pins σ H' { s with heap := h', gens := g', drawn := d', toks := t' } := by
 have neL : ∀ b o, X.s₀.heap.get? b = some o → b ≠ X.env.locals := fun b o e => Nat.ne_of_lt (Nat.lt_of_lt_of_le (Heap.lt_size e) I.ok.above)
 have neC : ∀ b o, X.s₀.heap.get? b = some o → b ∉ X.ex → b ∉ ch := fun b o e hx hb => by
  rcases (hch b hb).1 with z | z
  ·exact hx z
  ·exact absurd (Nat.lt_of_lt_of_le (Heap.lt_size e) z) (Nat.lt_irrefl _)
 have cellK : ∀ x c, X.env.cells.lookup x = some c → ∀ v, s.heap.IsCell c v → h'.IsCell c v := fun x c e v ⟨o, ho, hd⟩ => by
  have nch : c ∉ ch := fun z => (hch c z).2.2.1 x c e rfl
  by_cases hc : c ∈ X.fs
  ·obtain ⟨sl, q⟩ := slot c o (I.cne x c e) hc nch ho (I.freeC x c e)
   exact ⟨_, q, hd⟩
  ·exact ⟨o, keep c o (I.cne x c e) hc nch ho (I.freeC x c e), hd⟩
 refine ⟨I.ok, I.os, hg, ⟨fun b o e n hb hx => ?_, fun b o e n hb hx => ?_, fun b o e n hx => ?_, fun b o e hx => ?_, fun b xs e => tups b xs (I.base.tups b xs e), fun b o xs e => frzs b o xs (I.base.frzs b o xs e), fun b ps e => ?_⟩, ?_, fun x c e => ?_, ?_, fun x c e => ?_, fun p hp => ?_, hok, I.len⟩
 ·exact keep b o (neL b o e) hb (neC b o e hx) (I.base.keep b o e n hb hx) (I.base.free b o e n hx)
 ·obtain ⟨sl, e1⟩ := I.base.slot b o e n hb hx
  obtain ⟨sl', e2⟩ := slot b _ (neL b o e) hb (neC b o e hx) e1 (I.base.free b o e n hx)
  exact ⟨sl', e2⟩
 ·obtain ⟨o', e1⟩ := I.base.there b o e hx
  exact free b o' (neC b o e hx) e1 (I.base.free b o e n hx)
 ·obtain ⟨o', e1⟩ := I.base.there b o e hx
  exact there b o' (neC b o e hx) e1
 ·obtain ⟨m1, e1⟩ := I.base.tbls b ps e
  obtain ⟨m2, e2⟩ := tbls b _ e1
  exact ⟨m1 ++ m2, by rw [e2, Array.append_assoc]⟩
 ·obtain ⟨m, hn, hl⟩ := I.loc
  refine ⟨m, ns m hn, fun i x v e1 e2 e3 => ?_⟩
  obtain ⟨u, r, l⟩ := hl i x v e1 e2 e3
  refine ⟨u, r, ?_⟩
  rcases l with l | ⟨k, c, e, z⟩
  ·exact .inl l
  ·exact .inr ⟨k, c, e, cellK x c e _ z⟩
 ·obtain ⟨v, z⟩ := I.cell x c e
  exact ⟨v, cellK x c e v z⟩
 ·obtain ⟨m, ⟨o, _, _, ho, _⟩, _⟩ := I.loc
  exact free _ o (fun z => (hch _ z).2.1 rfl) ho I.free
 ·obtain ⟨v, o, ho, hd⟩ := I.cell x c e
  exact free c o (fun z => (hch c z).2.2.1 x c e rfl) ho (I.freeC x c e)
 ·obtain ⟨e, n, ne, nf, d⟩ := I.pin p hp
  have nch : p.1 ∉ ch := fun z => (hch p.1 z).2.2.2 p hp rfl
  exact ⟨keep p.1 p.2 ne nf nch e n, free p.1 p.2 nch e n, ne, nf, d⟩
theorem Inv.un {t' : Nat} (I : Inv X pins σ H s) (u : Un X.fs [] H H' s.heap h') (hok : HOk X.prog X.w H' h') : Inv X pins σ H' { s with heap := h', toks := t' } := by
 obtain ⟨m, ⟨o, es, ep, ho, r⟩, _⟩ := id I.loc
 obtain ⟨sl, hL⟩ := u.any ho I.free (by simp)
 exact I.step (g' := s.gens) (d' := s.drawn) (ch := []) (fun _ z => nomatch z) (fun b o _ hb _ e n => u.keep b o e n hb (by simp)) (fun b o _ hb _ e n => u.slot b o e n hb (by simp)) (fun b o _ e n => u.free b o e n (by simp)) (fun b o _ e => u.there b o e (by simp)) u.tups u.frzs u.tbls (fun m' hm => by
  obtain ⟨o', es', ep', ho', r'⟩ := hm
  rw [ho] at ho'; cases ho'
  exact ⟨_, es', ep', hL, r'⟩) hok I.bare
theorem Inv.call {g' : Array GenState} {t' : Nat} {d' : Drawn} {ch : List Addr} (I : Inv X pins σ H s) (u : Un (frs X.stack) ch H H' s.heap h') (hok : HOk X.prog X.w H' h') (hg : AllBare g')
  (hch : ∀ b ∈ ch, (b ∈ X.ex ∨ X.s₀.heap.objs.size ≤ b) ∧ b ≠ X.env.locals ∧ (∀ x c, X.env.cells.lookup x = some c → c ≠ b) ∧ ∀ p ∈ X.pn ++ pins, p.1 ≠ b) :
  Inv X pins σ H' { s with heap := h', gens := g', drawn := d', toks := t' } := by
 obtain ⟨m, ⟨o, es, ep, ho, r⟩, _⟩ := id I.loc
 obtain ⟨sl, hL⟩ := u.any ho I.free fun z => (hch _ z).2.1 rfl
 exact I.step (ch := ch) hch (fun b o hL hb hc e n => u.keep b o e n (fun z => (List.mem_cons.mp (I.stkSub b z)).elim hL hb) hc) (fun b o _ _ hc e n => u.any e n hc) (fun b o hc e n => u.free b o e n hc) (fun b o hc e => u.there b o e hc) u.tups u.frzs u.tbls (fun m' hm => by
  obtain ⟨o', es', ep', ho', r'⟩ := hm
  rw [ho] at ho'; cases ho'
  exact ⟨_, es', ep', hL, r'⟩) hok hg
theorem Inv.turned {t' : Nat} {it : Addr} (I : Inv X pins σ H s) (k : ∀ b o, b ≠ it → s.heap.get? b = some o → h'.get? b = some o) (hn : H it = none) (hL : it ≠ X.env.locals)
  (h1 : it ∈ X.ex ∨ X.s₀.heap.objs.size ≤ it) (h2 : ∀ x c, X.env.cells.lookup x = some c → c ≠ it) (h3 : ∀ p ∈ X.pn ++ pins, p.1 ≠ it) : Inv X pins σ H { s with heap := h', toks := t' } := by
 have nit : ∀ b u, H b = some u → b ≠ it := fun b u e z => by rw [z, hn] at e; cases e
 refine I.step (g' := s.gens) (d' := s.drawn) (ch := [it]) (fun b hb => ?_) (fun b o _ _ hc e _ => k b o (fun z => hc (by simp [z])) e) (fun b o _ _ hc e _ => ⟨o.slots, k b o (fun z => hc (by simp [z])) e⟩) (fun _ _ _ _ n => n)
  (fun b o hc e => ⟨o, k b o (fun z => hc (by simp [z])) e⟩) (fun _ _ e => e) (fun _ _ _ e => e) (fun b ps e => ⟨#[], by rw [e]; simp⟩) (fun m hm => ?_) (fun b u e => ?_) I.bare
 ·have e : b = it := by simpa using hb
  subst e
  exact ⟨h1, hL, h2, h3⟩
 ·obtain ⟨o, es, ep, ho, r⟩ := hm
  exact ⟨o, es, ep, k _ o (Ne.symm hL) ho, r⟩
 ·refine (I.hok b u e).stay (fun c v hc q => k c v ?_ q) (fun _ q => q) fun _ _ q => q
  rcases hc with z | z
  ·rw [z]; exact nit b u e
  ·exact nit c _ z
theorem Inv.tok (I : Inv X pins σ H s) (t : Nat) : Inv X pins σ H { s with toks := t } := I.un (h' := s.heap) (t' := t) Un.refl I.hok
theorem Inv.kept {t' : Nat} (I : Inv X pins σ H s) (k : ∀ b u, s.heap.get? b = some u → h'.get? b = some u) : Inv X pins σ H { s with heap := h', toks := t' } := I.un (Un.kept k) (I.hok.kept k)
theorem Inv.laid {a : Addr} {o : HO} {t' : Nat} (I : Inv X pins σ H s) (k : ∀ b u, s.heap.get? b = some u → h'.get? b = some u) (hp : s.heap.objs.size ≤ a) (new : ObjOk X.prog X.w (upd H a o) h' a o) :
  Inv X pins σ (upd H a o) { s with heap := h', toks := t' } := I.un (Un.laid k hp (I.hok.fresh hp)) (I.hok.laid k hp new)
theorem Inv.write {x e : Addr} {o : HO} {t' : Nat} (I : Inv X pins σ H s) (mu : Mut (H x)) (he : e = x ∨ H e = some (.own x)) (k : ∀ b u, b ≠ e → s.heap.get? b = some u → h'.get? b = some u) (heo : ∃ u, h'.get? e = some u)
  (new : ObjOk X.prog X.w (upd H x o) h' x o) : Inv X pins σ (upd H x o) { s with heap := h', toks := t' } := I.un (Un.write mu he k heo) (I.hok.write mu he k heo new)
theorem Inv.pins_of {pins' : List (Addr × Obj)} (I : Inv X pins σ H s) (h : ∀ p ∈ pins', s.heap.get? p.1 = some p.2 ∧ H p.1 = none ∧ p.1 ≠ X.env.locals ∧ p.1 ∉ X.fs ∧ ∀ v, p.2.data ≠ .cell v) : Inv X pins' σ H s :=
 ⟨I.ok, I.os, I.bare, I.base, I.loc, I.cell, I.free, I.freeC, fun p hp => (List.mem_append.mp hp).elim (fun z => I.pin p (List.mem_append_left _ z)) (h p), I.hok, I.len⟩
theorem zmb {N : List Str} (hN : N.Nodup) {i j : Nat} {x : Str} (a : N[i]? = some x) (b : N[j]? = some x) : i = j := by
 obtain ⟨h1, e1⟩ := List.getElem?_eq_some_iff.mp a
 obtain ⟨h2, e2⟩ := List.getElem?_eq_some_iff.mp b
 exact (List.getElem_inj hN).mp (e1.trans e2.symm)
theorem zpg {M : Model} {A : Around} {E : Value → Shared → Prop} {i : Nat} {x : Str} {v : V} {u : Value} {Q : Unit → Shared → Prop} (I : Inv X pins σ H s) (hN : X.N.Nodup) (hi : X.N[i]? = some x) (hx : Loc X.env.scope x) (r : RelV v u)
  (h : ∀ s', Inv X pins (σ.set i (some v)) H s' → (∃ a, Heap.SameBut a s.heap s'.heap ∧ (a = X.env.locals ∨ X.env.cells.lookup x = some a)) → Q () s') (hf : X.fn x = true ∨ X.env.scope.names.lookup x = some .local := by first | exact .inl rfl | exact .inr rfl | assumption) : wpAny M A (storeName X.env x u) Q E s := by
 obtain ⟨m, hn, hl⟩ := id I.loc
 have hcls : (X.env.scope.kind == .class || (X.env.scope.kind == .module && X.env.locals != X.env.globals)) = false := by rw [I.ok.kind]; rfl
 have hiσ : i < σ.length := by rw [I.len]; exact (List.getElem?_eq_some_iff.mp hi).1
 have cne := I.cne
 have tracked : ∀ {a : Addr} {h' : Heap}, (∃ o, s.heap.get? a = some o ∧ H a = none) → Heap.SameBut a s.heap h' → HOk X.prog X.w H h' := fun {a h'} ha hs b ob e => by
  obtain ⟨_, _, hfree⟩ := ha
  refine (I.hok b ob e).stay (fun c w' hc q => (hs.2 c ?_).trans q) (fun _ q => q) fun _ _ q => q
  rintro rfl
  rcases hc with rfl | hc
  ·rw [hfree] at e; cases e
  ·rw [hfree] at hc; cases hc
 rcases hx with hk | hk
 ·refine wpAny_storeName_local hk hn (fun h' hn' hs => ?_) hcls
  obtain ⟨oL, _, _, hoL, _⟩ := id hn
  refine h _ ⟨I.ok, I.os, I.bare, ⟨fun b o e n hb hx => ?_, fun b o e n hb hx => ?_, I.base.free, fun b o e hx => ?_, I.base.tups, I.base.frzs, I.base.tbls⟩, ⟨_, hn', fun j y v' e1 e2 e3 => ?_⟩, fun y c e => ?_, I.free, I.freeC, fun p hp => ?_, tracked ⟨oL, hoL, I.free⟩ hs, by simpa using I.len⟩ ⟨_, hs, .inl rfl⟩
  ·exact (hs.2 b (Nat.ne_of_lt (Nat.lt_of_lt_of_le (Heap.lt_size e) I.ok.above))).trans (I.base.keep b o e n hb hx)
  ·obtain ⟨sl, e1⟩ := I.base.slot b o e n hb hx
   exact ⟨sl, (hs.2 b (Nat.ne_of_lt (Nat.lt_of_lt_of_le (Heap.lt_size e) I.ok.above))).trans e1⟩
  ·obtain ⟨o', e1⟩ := I.base.there b o e hx
   exact ⟨o', (hs.2 b (Nat.ne_of_lt (Nat.lt_of_lt_of_le (Heap.lt_size e) I.ok.above))).trans e1⟩
  ·by_cases hj : j = i
   ·subst hj
    rw [hi] at e1; cases e1
    rw [List.getElem?_set_self hiσ] at e2
    cases e2
    exact ⟨u, r, .inl ⟨hk, by simp⟩⟩
   ·rw [List.getElem?_set_ne (Ne.symm hj)] at e2
    obtain ⟨u', r', q⟩ := hl j y v' e1 e2 e3
    refine ⟨u', r', ?_⟩
    rcases q with ⟨k, e⟩ | ⟨k, c, e, z⟩
    ·refine .inl ⟨k, ?_⟩
     have : y ≠ x := fun e => hj (zmb hN e1 (e ▸ hi))
     simp [this, e]
    ·exact .inr ⟨k, c, e, z.sameBut hs (cne y c e)⟩
  ·obtain ⟨w', z⟩ := I.cell y c e
   exact ⟨w', z.sameBut hs (cne y c e)⟩
  ·obtain ⟨e, n, ne, nf, d⟩ := I.pin p hp
   exact ⟨(hs.2 p.1 ne).trans e, n, ne, nf, d⟩
 ·have hfn : X.fn x = true := by
   rcases hf with z | z
   ·exact z
   ·rw [z] at hk; cases hk
  obtain ⟨c, hc⟩ := I.ok.has x (.inl hk)
  obtain ⟨w', z⟩ := I.cell x c hc
  refine wpAny_storeName_cell I.ok.kind hk hc z (fun h' hc' hs => ?_)
  obtain ⟨oc, hoc, hocd⟩ := id z
  refine h { s with heap := h' } ⟨I.ok, I.os, I.bare, ⟨fun b o e n hb hx => ?_, fun b o e n hb hx => ?_, I.base.free, fun b o e hx => ?_, I.base.tups, I.base.frzs, I.base.tbls⟩, ⟨m, hn.sameBut hs (Ne.symm (cne x c hc)), fun j y v' e1 e2 e3 => ?_⟩, fun y c' e => ?_, I.free, I.freeC, fun p hp => ?_, tracked ⟨oc, hoc, I.freeC x c hc⟩ hs, by simpa using I.len⟩ ⟨c, hs, .inr hc⟩
  ·exact (hs.2 b (Nat.ne_of_lt (Nat.lt_of_lt_of_le (Heap.lt_size e) (I.ok.cab x c hfn hc)))).trans (I.base.keep b o e n hb hx)
  ·obtain ⟨sl, e1⟩ := I.base.slot b o e n hb hx
   exact ⟨sl, (hs.2 b (Nat.ne_of_lt (Nat.lt_of_lt_of_le (Heap.lt_size e) (I.ok.cab x c hfn hc)))).trans e1⟩
  ·obtain ⟨o', e1⟩ := I.base.there b o e hx
   exact ⟨o', (hs.2 b (Nat.ne_of_lt (Nat.lt_of_lt_of_le (Heap.lt_size e) (I.ok.cab x c hfn hc)))).trans e1⟩
  ·by_cases hj : j = i
   ·subst hj
    rw [hi] at e1; cases e1
    rw [List.getElem?_set_self hiσ] at e2
    cases e2
    exact ⟨u, r, .inr ⟨.inl hk, c, hc, hc'⟩⟩
   ·rw [List.getElem?_set_ne (Ne.symm hj)] at e2
    obtain ⟨u', r', q⟩ := hl j y v' e1 e2 e3
    refine ⟨u', r', ?_⟩
    rcases q with q | ⟨k, c', e, z'⟩
    ·exact .inl q
    ·refine .inr ⟨k, c', e, z'.sameBut hs ?_⟩
     rintro rfl
     exact hj (zmb hN e1 (I.ok.inj _ _ _ e hc ▸ hi))
  ·by_cases hcc : c' = c
   ·subst hcc; exact ⟨_, hc'⟩
   ·obtain ⟨w2, z2⟩ := I.cell y c' e
    exact ⟨w2, z2.sameBut hs hcc⟩
  ·obtain ⟨e, n, ne, nf, d⟩ := I.pin p hp
   refine ⟨(hs.2 p.1 ?_).trans e, n, ne, nf, d⟩
   intro q
   rw [q, hoc] at e
   have q' : oc = p.2 := Option.some.inj e
   exact d w' (by rw [← q']; exact hocd)
theorem zmz {M : Model} {A : Around} {E : Value → Shared → Prop} {i : Nat} {x : Str} {v : V} {u : Value} {Q : Unit → Shared → Prop} (I : Inv X pins σ H s) (hN : X.N.Nodup) (hi : X.N[i]? = some x) (hx : Loc X.env.scope x) (r : RelV v u)
  (h : ∀ s', Inv X pins (σ.set i (some v)) H s' → Q () s') (hf : X.fn x = true ∨ X.env.scope.names.lookup x = some .local := by first | exact .inl rfl | exact .inr rfl | assumption) : wpAny M A (storeName X.env x u) Q E s :=
 zpg I hN hi hx r (fun s' I' _ => h s' I') hf
theorem Inv.call' {s' : Shared} {ch : List Addr} (I : Inv X pins σ H s) (ho : s'.os = s.os) (u : Un (frs X.stack) ch H H' s.heap s'.heap) (hok : HOk X.prog X.w H' s'.heap) (hg : AllBare s'.gens)
  (hch : ∀ b ∈ ch, (b ∈ X.ex ∨ X.s₀.heap.objs.size ≤ b) ∧ b ≠ X.env.locals ∧ (∀ x c, X.env.cells.lookup x = some c → c ≠ b) ∧ ∀ p ∈ X.pn ++ pins, p.1 ≠ b) : Inv X pins σ H' s' := by
 obtain ⟨h', g', d', t', o'⟩ := s'
 have e : o' = s.os := ho
 subst e
 exact I.call (g' := g') (t' := t') (d' := d') u hok hg hch
end
abbrev XK := Value → Option Addr → Hp → Prop
abbrev St := List (Option V)
abbrev VK := V → Hp → Prop
abbrev TE := St → Hp → VK → Prop
abbrev TT := St → Hp → (Bool → Hp → Prop) → Prop
abbrev TA := St → Hp → (List V → Hp → Prop) → Prop
structure zjg where
 nx : St → Hp → Prop
 rt : VK
 bk : St → Hp → Prop := fun _ _ => False
 ct : St → Hp → Prop := fun _ _ => False
abbrev TS := zjg → St → Hp → Prop
def EP (X : Cx) (pins : List (Addr × Obj)) (σ : St) (Q : VK) (u : Value) (s' : Shared) : Prop := ∃ v H', Inv X pins σ H' s' ∧ RelV v u ∧ Q v H'
def TP (X : Cx) (pins : List (Addr × Obj)) (σ : St) (Q : Bool → Hp → Prop) (b : Bool) (s' : Shared) : Prop := ∃ H', Inv X pins σ H' s' ∧ Q b H'
def AP (X : Cx) (pins : List (Addr × Obj)) (σ : St) (Q : List V → Hp → Prop) (us : List Value) (s' : Shared) : Prop := ∃ vs H', Inv X pins σ H' s' ∧ Vals vs us ∧ Q vs H'
def SP (X : Cx) (pins : List (Addr × Obj)) (D : zjg) (f : Flow) (s' : Shared) : Prop :=
 match f with
 | .next => ∃ σ' H', Inv X pins σ' H' s' ∧ D.nx σ' H'
 | .brk => ∃ σ' H', Inv X pins σ' H' s' ∧ D.bk σ' H'
 | .cont => ∃ σ' H', Inv X pins σ' H' s' ∧ D.ct σ' H'
 | .ret u => ∃ v σ' H', Inv X pins σ' H' s' ∧ RelV v u ∧ D.rt v H'
def PE (X : Cx) (e : Expr) (t : TE) : Prop :=
 ∀ (pins : List (Addr × Obj)) (s : Shared) (σ : St) (H : Hp) (Q : VK), Inv X pins σ H s → t σ H Q → wpAny (model X.prog X.w) X.A (eval e X.env) (EP X pins σ Q) X.xe s
def PT (X : Cx) (e : Expr) (t : TT) : Prop :=
 ∀ (pins : List (Addr × Obj)) (s : Shared) (σ : St) (H : Hp) (Q : Bool → Hp → Prop), Inv X pins σ H s → t σ H Q → wpAny (model X.prog X.w) X.A (isTrue e X.env (eval e X.env)) (TP X pins σ Q) X.xe s
def PW (X : Cx) (e : Expr) (t : TT) : Prop :=
 ∀ (whole : Sem Value) (pins : List (Addr × Obj)) (s : Shared) (σ : St) (H : Hp) (Q : Bool → Hp → Prop), Inv X pins σ H s → t σ H Q → wpAny (model X.prog X.w) X.A (isTrue e X.env whole) (TP X pins σ Q) X.xe s
theorem PW.pt {X : Cx} {e : Expr} {t : TT} (h : PW X e t) : PT X e t := h _
def PA (X : Cx) (es : List Expr) (t : TA) : Prop :=
 ∀ (pos : Pos) (pins : List (Addr × Obj)) (s : Shared) (σ : St) (H : Hp) (Q : List V → Hp → Prop), Inv X pins σ H s → t σ H Q → wpAny (model X.prog X.w) X.A (spliced (backTo pos (starEach es X.env))) (AP X pins σ Q) X.xe s
def PS (X : Cx) (st : Stmt) (t : TS) : Prop :=
 ∀ (pins : List (Addr × Obj)) (s : Shared) (σ : St) (H : Hp) (D : zjg), Inv X pins σ H s → t D σ H → wpAny (model X.prog X.w) X.A (exec st X.env) (SP X pins D) X.xe s
def PSs (X : Cx) (st : List Stmt) (t : TS) : Prop :=
 ∀ (pins : List (Addr × Obj)) (s : Shared) (σ : St) (H : Hp) (D : zjg), Inv X pins σ H s → t D σ H → wpAny (model X.prog X.w) X.A (execs st X.env) (SP X pins D) X.xe s
theorem thn {α : Type} {t : Sem α} {Q Q' : α → Shared → Prop} {M : Model} {A : Around} {E : Value → Shared → Prop} {s : Shared} (h : wpAny M A t Q E s) (hQ : ∀ a s, Q a s → Q' a s) : wpAny M A t Q' E s := wpAny_mono h hQ fun _ _ x => x
end L2
namespace L2
open PySem PySem.Spec PyProof.Rows
section
variable {X : Cx}
def zvk (i : Nat) : TE := fun σ H Q => ∃ v, σ[i]? = some (some v) ∧ Q v H
def tC (v : V) : TE := fun _ H Q => Q v H
theorem zqu {i : Nat} {x : Str} {pos : Pos} (hN : X.N[i]? = some x) (hv : Vis X.env.scope x) (hd : (x == ("__debug__" : Str)) = false := by decide) (hcd : (x == ("__classdict__" : Str)) = false := by decide) : PE X (.Name x pos) (zvk i) := by
 intro pins s σ H Q I h
 obtain ⟨v, e, h⟩ := h
 obtain ⟨m, hn, hl⟩ := I.loc
 obtain ⟨u, r, l⟩ := hl i x v hN e hv
 have fin : EP X pins σ Q u s := ⟨v, H, I, r, h⟩
 rcases l with ⟨hk, hm⟩ | ⟨hk, c, hc, hcell⟩
 ·exact wpAny_Name (wpAny_loadName_local I.ok.kind hk hn hm fin) hd
 ·rcases hk with hk | hk
  ·exact wpAny_Name (wpAny_loadName_cell I.ok.kind hk hc hcell fin) hd
  ·exact wpAny_Name (wpAny_loadName_free I.ok.kind hk hc hcell fin hcd) hd
theorem zad {i j pos} : PE X (.Constant (.int i) j pos) (tC (.int i)) := fun _ _ _ H _ I h => wpAny_Constant_int ⟨.int i, H, I.tok _, ⟨_, rfl⟩, h⟩
theorem zqx {b j pos} : PE X (.Constant (.bool b) j pos) (tC (.bl b)) := fun _ _ _ H _ I h => Constant_bool ⟨.bl b, H, I, rfl, h⟩
theorem zdc {j pos} : PE X (.Constant .none j pos) (tC .non) := fun _ _ _ H _ I h => Constant_none ⟨.non, H, I, rfl, h⟩
theorem za5 {x j pos} : PE X (.Constant (.str x) j pos) (tC (.str x)) := fun _ _ _ H _ I h => Calls.Constant_str ⟨.str x, H, I.tok _, ⟨_, rfl⟩, h⟩
def Gl (X : Cx) (x : Str) : Prop := X.env.kindOf x = some .globalImplicit
theorem zk0 {E : Value → Shared → Prop} {pins : List (Addr × Obj)} {s : Shared} {σ : St} {H : Hp} {x : Str} {u : Value} {pos : Pos} {Q : Value → Shared → Prop} (I : Inv X pins σ H s) (hg : Gl X x) (hm : X.mg x = some u) (h : Q u s)
  (hd : (x == ("__debug__" : Str)) = false := by decide) : wpAny (model X.prog X.w) X.A (eval (.Name x pos) X.env) Q E s :=
 Calls.Name_function_global I.ok.kind hg (Calls.loadGlobal_global (by rw [I.ok.glob]; exact I.mod.glob.keeps I.bk) hm h) hd
theorem zk4 {E : Value → Shared → Prop} {pins : List (Addr × Obj)} {s : Shared} {σ : St} {H : Hp} {x : Str} {u : Value} {pos : Pos} {Q : Value → Shared → Prop} (I : Inv X pins σ H s) (hg : Gl X x) (hm : X.mg x = none) (hv : bootBuiltins x = some u) (h : Q u s)
  (hn : x ≠ "__name__" := by decide) (hd : (x == ("__debug__" : Str)) = false := by decide) : wpAny (model X.prog X.w) X.A (eval (.Name x pos) X.env) Q E s := by
 obtain ⟨mb, h1, h2⟩ := I.mod.blt
 exact Calls.Name_function_global I.ok.kind hg (Calls.loadGlobal_builtin (by rw [I.ok.glob]; exact I.mod.glob.keeps I.bk) hm (by rw [I.ok.blt]; exact h1.keeps I.bk) ((h2 x hn).trans hv) h) hd
variable {a b : Expr} {ta tb : TE} {pos : Pos}
def tB (t : TE) : TT := fun σ H Q => t σ H fun x H1 => ∃ c, x = .bl c ∧ Q c H1
theorem zc7 {e : Expr} {t : TE} (h : PE X e t) (he : ∀ whole, isTrue e X.env whole = (do let v ← whole; standAt e.pos; holding [v] (truthy v)) := by intro _; rfl) : PT X e (tB t) := by
 intro pins s σ H Q I hw
 refine isTrue_plain (thn (h pins s σ H _ I hw) fun v s1 ⟨x, H1, I1, r1, q1⟩ => ?_) (he _)
 obtain ⟨d, rfl, q⟩ := q1
 cases r1
 exact wpAny_truthy_bool ⟨H1, I1, q⟩
variable {tA tB' : TT} {rest : List Expr}
def zvo (t u : TT) : TT := fun σ H Q => t σ H fun c H1 => if c = true then u σ H1 Q else Q false H1
def tOr (t u : TT) : TT := fun σ H Q => t σ H fun c H1 => if c = true then Q true H1 else u σ H1 Q
def zv0 (t : TT) : TT := fun σ H Q => t σ H fun c H1 => Q (!c) H1
theorem zf3 (ha : PT X a tA) : PW X (.BoolOp .And [a] pos) tA := by
 intro wh pins s σ H Q I h
 refine isTrue_and (thn (ha pins s σ H Q I h) fun c s1 e => ?_)
 cases c with
 | true => exact isTrue_and_nil e
 | false => exact e
theorem zhw (ha : PT X a tA) : PW X (.BoolOp .Or [a] pos) tA := by
 intro wh pins s σ H Q I h
 refine isTrue_or (thn (ha pins s σ H Q I h) fun c s1 e => ?_)
 cases c with
 | false => exact isTrue_or_nil e
 | true => exact e
theorem zhu (ha : PT X a tA) (hb : PW X (.BoolOp .And (b :: rest) pos) tB') : PW X (.BoolOp .And (a :: b :: rest) pos) (zvo tA tB') := by
 intro wh pins s σ H Q I h
 refine isTrue_and (thn (ha pins s σ H _ I h) fun c s1 ⟨H1, I1, q1⟩ => ?_)
 cases c with
 | true => exact hb wh pins s1 σ H1 Q I1 q1
 | false => exact ⟨H1, I1, q1⟩
theorem zj7 (ha : PT X a tA) (hb : PW X (.BoolOp .Or (b :: rest) pos) tB') : PW X (.BoolOp .Or (a :: b :: rest) pos) (tOr tA tB') := by
 intro wh pins s σ H Q I h
 refine isTrue_or (thn (ha pins s σ H _ I h) fun c s1 ⟨H1, I1, q1⟩ => ?_)
 cases c with
 | true => exact ⟨H1, I1, q1⟩
 | false => exact hb wh pins s1 σ H1 Q I1 q1
theorem zhn (ha : PT X a tA) : PT X (.UnaryOp .Not a pos) (zv0 tA) := by
 intro pins s σ H Q I h
 exact isTrue_not (ha pins s σ H (fun c H1 => Q (!c) H1) I h)
def zuz (ta tb : TE) : TE := fun σ H Q => ta σ H fun x H1 => ∃ c, x = .bl c ∧ if c = true then tb σ H1 Q else Q (.bl false) H1
def zv8 (ta tb : TE) : TE := fun σ H Q => ta σ H fun x H1 => ∃ c, x = .bl c ∧ if c = true then Q (.bl true) H1 else tb σ H1 Q
def zvc (ta : TE) : TE := fun σ H Q => ta σ H fun x H1 => ∃ c, x = .bl c ∧ Q (.bl (!c)) H1
theorem zc5 {op} {t : TE} (h : PE X a t) : PE X (.BoolOp op [a] pos) t := fun pins s σ H Q I hw => BoolOp_one (h pins s σ H Q I hw)
theorem zd2 (ha : PE X a ta) (hb : PE X (.BoolOp .And (b :: rest) pos) tb) : PE X (.BoolOp .And (a :: b :: rest) pos) (zuz ta tb) := by
 intro pins s σ H Q I h
 refine BoolOp_and (thn (ha pins s σ H _ I h) fun v s1 ⟨x, H1, I1, r1, q1⟩ => ?_)
 obtain ⟨c, rfl, q1⟩ := q1
 cases r1
 refine wpAny_truthy_bool ?_
 cases c with
 | true => exact hb pins s1 σ H1 Q I1 q1
 | false => exact ⟨.bl false, H1, I1, rfl, q1⟩
theorem zj8 (ha : PE X a ta) (hb : PE X (.BoolOp .Or (b :: rest) pos) tb) : PE X (.BoolOp .Or (a :: b :: rest) pos) (zv8 ta tb) := by
 intro pins s σ H Q I h
 refine BoolOp_or (thn (ha pins s σ H _ I h) fun v s1 ⟨x, H1, I1, r1, q1⟩ => ?_)
 obtain ⟨c, rfl, q1⟩ := q1
 cases r1
 refine wpAny_truthy_bool ?_
 cases c with
 | false => exact hb pins s1 σ H1 Q I1 q1
 | true => exact ⟨.bl true, H1, I1, rfl, q1⟩
theorem zgr (ha : PE X a ta) : PE X (.UnaryOp .Not a pos) (zvc ta) := by
 intro pins s σ H Q I h
 refine UnaryOp_ (thn (ha pins s σ H _ I h) fun v s1 ⟨x, H1, I1, r1, q1⟩ => ?_)
 obtain ⟨c, rfl, q1⟩ := q1
 cases r1
 exact not_of (wpAny_truthy_bool ⟨.bl (!c), H1, I1, rfl, q1⟩)
end
end L2
namespace L2
open PySem PySem.Spec PyProof.Rows
def SqL (K : PySem.W.Frag) (H : Hp) (a : Addr) (xs : List V) : Prop :=
 Rd H a (.lst xs) ∨
  ∃ (o : Obj) (its : Array Value) (n : Nat), K.lookup a = some o ∧ o.cls = .type "list" ∧ o.dict = none ∧ o.data = .seq its n ∧ its.size ≤ sizeLine ∧ Vals xs its.toList
def SqT (K : PySem.W.Frag) (H : Hp) (a : Addr) (xs : List V) : Prop :=
 Rd H a (.tup xs) ∨
  ∃ (o : Obj) (its : Array Value) (n : Nat), K.lookup a = some o ∧ o.cls = .type "tuple" ∧ o.data = .seq its n ∧ its.size ≤ sizeLine ∧ Vals xs its.toList
def zwb : Value → Option V
 | .none => some .non
 | .bool b => some (.bl b)
 | .int i _ => some (.int i)
 | .str x _ => some (.str x)
 | .bytes b _ => some (.byt b)
 | .float b _ => some (.flt b)
 | .ref a => some (.ref a)
 | .type n => some (.ty n)
 | _ => none
theorem RelV.abs {x : V} {u : Value} (r : RelV x u) : zwb u = some x := by
 cases x with
 | non => cases r; rfl
 | bl _ => cases r; rfl
 | int _ => obtain ⟨t, rfl⟩ := r; rfl
 | str _ => obtain ⟨t, rfl⟩ := r; rfl
 | byt _ => obtain ⟨t, rfl⟩ := r; rfl
 | flt _ => obtain ⟨t, rfl⟩ := r; rfl
 | ref _ => cases r; rfl
 | ty _ => cases r; rfl
theorem RelV.inj {x y : V} {u : Value} (r : RelV x u) (q : RelV y u) : x = y := Option.some.inj (r.abs.symm.trans q.abs)
theorem Vals.inj : ∀ {xs ys : List V} {us : List Value}, Vals xs us → Vals ys us → xs = ys
 | _, _, _, .nil, .nil => rfl
 | _, _, _, .cons r t, .cons r' t' => by rw [r.inj r', Vals.inj t t']
section
variable {X : Cx} {pins : List (Addr × Obj)} {σ : St} {H : Hp} {s : Shared} {a : Addr} {xs ys : List V}
theorem SqL.of {K : PySem.W.Frag} (h : H a = some (.lst xs)) : SqL K H a xs := .inl (.inl h)
theorem Inv.list (I : Inv X pins σ H s) (h : SqL X.K H a xs) : ∃ its : List Value, Vals xs its ∧ PlainL s.heap a its.toArray ∧ xs.length ≤ sizeLine := by
 rcases h with h | ⟨o, its, n, hk, hc, hd, hs, hz, r⟩
 ·obtain ⟨z, its, n, r, e⟩ := h.ok I.hok
  exact ⟨its, r, ⟨_, n, e, rfl, rfl, rfl⟩, z⟩
 ·refine ⟨its.toList, r, ⟨o, n, I.kIn a o hk, hc, hd, by simpa using hs⟩, ?_⟩
  have e := r.length
  simp only [Array.length_toList] at e
  omega
theorem Inv.tuple (I : Inv X pins σ H s) (h : SqT X.K H a xs) : ∃ its : List Value, Vals xs its ∧ IsTup s.heap a its.toArray ∧ xs.length ≤ sizeLine := by
 rcases h with h | ⟨o, its, n, hk, hc, hs, hz, r⟩
 ·obtain ⟨z, its, r, p⟩ := h.ok I.hok
  exact ⟨its, r, p, z⟩
 ·refine ⟨its.toList, r, ⟨o, I.kIn a o hk, hc, n, by simpa using hs⟩, ?_⟩
  have e := r.length
  simp only [Array.length_toList] at e
  omega
theorem Inv.list_inj (I : Inv X pins σ H s) (h : SqL X.K H a xs) (h' : SqL X.K H a ys) : xs = ys := by
 obtain ⟨its, r, ⟨o, n, e, _, _, d⟩, _⟩ := I.list h
 obtain ⟨its', r', ⟨o', n', e', _, _, d'⟩, _⟩ := I.list h'
 rw [e] at e'; cases e'
 rw [d] at d'
 injection d' with d1 _
 have : its = its' := by simpa using congrArg Array.toList d1
 subst this
 exact r.inj r'
theorem Inv.tuple_inj (I : Inv X pins σ H s) (h : SqT X.K H a xs) (h' : SqT X.K H a ys) : xs = ys := by
 obtain ⟨its, r, ⟨o, e, _, n, d⟩, _⟩ := I.tuple h
 obtain ⟨its', r', ⟨o', e', _, n', d'⟩, _⟩ := I.tuple h'
 rw [e] at e'; cases e'
 rw [d] at d'
 injection d' with d1 _
 have : its = its' := by simpa using congrArg Array.toList d1
 subst this
 exact r.inj r'
end
abbrev Cx.wish (X : Cx) (E : Value → Shared → Prop) : Cx := { X with xe := E }
abbrev Cx.nox (X : Cx) : Cx := X.wish fun _ _ => False
theorem Cx.Ok.wish {X : Cx} (ok : X.Ok) (E : Value → Shared → Prop) : (X.wish E).Ok :=
 ⟨ok.mod, ok.kind, ok.glob, ok.blt, ok.above, ok.inj, ok.has, ok.cab, ok.hd, ok.frames, ok.stk, ok.exf, ok.bs, ok.bsz, ok.noex, ok.exfs, ok.funs, ok.frf⟩
theorem Cx.Ok.unwish {X : Cx} {E : Value → Shared → Prop} (ok : (X.wish E).Ok) : X.Ok :=
 ⟨ok.mod, ok.kind, ok.glob, ok.blt, ok.above, ok.inj, ok.has, ok.cab, ok.hd, ok.frames, ok.stk, ok.exf, ok.bs, ok.bsz, ok.noex, ok.exfs, ok.funs, ok.frf⟩
section
variable {X : Cx} {pins : List (Addr × Obj)} {σ : St} {H : Hp} {s : Shared} {E : Value → Shared → Prop}
theorem Inv.wish (I : Inv X pins σ H s) (E : Value → Shared → Prop) : Inv (X.wish E) pins σ H s := ⟨I.ok.wish E, I.os, I.bare, I.base, I.loc, I.cell, I.free, I.freeC, I.pin, I.hok, I.len⟩
theorem Inv.unwish (I : Inv (X.wish E) pins σ H s) : Inv X pins σ H s := ⟨I.ok.unwish, I.os, I.bare, I.base, I.loc, I.cell, I.free, I.freeC, I.pin, I.hok, I.len⟩
theorem SP.unwish {D : zjg} {f : Flow} {s' : Shared} (h : SP (X.wish E) pins D f s') : SP X pins D f s' := by
 cases f with
 | next => obtain ⟨σ', H', I, q⟩ := h; exact ⟨σ', H', I.unwish, q⟩
 | brk => obtain ⟨σ', H', I, q⟩ := h; exact ⟨σ', H', I.unwish, q⟩
 | cont => obtain ⟨σ', H', I, q⟩ := h; exact ⟨σ', H', I.unwish, q⟩
 | ret u => obtain ⟨v, σ', H', I, r, q⟩ := h; exact ⟨v, σ', H', I.unwish, r, q⟩
theorem PSs.nox {st : List Stmt} {t : TS} (h : PSs X.nox st t) : PSs X st t := fun pins s σ H D I hw =>
 wpAny_mono (h pins s σ H D (I.wish _) hw) (fun _ _ q => q.unwish) fun _ _ z => False.elim z
end
section
variable {X : Cx} {st : Stmt} {rest : List Stmt} {t u : TS} {e : Expr} {te : TE} {pos : Pos}
def zu9 : TS := fun D σ H => D.nx σ H
def zvp (t u : TS) : TS := fun D σ H => t { D with nx := u D } σ H
theorem zau : PSs X [] zu9 := fun _ _ σ H _ I h => wpAny_execs_nil ⟨σ, H, I, h⟩
theorem zaf (h1 : PS X st t) (h2 : PSs X rest u) : PSs X (st :: rest) (zvp t u) := by
 intro pins s σ H D I h
 refine wpAny_execs_cons (thn (h1 pins s σ H { D with nx := u D } I h) fun f s1 q => ?_)
 cases f with
 | next =>
  obtain ⟨σ', H', I', q⟩ := q
  exact h2 pins s1 σ' H' D I' q
 | ret v => exact q
 | brk => exact q
 | cont => exact q
theorem zai (h1 : PS X st t) : PSs X [st] t := by
 intro pins s σ H D I h
 refine wpAny_execs_cons (thn (h1 pins s σ H D I h) fun f s1 q => ?_)
 cases f with
 | next => exact wpAny_execs_nil q
 | ret v => exact q
 | brk => exact q
 | cont => exact q
theorem Inv.quiet {pins : List (Addr × Obj)} {σ : St} {H : Hp} {s : Shared} (I : Inv X pins σ H s) : interactive X.env = false := by simp [interactive, I.ok.kind]
def zuu (te : TE) : TS := fun D σ H => te σ H fun _ H1 => D.nx σ H1
theorem zeg (he : PE X e te) (hs : swapsWith e none pos.line X.env = pure false := by rfl) : PS X (.Expr e pos) (zuu te) := by
 intro pins s σ H D I h
 exact wpAny_Expr_any (thn (he pins s σ H _ I h) fun v s1 ⟨x, H1, I1, r1, q1⟩ => ⟨σ, H1, I1, q1⟩) I.quiet hs
def zvy (te : TE) : TS := fun D σ H => te σ H D.rt
theorem zam (he : PE X e te) : PS X (.Return (some e) pos) (zvy te) := by
 intro pins s σ H D I h
 exact wpAny_Return_some (thn (he pins s σ H _ I h) fun v s1 ⟨x, H1, I1, r1, q1⟩ => ⟨x, σ, H1, I1, r1, q1⟩)
def zwe (c : TT) (t u : TS) : TS := fun D σ H => c σ H fun b H1 => if b = true then t D σ H1 else u D σ H1
theorem za9 {c : Expr} {a b : List Stmt} {tc : TT} (hc : PT X c tc) (ha : PSs X a t) (hb : PSs X b u) : PS X (.If c a b pos) (zwe tc t u) := by
 intro pins s σ H D I h
 refine wpAny_If (thn (hc pins s σ H _ I h) fun d s1 ⟨H1, I1, q1⟩ => ?_)
 cases d with
 | true => exact ha pins s1 σ H1 D I1 q1
 | false => exact hb pins s1 σ H1 D I1 q1
def zk6 : TS := fun _ _ _ => False
theorem zi0 : PS X st zk6 := fun _ _ _ _ _ _ h => h.elim
theorem zel {sts : List Stmt} : PSs X sts zk6 := fun _ _ _ _ _ _ h => h.elim
end
abbrev TG := V → St → Hp → (St → Hp → Prop) → Prop
abbrev TGs := List V → St → Hp → (St → Hp → Prop) → Prop
def PG (X : Cx) (target : Expr) (t : TG) : Prop :=
 ∀ (pins : List (Addr × Obj)) (s : Shared) (σ : St) (H : Hp) (v : V) (u : Value) (Q : St → Hp → Prop), Inv X pins σ H s → RelV v u → t v σ H Q →
  wpAny (model X.prog X.w) X.A (assign target X.env u) (fun _ s' => ∃ σ' H', Inv X pins σ' H' s' ∧ Q σ' H') X.xe s
def PGs (X : Cx) (ts : List Expr) (t : TGs) : Prop :=
 ∀ (pins : List (Addr × Obj)) (s : Shared) (σ : St) (H : Hp) (vs : List V) (us : List Value) (Q : St → Hp → Prop), Inv X pins σ H s → Vals vs us → t vs σ H Q →
  wpAny (model X.prog X.w) X.A (assignInOrder ((assignEach ts X.env).map (·.2)) us) (fun _ s' => ∃ σ' H', Inv X pins σ' H' s' ∧ Q σ' H') X.xe s
abbrev zuf := V → V → V → Hp → (Hp → Prop) → Prop
def zvg (X : Cx) (t : zuf) : Prop :=
 ∀ (pins : List (Addr × Obj)) (s : Shared) (σ : St) (H : Hp) (o i v : V) (ov iv u : Value) (Q : Hp → Prop), Inv X pins σ H s → RelV o ov → RelV i iv → RelV v u → t o i v H Q →
  wpAny (model X.prog X.w) X.A (setItem ov iv u) (fun _ s' => ∃ H', Inv X pins σ H' s' ∧ Q H') X.xe s
section
variable {X : Cx} {pos : Pos}
def zo0 (i : Nat) : TG := fun v σ H Q => Q (σ.set i (some v)) H
theorem za3 {i : Nat} {x : Str} (hN : X.N.Nodup) (hi : X.N[i]? = some x) (hx : Loc X.env.scope x) (hf : X.fn x = true ∨ X.env.scope.names.lookup x = some .local := by first | exact .inl rfl | exact .inr rfl | assumption) : PG X (.Name x pos) (zo0 i) := by
 intro pins s σ H v u Q I r h
 exact wpAny_assign_Name (zmz I hN hi hx r (fun s' I' => ⟨_, H, I', h⟩) hf)
def zv7 : TGs := fun vs σ H Q => vs = [] ∧ Q σ H
def zvf (t : TG) (u : TGs) : TGs := fun vs σ H Q => ∃ v r, vs = v :: r ∧ t v σ H fun σ' H' => u r σ' H' Q
theorem zdp : PGs X [] zv7 := by
 intro pins s σ H vs us Q I r h
 obtain ⟨e, h⟩ := h
 subst e
 cases r
 exact assignInOrder_nil ⟨σ, H, I, h⟩
theorem zbe {e : Expr} {es : List Expr} {t : TG} {u : TGs} (h1 : PG X e t) (h2 : PGs X es u)
  (hs : (assignEach (e :: es) X.env).map (·.2) = assign e X.env :: (assignEach es X.env).map (·.2) := by rfl) : PGs X (e :: es) (zvf t u) := by
 intro pins s σ H vs us Q I r h
 obtain ⟨v, vr, e1, h⟩ := h
 subst e1
 cases r with
 | cons r rr =>
  rw [hs]
  refine assignInOrder_cons (thn (h1 pins s σ H _ _ _ I r h) fun _ s1 ⟨σ1, H1, I1, q1⟩ => ?_)
  exact h2 pins s1 σ1 H1 _ _ Q I1 rr q1
def zu1 (K : PySem.W.Frag) (n : Nat) (t : TGs) : TG := fun v σ H Q => ∃ a xs, v = .ref a ∧ SqT K H a xs ∧ xs.length = n ∧ t xs σ H Q
theorem zt3 {es : List Expr} {k : Nat} {t : TGs} {n : Nat} (hc : X.calm = true) (h : PGs X es t)
  (hn : (assignEach es X.env).length = n := by rfl) (hst : (assignEach es X.env).findIdx? (·.1) = none := by rfl) : PG X (.Tuple es k pos) (zu1 X.K n t) := by
 intro pins s σ H v u Q I r hw
 obtain ⟨a, xs, e1, hq, hl, hw⟩ := hw
 subst e1
 cases r
 obtain ⟨its, rv, ht, hz⟩ := I.tuple hq
 refine assign_Tuple_tuple (I.ok.hd hc) ht (by simp [hn, ← hl, rv.length]) hst fun h' hx => ?_
 have I1 : Inv X pins σ H { s with heap := h' } := I.kept (t' := s.toks) fun b o e => hx b o (Nat.ne_of_lt (Heap.lt_size e)) e
 exact h pins _ σ H xs _ Q I1 (by simpa using rv) hw
def zvv (to ti : TE) (t : zuf) : TG := fun v σ H Q => to σ H fun o H1 => ti σ H1 fun i H2 => t o i v H2 fun H3 => Q σ H3
theorem zt8 {o i : Expr} {to ti : TE} {t : zuf} (ho : PE X o to) (hi : PE X i ti) (hs : zvg X t)
  (ha : ∀ v, assign (.Subscript o i pos) X.env v = (do
   let ov ← holding [v] (eval o X.env)
   let iv ← holding [v, ov] (eval i X.env)
   standAt pos
   holding [v, ov, iv] (setItem ov iv v)
   release [v, ov, iv] []) := by intro _; rfl) : PG X (.Subscript o i pos) (zvv to ti t) := by
 intro pins s σ H v u Q I r h
 rw [ha]
 refine wpAny_bind (wpAny_holding (thn (ho pins s σ H _ I h) fun ov s1 ⟨x, H1, I1, r1, q1⟩ => ?_))
 refine wpAny_bind (wpAny_holding (thn (hi pins s1 σ H1 _ I1 q1) fun iv s2 ⟨y, H2, I2, r2, q2⟩ => ?_))
 refine wpAny_bind (wpAny_standAt (wpAny_bind (wpAny_holding (thn (hs pins s2 σ H2 x y v ov iv u _ I2 r1 r2 r q2) fun _ s3 ⟨H3, I3, q3⟩ => ?_))))
 exact wpAny_release ⟨σ, H3, I3, q3⟩
def zt5 (te : TE) (g : TG) : TS := fun D σ H => te σ H fun x H1 => g x σ H1 D.nx
theorem zi8 {tg e : Expr} {te : TE} {g : TG} (he : PE X e te) (hg : PG X tg g) (hs : swapsWithSole [tg] e pos.line X.env = pure false := by rfl) (hw : swappedStores [tg] e X.env = pure none := by rfl)
  (h1 : (assignEach [tg] X.env).map (·.2) = [assign tg X.env] := by rfl) : PS X (.Assign [tg] e pos) (zt5 te g) := by
 intro pins s σ H D I h
 refine wpAny_Assign_stores (thn (he pins s σ H _ I h) fun v s1 ⟨x, H1, I1, r1, q1⟩ => ?_) hs hw
 rw [h1]
 exact thn (hg pins s1 σ H1 x v _ I1 r1 q1) fun _ s2 q => q
theorem zax {i : Nat} {x : Str} {e : Expr} {te : TE} {pos' : Pos} (hN : X.N.Nodup) (hi : X.N[i]? = some x) (hx : Loc X.env.scope x) (he : PE X e te) (hs : swapsWith e (some (.Name x pos')) pos.line X.env = pure false := by rfl) (hf : X.fn x = true ∨ X.env.scope.names.lookup x = some .local := by first | exact .inl rfl | exact .inr rfl | assumption) :
  PS X (.Assign [.Name x pos'] e pos) (zt5 te (zo0 i)) := by
 intro pins s σ H D I h
 refine wpAny_Assign_Name (thn (he pins s σ H _ I h) fun v s1 ⟨y, H1, I1, r1, q1⟩ => ?_) hs
 exact zmz I1 hN hi hx r1 (fun s2 I2 => ⟨_, H1, I2, q1⟩) hf
end
section
variable {X : Cx} {pos : Pos}
end
structure It where
 go : Nat → Hp → Prop
 yld : Nat → Hp → V → Hp → Prop
 stop : Nat → Hp → Prop
def zj1 (X : Cx) (pins : List (Addr × Obj)) (H : Hp) (b : Addr) : Prop :=
 H b = none ∧ b ≠ X.env.locals ∧ b ∉ X.fs ∧ (b ∈ X.ex ∨ X.s₀.heap.objs.size ≤ b) ∧ (∀ x c, X.env.cells.lookup x = some c → c ≠ b) ∧ ∀ p ∈ X.pn ++ pins, p.1 ≠ b
theorem Inv.fpOk {X : Cx} {pins : List (Addr × Obj)} {σ : St} {H H' : Hp} {s : Shared} {b : Addr} (I : Inv X pins σ H s) (hb : s.heap.objs.size ≤ b) (hn : H' b = none) : zj1 X pins H' b := by
 refine ⟨hn, Nat.ne_of_gt (Nat.lt_of_lt_of_le I.lt hb), I.nofs hb, .inr (Nat.le_trans I.sz hb), fun x c e z => ?_, fun p hp z => ?_⟩
 ·obtain ⟨v, q⟩ := I.cell x c e
  exact absurd (Nat.lt_of_lt_of_le q.lt (by rw [z]; exact hb)) (Nat.lt_irrefl _)
 ·exact absurd (Nat.lt_of_lt_of_le (Heap.lt_size (I.pin p hp).1) (by rw [z]; exact hb)) (Nat.lt_irrefl _)
structure zsk (P : Program) (w : World) (K : PySem.W.Frag) (tg : Expr) (J : It) (fp : List Addr) (it : Addr) (tn : Nat → Heap → Prop) : Prop where
 mem : it ∈ fp
 obj : ∀ i h, tn i h → ∀ b ∈ fp, ∃ o, h.get? b = some o ∧ ∀ v, o.data ≠ .cell v
 keep : ∀ i h h', tn i h → (∀ b ∈ fp, ∀ o, h.get? b = some o → h'.get? b = some o) → tn i h'
 item : ∀ (X : Cx), X.prog = P → X.w = w → X.K = K → X.calm = true → ∀ (i : Nat) (pins : List (Addr × Obj)) (s : Shared) (σ : St) (H : Hp) (E : Value → Shared → Prop), Inv X pins σ H s → (∀ b ∈ fp, zj1 X pins H b) → tn i s.heap → J.go i H →
  wpAny (model P w) X.A (pyNext (.ref it)) (fun r s1 => ∃ u, r = some u ∧
   wpAny (model P w) X.A (letOwnedTupleGo tg (.ref it) u) (fun _ s2 => ∃ x H', Inv X pins σ H' s2 ∧ RelV x u ∧ J.yld i H x H' ∧ tn (i + 1) s2.heap ∧ ∀ b ∈ fp, H' b = none) E s1) E s
 done : ∀ (X : Cx), X.prog = P → X.w = w → X.K = K → X.calm = true → ∀ (i : Nat) (pins : List (Addr × Obj)) (s : Shared) (σ : St) (H : Hp) (E : Value → Shared → Prop), Inv X pins σ H s → (∀ b ∈ fp, zj1 X pins H b) → tn i s.heap → J.stop i H →
  wpAny (model P w) X.A (pyNext (.ref it)) (fun r s1 => r = none ∧ Inv X pins σ H s1) E s
 self : ∀ (A : Around) (i : Nat) (s : Shared) (Q : Value → Shared → Prop) (E : Value → Shared → Prop), tn i s.heap → Q (.ref it) s → wpAny (model P w) A (pyIter (.ref it)) Q E s
abbrev TI := St → Hp → (It → Hp → Prop) → Prop
def PIE (X : Cx) (pins : List (Addr × Obj)) (σ : St) (tg : Expr) (R : It → Hp → Prop) (itv : Value) (s2 : Shared) : Prop :=
 ∃ (it : Addr) (fp : List Addr) (tn : Nat → Heap → Prop) (J : It) (H' : Hp), itv = .ref it ∧ Inv X pins σ H' s2 ∧ zsk X.prog X.w X.K tg J fp it tn ∧ tn 0 s2.heap ∧ (∀ b ∈ fp, zj1 X pins H' b) ∧ R J H'
def PI (X : Cx) (tg iter : Expr) (wi : TI) : Prop :=
 ∀ (pins : List (Addr × Obj)) (s : Shared) (σ : St) (H : Hp) (R : It → Hp → Prop), Inv X pins σ H s → wi σ H R →
  wpAny (model X.prog X.w) X.A (eval iter X.env) (fun v s1 => wpAny (model X.prog X.w) X.A (pyIter v) (PIE X pins σ tg R) X.xe s1) X.xe s
theorem zqh {M : Model} {A : Around} {E : Value → Shared → Prop} {s : Shared} {tg : Expr} {it : Addr} {u : Value} {o : Obj} {n : String} {vs : Array Value} {Q : Unit → Shared → Prop} (ho : s.heap.get? it = some o) (hc : o.cls = .type n) (hd : o.data = .fields vs)
    (hn : ["enumerate", "zip", "dict_itemiterator", "dict_reverseitemiterator", "odict_iterator", "itertools.zip_longest", "itertools.pairwise"].contains n = false) (hQ : Q () s) : wpAny M A (letOwnedTupleGo tg (.ref it) u) Q E s := by
  unfold letOwnedTupleGo
  cases tg <;> first
    | exact wpAny_pure hQ
    | (cases u <;> first
        | exact wpAny_pure hQ
        | (refine wpAny_bind (wpAny_load ho ?_)
           rw [hc, hd]
           show wpAny M A (if (["enumerate", "zip", "dict_itemiterator", "dict_reverseitemiterator", "odict_iterator", "itertools.zip_longest", "itertools.pairwise"].contains n && vs[0]? == some (rawInt _)) = true then _ else _) Q E s
           rw [if_neg (by intro h; rw [hn, Bool.false_and] at h; cases h)]
           exact wpAny_pure hQ))
def Itl (K : PySem.W.Frag) (a : Addr) : It :=
 ⟨fun i H => ∃ xs x, SqL K H a xs ∧ xs[i]? = some x, fun i H x H' => H' = H ∧ ∀ xs, SqL K H a xs → xs[i]? = some x, fun i H => ∃ xs, SqL K H a xs ∧ xs.length ≤ i⟩
def Itt (K : PySem.W.Frag) (a : Addr) : It :=
 ⟨fun i H => ∃ xs x, SqT K H a xs ∧ xs[i]? = some x, fun i H x H' => H' = H ∧ ∀ xs, SqT K H a xs → xs[i]? = some x, fun i H => ∃ xs, SqT K H a xs ∧ xs.length ≤ i⟩
def Itr (lo : Int) (n : Nat) : It := ⟨fun i _ => i < n, fun i H x H' => H' = H ∧ x = .int (lo + i), fun i _ => n ≤ i⟩
theorem zpa {P : Program} {w : World} {K : PySem.W.Frag} {tg : Expr} (a it : Addr) : zsk P w K tg (Itl K a) [it] it (fun i h => h.IsListIter it a i) where
 mem := by simp
 obj := fun i h st b hb => by
  have e : b = it := by simpa using hb
  subst e
  obtain ⟨o, e, c, d⟩ := st
  exact ⟨o, e, fun v z => by rw [d] at z; cases z⟩
 keep := fun i h h' st k => st.at fun o e => k it (by simp) o e
 item := by
  intro X hP hw hK hc i pins s σ H E I hf st hg
  subst hP hw hK
  obtain ⟨xs, x, hq, hx⟩ := hg
  obtain ⟨its, rv, p, hz⟩ := I.list hq
  obtain ⟨u, hu, ru⟩ := rv.get hx
  obtain ⟨f0, f1, f2, f3, f4, f5⟩ := hf it (by simp)
  refine wpAny_pyNext_list_item st p.isList (x := u) (by simpa using hu) fun h' st' sb => ?_
  have I1 : Inv X pins σ H { s with heap := h' } := I.turned (t' := s.toks) (fun b o hb e => (sb.2 b hb).trans e) f0 f1 f3 f4 f5
  obtain ⟨o, e, c, d⟩ := id st'
  exact ⟨u, rfl, zqh (s := { s with heap := h' }) e c d (by decide) ⟨x, H, I1, ru, ⟨rfl, fun ys hy => by rw [I.list_inj hy hq]; exact hx⟩, st', fun b hb => (hf b hb).1⟩⟩
 done := by
  intro X hP hw hK hc i pins s σ H E I hf st hg
  subst hP hw hK
  obtain ⟨xs, hq, hx⟩ := hg
  obtain ⟨its, rv, p, hz⟩ := I.list hq
  obtain ⟨f0, f1, f2, f3, f4, f5⟩ := hf it (by simp)
  have hl := rv.length
  exact wpAny_pyNext_list_end (I.ok.hd hc) st p.isList (by simp; omega) fun h' eb => ⟨rfl, I.turned (t' := s.toks) (fun b o hb e => eb b o hb e) f0 f1 f3 f4 f5⟩
 self := fun _ _ _ _ _ st h => wpAny_pyIter_listiter st h
theorem znx {P : Program} {w : World} {K : PySem.W.Frag} {tg : Expr} (a it : Addr) : zsk P w K tg (Itt K a) [it] it (fun i h => h.IsTupleIter it a i) where
 mem := by simp
 obj := fun i h st b hb => by
  have e : b = it := by simpa using hb
  subst e
  obtain ⟨o, e, c, d⟩ := st
  exact ⟨o, e, fun v z => by rw [d] at z; cases z⟩
 keep := fun i h h' st k => st.at fun o e => k it (by simp) o e
 item := by
  intro X hP hw hK hc i pins s σ H E I hf st hg
  subst hP hw hK
  obtain ⟨xs, x, hq, hx⟩ := hg
  obtain ⟨its, rv, p, hz⟩ := I.tuple hq
  obtain ⟨u, hu, ru⟩ := rv.get hx
  obtain ⟨f0, f1, f2, f3, f4, f5⟩ := hf it (by simp)
  refine wpAny_pyNext_tuple_item st (show s.heap.IsTuple a its.toArray from p) (x := u) (by simpa using hu) fun h' st' sb => ?_
  have I1 : Inv X pins σ H { s with heap := h' } := I.turned (t' := s.toks) (fun b o hb e => (sb.2 b hb).trans e) f0 f1 f3 f4 f5
  obtain ⟨o, e, c, d⟩ := id st'
  exact ⟨u, rfl, zqh (s := { s with heap := h' }) e c d (by decide) ⟨x, H, I1, ru, ⟨rfl, fun ys hy => by rw [I.tuple_inj hy hq]; exact hx⟩, st', fun b hb => (hf b hb).1⟩⟩
 done := by
  intro X hP hw hK hc i pins s σ H E I hf st hg
  subst hP hw hK
  obtain ⟨xs, hq, hx⟩ := hg
  obtain ⟨its, rv, p, hz⟩ := I.tuple hq
  obtain ⟨f0, f1, f2, f3, f4, f5⟩ := hf it (by simp)
  have hl := rv.length
  exact wpAny_pyNext_tuple_end (I.ok.hd hc) st (show s.heap.IsTuple a its.toArray from p) (by simp; omega) fun h' eb => ⟨rfl, I.turned (t' := s.toks) (fun b o hb e => eb b o hb e) f0 f1 f3 f4 f5⟩
 self := fun _ _ _ _ _ st h => wpAny_pyIter_tupleiter st h
theorem zn9 {P : Program} {w : World} {K : PySem.W.Frag} {tg : Expr} (it : Addr) (lo : Int) (n : Nat) : zsk P w K tg (Itr lo n) [it] it (fun i h => IsRangeIter h it (lo + (i : Nat) * 1) ((n : Int) - (i : Nat)) 1) where
 mem := by simp
 obj := fun i h st b hb => by
  have e : b = it := by simpa using hb
  subst e
  exact ⟨_, st, fun v z => by
   have z' : Data.fields _ = Data.cell v := z
   cases z'⟩
 keep := fun i h h' st k => k it (by simp) _ st
 item := by
  intro X hP hw hK hc i pins s σ H E I hf st hg
  subst hP hw hK
  obtain ⟨f0, f1, f2, f3, f4, f5⟩ := hf it (by simp)
  have W := Walks.range (prog := X.prog) (w := X.w) (I.ok.hd hc) it lo 1 n
  refine W.item i s _ _ hg st fun v h' tk hv st' kk => ?_
  obtain ⟨t, rfl⟩ := hv
  have I1 : Inv X pins σ H { s with heap := h', toks := tk } := I.turned (fun b o hb e => kk b o (by simpa using hb) e) f0 f1 f3 f4 f5
  refine ⟨_, rfl, zqh (s := { s with heap := h', toks := tk }) (n := "range_iterator") st' rfl rfl (by decide) ⟨.int (lo + i), H, I1, ⟨t, ?_⟩, ⟨rfl, rfl⟩, st', fun b hb => (hf b hb).1⟩⟩
  rw [Int.mul_one]
 done := by
  intro X hP hw hK hc i pins s σ H E I hf st hg
  subst hP hw hK
  obtain ⟨f0, f1, f2, f3, f4, f5⟩ := hf it (by simp)
  exact wpAny_pyNext_range_end (I.ok.hd hc) st (by have : n ≤ i := hg; omega) fun h' eb => ⟨rfl, I.turned (t' := s.toks) (fun b o hb e => eb b o hb e) f0 f1 f3 f4 f5⟩
 self := fun _ _ _ _ _ st h => wpAny_pyIter_rangeiter st h
end L2
namespace L2
open PySem PySem.Spec PyProof.Rows
section
variable {X : Cx} {tg : Expr}
def ztg (K : PySem.W.Frag) (tl : TE) : TI := fun σ H R => tl σ H fun x H1 => ∃ a, x = .ref a ∧ (∃ xs, SqL K H1 a xs) ∧ R (Itl K a) H1
def zu0 (K : PySem.W.Frag) (tl : TE) : TI := fun σ H R => tl σ H fun x H1 => ∃ a, x = .ref a ∧ (∃ xs, SqT K H1 a xs) ∧ R (Itt K a) H1
theorem ztf {l : Expr} {tl : TE} (hl : PE X l tl) : PI X tg l (ztg X.K tl) := by
 intro pins s σ H R I h
 refine thn (hl pins s σ H _ I h) fun v s1 ⟨x, H1, I1, r1, q1⟩ => ?_
 obtain ⟨a, e, ⟨xs, hq⟩, q⟩ := q1
 subst e
 cases r1
 obtain ⟨its, rv, p, hz⟩ := I1.list hq
 refine wpAny_pyIter_list p.isList ?_
 refine ⟨s1.heap.objs.size, [s1.heap.objs.size], _, _, H1, rfl, I1.kept (t' := s1.toks) fun b o e => Heap.get?_push_of_some _ e, zpa a _, ⟨_, Heap.get?_push_size _ rfl, rfl, rfl⟩, fun b hb => ?_, q⟩
 have e : b = s1.heap.objs.size := by simpa using hb
 subst e
 exact I1.fpOk (Nat.le_refl _) (I1.hok.fresh (Nat.le_refl _))
theorem zuj {l : Expr} {tl : TE} (hl : PE X l tl) : PI X tg l (zu0 X.K tl) := by
 intro pins s σ H R I h
 refine thn (hl pins s σ H _ I h) fun v s1 ⟨x, H1, I1, r1, q1⟩ => ?_
 obtain ⟨a, e, ⟨xs, hq⟩, q⟩ := q1
 subst e
 cases r1
 obtain ⟨its, rv, p, hz⟩ := I1.tuple hq
 refine wpAny_pyIter_tuple (show s1.heap.IsTuple a its.toArray from p) ?_
 refine ⟨s1.heap.objs.size, [s1.heap.objs.size], _, _, H1, rfl, I1.kept (t' := s1.toks) fun b o e => Heap.get?_push_of_some _ e, znx a _, ⟨_, Heap.get?_push_size _ rfl, rfl, rfl⟩, fun b hb => ?_, q⟩
 have e : b = s1.heap.objs.size := by simpa using hb
 subst e
 exact I1.fpOk (Nat.le_refl _) (I1.hok.fresh (Nat.le_refl _))
theorem zmp {pins : List (Addr × Obj)} {σ : St} {H : Hp} {s : Shared} {R : It → Hp → Prop} {E : Value → Shared → Prop} {lo hi : Int} {t u v : Tok} {tk : Nat} (I : Inv X pins σ H s) (h1 : -(2 ^ 62) ≤ lo) (h2 : lo < 2 ^ 62) (h3 : -(2 ^ 62) ≤ hi) (h4 : hi < 2 ^ 62)
  (q : R (Itr lo (hi - lo).toNat) H) : wpAny (model X.prog X.w) X.A (pyIter (.ref s.heap.objs.size)) (PIE X pins σ tg R) E { s with heap := s.heap.push { cls := .type "range", data := .fields #[.int lo t, .int hi u, .int 1 v] }, toks := tk } := by
 refine wpAny_pyIter_range (IsRange.new ..) (small_one h1 h2 h3 h4) ?_
 have I1 : Inv X pins σ H { s with heap := s.heap.push { cls := .type "range", data := .fields #[.int lo t, .int hi u, .int 1 v] }, toks := tk } := I.kept fun b o e => Heap.get?_push_of_some _ e
 refine ⟨(s.heap.push { cls := .type "range", data := .fields #[.int lo t, .int hi u, .int 1 v] }).objs.size, [(s.heap.push { cls := .type "range", data := .fields #[.int lo t, .int hi u, .int 1 v] }).objs.size], _, _, H, rfl,
  I1.kept (t' := tk) fun b o e => Heap.get?_push_of_some _ e, zn9 _ lo (hi - lo).toNat, ?_, fun b hb => ?_, q⟩
 ·have e1 : lo + ((0 : Nat) : Int) * 1 = lo := by simp
  have e2 : (((hi - lo).toNat : Nat) : Int) - ((0 : Nat) : Int) = Builtin.Range.rangeSize lo hi 1 := by rw [rangeSize_one]; split <;> omega
  show IsRangeIter _ _ (lo + ((0 : Nat) : Int) * 1) ((((hi - lo).toNat : Nat) : Int) - ((0 : Nat) : Int)) 1
  rw [e1, e2]
  exact Heap.get?_push_size _ rfl
 ·have e : b = (s.heap.push { cls := .type "range", data := .fields #[.int lo t, .int hi u, .int 1 v] }).objs.size := by simpa using hb
  subst e
  exact I1.fpOk (Nat.le_refl _) (I1.hok.fresh (Nat.le_refl _))
def zu8 (ta : TA) : TI := fun σ H R => ta σ H fun vs H1 => ∃ j : Int, vs = [.int j] ∧ -(2 ^ 62) ≤ j ∧ j < 2 ^ 62 ∧ R (Itr 0 j.toNat) H1
def zuq (ta : TA) : TI := fun σ H R => ta σ H fun vs H1 => ∃ i j : Int, vs = [.int i, .int j] ∧ (-(2 ^ 62) ≤ i ∧ i < 2 ^ 62 ∧ -(2 ^ 62) ≤ j ∧ j < 2 ^ 62) ∧ R (Itr i (j - i).toNat) H1
theorem zhi {a : Expr} {ta : TA} {p pos : Pos} (hg : Gl X "range") (hm : X.mg "range" = none) (ha : PA X [a] ta) (hs : starEach [a] X.env = [(false, eval a X.env)] := by rfl) : PI X tg (.Call (.Name "range" p) [a] [] pos) (zu8 ta) := by
 intro pins s σ H R I h
 refine Call_ (zk4 I hg hm boot_range (PyProof.Rows.callWith_type1 (thn (ha pos pins s σ H _ I h) fun us s1 ⟨vs, H1, I1, r1, q1⟩ => ?_) hs rfl))
 obtain ⟨j, e, q1, q2, q⟩ := q1
 subst e
 cases r1 with
 | cons r rr =>
  cases rr
  obtain ⟨t, rfl⟩ := r
  exact call_range_1 (zmp I1 (by omega) (by omega) q1 q2 (by simpa using q))
theorem zka {a b : Expr} {ta : TA} {p pos : Pos} (hg : Gl X "range") (hm : X.mg "range" = none) (ha : PA X [a, b] ta) (hs : starEach [a, b] X.env = [(false, eval a X.env), (false, eval b X.env)] := by rfl) (hs2 : starEach [b] X.env = [(false, eval b X.env)] := by rfl) :
  PI X tg (.Call (.Name "range" p) [a, b] [] pos) (zuq ta) := by
 intro pins s σ H R I h
 refine Call_ (zk4 I hg hm boot_range (PyProof.Rows.callWith_type1 (thn (ha pos pins s σ H _ I h) fun us s1 ⟨vs, H1, I1, r1, q1⟩ => ?_) (by rw [hs, hs2]) (by rw [hs2]; rfl)))
 obtain ⟨i, j, e, ⟨q1, q2, q3, q4⟩, q⟩ := q1
 subst e
 cases r1 with
 | cons r rr =>
  cases rr with
  | cons r' rr =>
   cases rr
   obtain ⟨t, rfl⟩ := r
   obtain ⟨t', rfl⟩ := r'
   exact call_range_2 (zmp I1 q1 q2 q3 q4 q)
def zv4 (wi : TI) (g : TG) (tb : TS) : TS := fun D σ H => wi σ H fun J H1 => ∃ W : Nat → Nat → St → Hp → Prop, (∃ m, W 0 m σ H1) ∧ ∀ i m σ H, W i m σ H →
 (J.stop i H ∧ D.nx σ H) ∨ (J.go i H ∧ ∃ N : St → Hp → Prop, (∀ σ' H', N σ' H' → ∃ m', m' < m ∧ W (i + 1) m' σ' H') ∧ ∀ x H', J.yld i H x H' → g x σ H' fun σ2 H2 => tb { D with nx := N, ct := N, bk := D.nx } σ2 H2)
def zhl (fp : List Addr) (h : Heap) : List (Addr × Obj) := fp.filterMap fun b => (h.get? b).map fun o => (b, o)
theorem ze2 {fp : List Addr} {h : Heap} {b : Addr} {o : Obj} (hb : b ∈ fp) (e : h.get? b = some o) : (b, o) ∈ zhl fp h := List.mem_filterMap.mpr ⟨b, hb, by rw [e]; rfl⟩
theorem zpj {fp : List Addr} {h : Heap} {p : Addr × Obj} (hp : p ∈ zhl fp h) : p.1 ∈ fp ∧ h.get? p.1 = some p.2 := by
 obtain ⟨b, hb, e⟩ := List.mem_filterMap.mp hp
 cases q : h.get? b with
 | none => rw [q] at e; cases e
 | some o =>
  rw [q] at e
  have e' : (b, o) = p := Option.some.inj e
  subst e'
  exact ⟨hb, q⟩
theorem Inv.pinned {pins : List (Addr × Obj)} {σ : St} {H : Hp} {s : Shared} {fp : List Addr} (I : Inv X pins σ H s) (hf : ∀ b ∈ fp, zj1 X pins H b) (ho : ∀ b ∈ fp, ∃ o, s.heap.get? b = some o ∧ ∀ v, o.data ≠ .cell v) : Inv X (pins ++ zhl fp s.heap) σ H s :=
 I.pins_of fun p hp => (List.mem_append.mp hp).elim (fun z => I.pin p (List.mem_append_right _ z)) fun z => by
  obtain ⟨hb, e⟩ := zpj z
  obtain ⟨f0, f1, f2, _⟩ := hf p.1 hb
  obtain ⟨o, e', d⟩ := ho p.1 hb
  rw [e] at e'; cases e'
  exact ⟨e, f0, f1, f2, d⟩
theorem Inv.unpinned {pins pl : List (Addr × Obj)} {σ : St} {H : Hp} {s : Shared} (I : Inv X (pins ++ pl) σ H s) : Inv X pins σ H s := I.pins_of fun p hp => I.pin p (List.mem_append_right _ (List.mem_append_left _ hp))
theorem zgs {iter : Expr} {body : List Stmt} {wi : TI} {g : TG} {tb : TS} {pos : Pos} (hp : PassesOwn (model X.prog X.w) X.A X.env X.xe) (hc : X.calm = true) (hi : PI X tg iter wi) (hg : PG X tg g) (hb : PSs X body tb)
  (hs : ∀ x, foldedSetIterable iter X.env x = pure x := by intro _; rfl) : PS X (.For tg iter body [] pos) (zv4 wi g tb) := by
 intro pins s σ H D I h
 refine wpAny_For (thn (hi pins s σ H _ I h) fun v s1 h1 => thn h1 fun itv s2 h2 => ?_) hs
 obtain ⟨it, fp, tn, J, H2, e, I2, T, st2, f2, W, ⟨m0, w0⟩, turn⟩ := h2
 subst e
 have stat : ∀ {H' : Hp}, (∀ b ∈ fp, H' b = none) → ∀ b ∈ fp, zj1 X pins H' b := fun hn b hb => ⟨hn b hb, (f2 b hb).2⟩
 refine codeAny_forLoop_any (fun n s' => ∃ i σ' H', Inv X pins σ' H' s' ∧ tn i s'.heap ∧ (∀ b ∈ fp, H' b = none) ∧ W i n σ' H') ?_ m0 ⟨0, σ, H2, I2, st2, fun b hb => (f2 b hb).1, w0⟩
 rintro n s3 ⟨i, σ3, H3, I3, st3, fr3, w3⟩
 rcases turn i n σ3 H3 w3 with ⟨stop, qn⟩ | ⟨go, N, hN, step⟩
 ·refine wpAny_passesOwn hp (thn (T.done X rfl rfl rfl hc i pins s3 σ3 H3 X.xe I3 (stat fr3) st3 stop) fun r s4 ⟨hr, I4⟩ => ?_)
  subst hr
  exact wpAny_execs_nil ⟨σ3, H3, I4, qn⟩
 ·refine wpAny_passesOwn hp (thn (T.item X rfl rfl rfl hc i pins s3 σ3 H3 X.xe I3 (stat fr3) st3 go) fun r s4 ⟨u, hr, h4⟩ => ?_)
  subst hr
  refine wpAny_passesOwn hp (thn h4 fun _ s5 ⟨x, H5, I5, r5, y5, st5, fr5⟩ => ?_)
  have I5' := I5.pinned (stat fr5) (T.obj _ _ st5)
  refine wpAny_passesOwn hp (thn (hg _ s5 σ3 H5 x u _ I5' r5 (step x H5 y5)) fun _ s6 ⟨σ6, H6, I6, q6⟩ => ?_)
  refine wpAny_passesOwn hp (thn (hb _ s6 σ6 H6 _ I6 q6) fun f s7 q7 => ?_)
  have again : ∀ {σ7 : St} {H7 : Hp}, Inv X (pins ++ zhl fp s5.heap) σ7 H7 s7 → N σ7 H7 → ∃ m, m < n ∧ ∃ i σ' H', Inv X pins σ' H' s7 ∧ tn i s7.heap ∧ (∀ b ∈ fp, H' b = none) ∧ W i m σ' H' := fun {σ7 H7} I7 n7 => by
   obtain ⟨m', hm, w7⟩ := hN σ7 H7 n7
   refine ⟨m', hm, i + 1, σ7, H7, I7.unpinned, T.keep _ _ _ st5 fun b hb o e => (I7.pin (b, o) (List.mem_append_right _ (List.mem_append_right _ (ze2 hb e)))).1, fun b hb => ?_, w7⟩
   obtain ⟨o, e, d⟩ := T.obj _ _ st5 b hb
   exact (I7.pin (b, o) (List.mem_append_right _ (List.mem_append_right _ (ze2 hb e)))).2.1
  cases f with
  | next => obtain ⟨σ7, H7, I7, n7⟩ := q7; exact again I7 n7
  | cont => obtain ⟨σ7, H7, I7, n7⟩ := q7; exact again I7 n7
  | brk => obtain ⟨σ7, H7, I7, q7⟩ := q7; exact ⟨σ7, H7, I7.unpinned, q7⟩
  | ret v => obtain ⟨x7, σ7, H7, I7, r7, q7⟩ := q7; exact ⟨x7, σ7, H7, I7.unpinned, r7, q7⟩
end
theorem zgx {K : PySem.W.Frag} {a : Addr} {xs : List V} {g : TG} {tb : TS} {D : zjg} {σ : St} {H : Hp} (Pv : Nat → St → Hp → Prop) (h0 : Pv 0 σ H) (hl : ∀ i σ H, i ≤ xs.length → Pv i σ H → SqL K H a xs)
  (hs : ∀ i x σ H, xs[i]? = some x → Pv i σ H → g x σ H fun σ2 H2 => tb { D with nx := Pv (i + 1), ct := Pv (i + 1), bk := D.nx } σ2 H2) (hd : ∀ σ H, Pv xs.length σ H → D.nx σ H) :
  ∃ W : Nat → Nat → St → Hp → Prop, (∃ m, W 0 m σ H) ∧ ∀ i m σ H, W i m σ H →
   ((Itl K a).stop i H ∧ D.nx σ H) ∨ ((Itl K a).go i H ∧ ∃ N : St → Hp → Prop, (∀ σ' H', N σ' H' → ∃ m', m' < m ∧ W (i + 1) m' σ' H') ∧ ∀ x H', (Itl K a).yld i H x H' → g x σ H' fun σ2 H2 => tb { D with nx := N, ct := N, bk := D.nx } σ2 H2) := by
 refine ⟨fun i m σ H => m = xs.length - i ∧ i ≤ xs.length ∧ Pv i σ H, ⟨xs.length, by simp, Nat.zero_le _, h0⟩, ?_⟩
 rintro i m σ H ⟨rfl, hi, p⟩
 have q := hl i σ H hi p
 by_cases hlt : i < xs.length
 ·refine .inr ⟨⟨xs, xs[i], q, by simp [hlt]⟩, Pv (i + 1), fun σ' H' p' => ⟨xs.length - (i + 1), by omega, rfl, hlt, p'⟩, fun x H' y => ?_⟩
  obtain ⟨e, y⟩ := y
  subst e
  exact hs i x σ _ (y xs q) p
 ·have e : i = xs.length := by omega
  subst e
  exact .inl ⟨⟨xs, q, Nat.le_refl _⟩, hd σ H p⟩
theorem zhm {lo : Int} {n : Nat} {g : TG} {tb : TS} {D : zjg} {σ : St} {H : Hp} (Pv : Nat → St → Hp → Prop) (h0 : Pv 0 σ H)
  (hs : ∀ i σ H, i < n → Pv i σ H → g (.int (lo + i)) σ H fun σ2 H2 => tb { D with nx := Pv (i + 1), ct := Pv (i + 1), bk := D.nx } σ2 H2) (hd : ∀ σ H, Pv n σ H → D.nx σ H) :
  ∃ W : Nat → Nat → St → Hp → Prop, (∃ m, W 0 m σ H) ∧ ∀ i m σ H, W i m σ H →
   ((Itr lo n).stop i H ∧ D.nx σ H) ∨ ((Itr lo n).go i H ∧ ∃ N : St → Hp → Prop, (∀ σ' H', N σ' H' → ∃ m', m' < m ∧ W (i + 1) m' σ' H') ∧ ∀ x H', (Itr lo n).yld i H x H' → g x σ H' fun σ2 H2 => tb { D with nx := N, ct := N, bk := D.nx } σ2 H2) := by
 refine ⟨fun i m σ H => m = n - i ∧ i ≤ n ∧ Pv i σ H, ⟨n, by simp, Nat.zero_le _, h0⟩, ?_⟩
 rintro i m σ H ⟨rfl, hi, p⟩
 by_cases hlt : i < n
 ·refine .inr ⟨hlt, Pv (i + 1), fun σ' H' p' => ⟨n - (i + 1), by omega, rfl, hlt, p'⟩, fun x H' y => ?_⟩
  obtain ⟨e, y⟩ := y
  subst e y
  exact hs i σ _ hlt p
 ·have e : i = n := by omega
  subst e
  exact .inl ⟨Nat.le_refl _, hd σ H p⟩
end L2
namespace L2
open PySem PySem.Spec PyProof.Rows
abbrev R2 := V → V → Hp → VK → Prop
def OpR (X : Cx) (f : Value → Value → Sem Value) (r : R2) : Prop :=
 ∀ (pins : List (Addr × Obj)) (s : Shared) (σ : St) (H : Hp) (x y : V) (v u : Value) (Q : VK), Inv X pins σ H s → RelV x v → RelV y u → r x y H Q →
  wpAny (model X.prog X.w) X.A (f v u) (EP X pins σ Q) X.xe s
def UnR (X : Cx) (f : Value → Sem Value) (r : V → Hp → VK → Prop) : Prop :=
 ∀ (pins : List (Addr × Obj)) (s : Shared) (σ : St) (H : Hp) (x : V) (v : Value) (Q : VK), Inv X pins σ H s → RelV x v → r x H Q →
  wpAny (model X.prog X.w) X.A (f v) (EP X pins σ Q) X.xe s
def zeq (X : Cx) (f : Value) (r : List V → Hp → VK → Prop) : Prop :=
 ∀ (pins : List (Addr × Obj)) (s : Shared) (σ : St) (H : Hp) (xs : List V) (us : List Value) (Q : VK), Inv X pins σ H s → Vals xs us → r xs H Q →
  wpAny (model X.prog X.w) X.A (call f us) (EP X pins σ Q) X.xe s
def tOp (r : R2) (ta tb : TE) : TE := fun σ H Q => ta σ H fun x H1 => tb σ H1 fun y H2 => r x y H2 Q
def tUn (r : V → Hp → VK → Prop) (ta : TE) : TE := fun σ H Q => ta σ H fun x H1 => r x H1 Q
def rI (C : Int → Int → Prop) (g : Int → Int → V) : R2 := fun x y H Q => ∃ i j, x = .int i ∧ y = .int j ∧ C i j ∧ Q (g i j) H
def rI0 (g : Int → Int → V) : R2 := fun x y H Q => ∃ i j, x = .int i ∧ y = .int j ∧ Q (g i j) H
def rU (g : Int → V) : V → Hp → VK → Prop := fun x H Q => ∃ i, x = .int i ∧ Q (g i) H
section
variable {X : Cx} {a b c : Expr} {ta tb tc : TE} {pos : Pos}
theorem zt0 (ha : PE X a ta) (hb : PE X b tb) {pins : List (Addr × Obj)} {s : Shared} {σ : St} {H : Hp} {R : V → V → Hp → Prop} (I : Inv X pins σ H s)
  (h : ta σ H fun x H1 => tb σ H1 fun y H2 => R x y H2) {Q : Value → Shared → Prop} {f : Value → Value → Sem Value}
  (hf : ∀ v u s2 x y H2, Inv X pins σ H2 s2 → RelV x v → RelV y u → R x y H2 → wpAny (model X.prog X.w) X.A (f v u) Q X.xe s2) :
  wpAny (model X.prog X.w) X.A (eval a X.env) (fun v s₁ => wpAny (model X.prog X.w) X.A (eval b X.env) (fun u s₂ => wpAny (model X.prog X.w) X.A (f v u) Q X.xe s₂) X.xe s₁) X.xe s := by
 refine thn (ha pins s σ H _ I h) fun v s1 ⟨x, H1, I1, r1, q1⟩ => ?_
 refine thn (hb pins s1 σ H1 _ I1 q1) fun u s2 ⟨y, H2, I2, r2, q2⟩ => ?_
 exact hf v u s2 x y H2 I2 r1 r2 q2
theorem zaz {op : Operator} {r : R2} (ho : OpR X (binaryOp op) r) (ha : PE X a ta) (hb : PE X b tb) : PE X (.BinOp a op b pos) (tOp r ta tb) := by
 intro pins s σ H Q I h
 exact wpAny_BinOp (zt0 ha hb I h fun v u s2 x y H2 I2 rx ry q => ho pins s2 σ H2 x y v u Q I2 rx ry q)
theorem zo2 {op : UnaryOp} {r : V → Hp → VK → Prop} (ho : UnR X (unaryOp op) r) (ha : PE X a ta) : PE X (.UnaryOp op a pos) (tUn r ta) := by
 intro pins s σ H Q I h
 exact UnaryOp_ (thn (ha pins s σ H _ I h) fun v s1 ⟨x, H1, I1, r1, q1⟩ => ho pins s1 σ H1 x v Q I1 r1 q1)
theorem opI {f : Value → Value → Sem Value} {C : Int → Int → Prop} {g : Int → Int → Int}
  (rule : ∀ (i j : Int) (t u : Tok) (s : Shared) (Q : Value → Shared → Prop) (E : Value → Shared → Prop), C i j → Q (.int (g i j) s.toks) { s with toks := s.toks + 1 } → wpAny (model X.prog X.w) X.A (f (.int i t) (.int j u)) Q E s) :
  OpR X f (rI C fun i j => .int (g i j)) := by
 intro pins s σ H x y v u Q I rx ry h
 obtain ⟨i, j, rfl, rfl, hc, q⟩ := h
 obtain ⟨t, rfl⟩ := rx
 obtain ⟨t', rfl⟩ := ry
 exact rule i j t t' s _ _ hc ⟨.int (g i j), H, I.tok _, ⟨_, rfl⟩, q⟩
theorem ztc {f : Value → Value → Sem Value} {g : Int → Int → Int}
  (rule : ∀ (i j : Int) (t u : Tok) (s : Shared) (Q : Value → Shared → Prop) (E : Value → Shared → Prop), Q (.int (g i j) s.toks) { s with toks := s.toks + 1 } → wpAny (model X.prog X.w) X.A (f (.int i t) (.int j u)) Q E s) :
  OpR X f (rI0 fun i j => .int (g i j)) := by
 intro pins s σ H x y v u Q I rx ry h
 obtain ⟨i, j, rfl, rfl, q⟩ := h
 obtain ⟨t, rfl⟩ := rx
 obtain ⟨t', rfl⟩ := ry
 exact rule i j t t' s _ _ ⟨.int (g i j), H, I.tok _, ⟨_, rfl⟩, q⟩
theorem zsg {f : Value → Value → Sem Value} {g : Int → Int → Bool}
  (rule : ∀ (i j : Int) (t u : Tok) (s : Shared) (Q : Value → Shared → Prop) (E : Value → Shared → Prop), Q (.bool (g i j)) s → wpAny (model X.prog X.w) X.A (f (.int i t) (.int j u)) Q E s) :
  OpR X f (rI0 fun i j => .bl (g i j)) := by
 intro pins s σ H x y v u Q I rx ry h
 obtain ⟨i, j, rfl, rfl, q⟩ := h
 obtain ⟨t, rfl⟩ := rx
 obtain ⟨t', rfl⟩ := ry
 exact rule i j t t' s _ _ ⟨.bl (g i j), H, I, rfl, q⟩
def zv1 (i j : Int) : Prop := 0 < j ∧ j < 1073741824
def zvj (i j : Int) : Prop := 0 ≤ j ∧ j ≤ 1000000 ∧ i.natAbs < 2 ^ 64
def CMul (i j : Int) : Prop := (-(2 ^ 64) < i ∧ i < 2 ^ 64) ∨ (-(2 ^ 64) < j ∧ j < 2 ^ 64)
theorem CMul.ok {i j : Int} (h : CMul i j) : IntMulOk i j := by
 rcases h with ⟨h1, h2⟩ | ⟨h1, h2⟩
 ·exact .of_left (intBits_le_64 h1 h2)
 ·exact .of_right (intBits_le_64 h1 h2)
theorem two_pow_nn (k : Nat) : (0 : Int) ≤ 2 ^ k := by
 rw [two_pow_cast]
 exact Int.natCast_nonneg _
theorem zct : OpR X (binaryOp .Add) (rI0 fun i j => .int (i + j)) := ztc fun _ _ _ _ _ _ _ q => add_int q
theorem zfe : OpR X (binaryOp .Sub) (rI0 fun i j => .int (i - j)) := ztc fun _ _ _ _ _ _ _ q => sub_int q
theorem zej : OpR X (binaryOp .Mult) (rI CMul fun i j => .int (i * j)) := opI fun _ _ _ _ _ _ _ hc q => mul_int q hc.ok
theorem zo5 : OpR X (binaryOp .FloorDiv) (rI zv1 fun i j => .int (i / j)) := opI fun i j _ _ _ _ _ hc q => by
 have h1 : (0 : Int) < j := hc.1
 have h2 : j < 1073741824 := hc.2
 exact floordiv_int (by omega) (by rw [Int.fdiv_eq_ediv_of_nonneg i (by omega)]; exact q) (.inl (PyProof.noPylong_small (by omega)))
theorem zfl : OpR X (binaryOp .Mod) (rI (fun _ j => 0 < j) fun i j => .int (i % j)) := opI fun i j _ _ _ _ _ hc q => by
 have h1 : (0 : Int) < j := hc
 exact mod_int' (by omega) (by rw [Int.fmod_eq_emod_of_nonneg i (by omega)]; exact q)
theorem zui : OpR X (binaryOp .Pow) (rI zvj fun i j => .int (i ^ j.toNat)) := opI fun _ _ _ _ _ _ _ hc q => pow_int_small hc.1 hc.2.1 hc.2.2 q
theorem zuh : OpR X (binaryOp .LShift) (rI zvj fun i j => .int (i * 2 ^ j.toNat)) := opI fun _ _ _ _ _ _ _ hc q => lshift_int_small hc.1 hc.2.1 hc.2.2 q
theorem zp7 : OpR X (binaryOp .RShift) (rI (fun _ j => 0 ≤ j) fun i j => .int (i / 2 ^ j.toNat)) := opI fun i j _ _ _ _ _ hc q =>
 rshift_int hc (by rw [Int.fdiv_eq_ediv_of_nonneg i (two_pow_nn _)]; exact q)
theorem zr2 : OpR X (binaryOp .BitAnd) (rI0 fun i j => .int (Builtin.bitAnd i j)) := ztc fun _ _ _ _ _ _ _ q => and_int q
theorem zti : OpR X (binaryOp .BitOr) (rI0 fun i j => .int (Builtin.bitOr i j)) := ztc fun _ _ _ _ _ _ _ q => or_int q
theorem unI {f : Value → Sem Value} {g : Int → Int}
  (rule : ∀ (i : Int) (t : Tok) (s : Shared) (Q : Value → Shared → Prop) (E : Value → Shared → Prop), Q (.int (g i) s.toks) { s with toks := s.toks + 1 } → wpAny (model X.prog X.w) X.A (f (.int i t)) Q E s) :
  UnR X f (rU fun i => .int (g i)) := by
 intro pins s σ H x v Q I rx h
 obtain ⟨i, rfl, q⟩ := h
 obtain ⟨t, rfl⟩ := rx
 exact rule i t s _ _ ⟨.int (g i), H, I.tok _, ⟨_, rfl⟩, q⟩
theorem zl0 : UnR X (unaryOp .USub) (rU fun i => .int (-i)) := unI fun _ _ _ _ _ q => neg_int q
end
def zus : V → V → Bool
 | .non, .non => true | .non, .int _ => true | .int _, .non => true | .non, .bl _ => true | .bl _, .non => true | .non, .str _ => true | .str _, .non => true
 | .int _, .int _ => true | .bl _, .bl _ => true | .str _, .str _ => true | .byt _, .byt _ => true
 | .int _, .str _ => true | .str _, .int _ => true | .bl _, .str _ => true | .str _, .bl _ => true
 | _, _ => false
def rEq : R2 := fun x y H Q => zus x y = true ∧ Q (.bl (decide (x = y))) H
def rNe : R2 := fun x y H Q => zus x y = true ∧ Q (.bl (!decide (x = y))) H
theorem zfw {i j : Int} : decide (V.int i = V.int j) = (i == j) := by
 rw [Bool.eq_iff_iff]
 simp
theorem zqw {i j : Bool} : decide (V.bl i = V.bl j) = (i == j) := by
 rw [Bool.eq_iff_iff]
 simp
theorem zo9 {i j : Str} : decide (V.str i = V.str j) = (i == j) := by
 rw [Bool.eq_iff_iff]
 simp
theorem zo4 {i j : Array UInt8} : decide (V.byt i = V.byt j) = (i.toList == j.toList) := by
 rw [Bool.eq_iff_iff]
 cases i
 cases j
 simp
section
variable {X : Cx} {a b c : Expr} {ta tb tc : TE} {pos : Pos}
theorem zbj {pins : List (Addr × Obj)} {σ : St} {H : Hp} {s : Shared} {Q : VK} {k k' : Bool} (I : Inv X pins σ H s) (q : Q (.bl k) H) (e : k = k') : EP X pins σ Q (.bool k') s := by
 subst e
 exact ⟨.bl k, H, I, rfl, q⟩
theorem zb4 : OpR X (compareOp .Eq) rEq := by
 intro pins s σ H x y v u Q I rx ry h
 obtain ⟨hs, q⟩ := h
 cases x with
 | non =>
  cases rx
  cases y with
  | non => cases ry; exact PySem.EqNone.eq_none_none (zbj I q (by simp))
  | bl j => cases ry; exact PySem.EqNone.eq_none_bool (zbj I q (by simp))
  | int j => obtain ⟨t', rfl⟩ := ry; exact PySem.EqNone.eq_none_int (zbj I q (by simp))
  | str j => obtain ⟨t', rfl⟩ := ry; exact PySem.EqNone.eq_none_str (zbj I q (by simp))
  | _ => exact absurd (show false = true from hs) Bool.false_ne_true
 | bl i =>
  cases rx
  cases y with
  | non => cases ry; exact PySem.EqNone.eq_bool_none (zbj I q (by simp))
  | bl j => cases ry; exact eq_bool (zbj I q zqw)
  | str j => obtain ⟨t', rfl⟩ := ry; exact PySem.EqMixed.eq_bool_str (zbj I q (by simp))
  | _ => exact absurd (show false = true from hs) Bool.false_ne_true
 | int i =>
  obtain ⟨t, rfl⟩ := rx
  cases y with
  | non => cases ry; exact PySem.EqNone.eq_int_none (zbj I q (by simp))
  | int j => obtain ⟨t', rfl⟩ := ry; exact eq_int (zbj I q zfw)
  | str j => obtain ⟨t', rfl⟩ := ry; exact PySem.EqMixed.eq_int_str (zbj I q (by simp))
  | _ => exact absurd (show false = true from hs) Bool.false_ne_true
 | str i =>
  obtain ⟨t, rfl⟩ := rx
  cases y with
  | non => cases ry; exact PySem.EqNone.eq_str_none (zbj I q (by simp))
  | bl j => cases ry; exact PySem.EqMixed.eq_str_bool (zbj I q (by simp))
  | int j => obtain ⟨t', rfl⟩ := ry; exact PySem.EqMixed.eq_str_int (zbj I q (by simp))
  | str j => obtain ⟨t', rfl⟩ := ry; exact eq_str (zbj I q zo9)
  | _ => exact absurd (show false = true from hs) Bool.false_ne_true
 | byt i =>
  obtain ⟨t, rfl⟩ := rx
  cases y with
  | byt j => obtain ⟨t', rfl⟩ := ry; exact PySem.W.eq_bytes (zbj I q zo4)
  | _ => exact absurd (show false = true from hs) Bool.false_ne_true
 | _ => cases y <;> exact absurd (show false = true from hs) Bool.false_ne_true
theorem zkp : OpR X (compareOp .NotEq) rNe := by
 intro pins s σ H x y v u Q I rx ry h
 obtain ⟨hs, q⟩ := h
 cases x with
 | non =>
  cases rx
  cases y with
  | non => cases ry; exact PySem.EqNone.ne_none_none (zbj I q (by simp))
  | bl j => cases ry; exact PySem.EqNone.ne_none_bool (zbj I q (by simp))
  | int j => obtain ⟨t', rfl⟩ := ry; exact PySem.EqNone.ne_none_int (zbj I q (by simp))
  | str j => obtain ⟨t', rfl⟩ := ry; exact PySem.EqNone.ne_none_str (zbj I q (by simp))
  | _ => exact absurd (show false = true from hs) Bool.false_ne_true
 | bl i =>
  cases rx
  cases y with
  | non => cases ry; exact PySem.EqNone.ne_bool_none (zbj I q (by simp))
  | bl j => cases ry; exact ne_bool (zbj I q (congrArg not zqw))
  | str j => obtain ⟨t', rfl⟩ := ry; exact PySem.EqMixed.ne_bool_str (zbj I q (by simp))
  | _ => exact absurd (show false = true from hs) Bool.false_ne_true
 | int i =>
  obtain ⟨t, rfl⟩ := rx
  cases y with
  | non => cases ry; exact PySem.EqNone.ne_int_none (zbj I q (by simp))
  | int j => obtain ⟨t', rfl⟩ := ry; exact ne_int (zbj I q (congrArg not zfw))
  | str j => obtain ⟨t', rfl⟩ := ry; exact PySem.EqMixed.ne_int_str (zbj I q (by simp))
  | _ => exact absurd (show false = true from hs) Bool.false_ne_true
 | str i =>
  obtain ⟨t, rfl⟩ := rx
  cases y with
  | non => cases ry; exact PySem.EqNone.ne_str_none (zbj I q (by simp))
  | bl j => cases ry; exact PySem.EqMixed.ne_str_bool (zbj I q (by simp))
  | int j => obtain ⟨t', rfl⟩ := ry; exact PySem.EqMixed.ne_str_int (zbj I q (by simp))
  | str j => obtain ⟨t', rfl⟩ := ry; exact ne_str (zbj I q (congrArg not zo9))
  | _ => exact absurd (show false = true from hs) Bool.false_ne_true
 | byt i =>
  obtain ⟨t, rfl⟩ := rx
  cases y with
  | byt j => obtain ⟨t', rfl⟩ := ry; exact PySem.W.ne_bytes (zbj I q (congrArg not zo4))
  | _ => exact absurd (show false = true from hs) Bool.false_ne_true
 | _ => cases y <;> exact absurd (show false = true from hs) Bool.false_ne_true
theorem zo3 : OpR X (compareOp .Lt) (rI0 fun i j => .bl (decide (i < j))) := zsg fun _ _ _ _ _ _ _ q => lt_int q
theorem zia : OpR X (compareOp .LtE) (rI0 fun i j => .bl (decide (i ≤ j))) := zsg fun _ _ _ _ _ _ _ q => le_int q
theorem zh2 : OpR X (compareOp .Gt) (rI0 fun i j => .bl (decide (j < i))) := zsg fun _ _ _ _ _ _ _ q => gt_int q
theorem zur : OpR X (compareOp .GtE) (rI0 fun i j => .bl (decide (j ≤ i))) := zsg fun _ _ _ _ _ _ _ q => ge_int q
theorem zol : OpR X (compareOp .Is) (fun x y H Q => y = .non ∧ Q (.bl (decide (x = .non))) H) := by
 intro pins s σ H x y v u Q I rx ry h
 obtain ⟨rfl, q⟩ := h
 cases ry
 refine is_none_gen (zbj I q ?_)
 cases x <;> first
  | (cases rx; rfl)
  | (obtain ⟨t, rfl⟩ := rx; rfl)
theorem zg2 : OpR X (compareOp .IsNot) (fun x y H Q => y = .non ∧ Q (.bl (!decide (x = .non))) H) := by
 intro pins s σ H x y v u Q I rx ry h
 obtain ⟨rfl, q⟩ := h
 cases ry
 refine isnot_none_gen (zbj I q ?_)
 cases x <;> first
  | (cases rx; rfl)
  | (obtain ⟨t, rfl⟩ := rx; rfl)
theorem zaq (b : Expr) {op : CmpOp} (h : op ≠ .In := by decide) (h2 : op ≠ .NotIn := by decide) : behindInMarks op b = false := by
 have e1 : (op == CmpOp.In) = false := by cases op <;> first | rfl | exact absurd rfl h
 have e2 : (op == CmpOp.NotIn) = false := by cases op <;> first | rfl | exact absurd rfl h2
 cases b <;> simp [behindInMarks, e1, e2]
theorem zce {op : CmpOp} {r : R2} (ho : OpR X (compareOp op) r) (ha : PE X a ta) (hb : PE X b tb) (hm : behindInMarks op b = false) : PE X (.Compare a [op] [b] pos) (tOp r ta tb) := by
 intro pins s σ H Q I h
 exact wpAny_Compare1 (zt0 ha hb I h fun v u s2 x y H2 I2 rx ry q => ho pins s2 σ H2 x y v u Q I2 rx ry q) hm
def zut (t : TE) : TT := fun σ H Q => t σ H fun x H' => ∃ k, x = .bl k ∧ Q k H'
theorem zar {op : CmpOp} {r : R2} (ho : OpR X (compareOp op) r) (ha : PE X a ta) (hb : PE X b tb) (hm : behindInMarks op b = false) : PT X (.Compare a [op] [b] pos) (zut (tOp r ta tb)) := by
 intro pins s σ H Q I h
 refine wpAny_isTrue_Compare1 (thn (ha pins s σ H _ I h) fun v s1 ⟨x, H1, I1, r1, q1⟩ => thn (hb pins s1 σ H1 _ I1 q1) fun u s2 ⟨y, H2, I2, r2, q2⟩ =>
  thn (ho pins s2 σ H2 x y v u _ I2 r1 r2 q2) fun c s3 ⟨z, H3, I3, r3, k, e, q3⟩ => ?_) hm
 subst e
 cases r3
 exact wpAny_truthy_bool ⟨H3, I3, q3⟩
def ztr (r r' : R2) (ta tb tc : TE) : TE := fun σ H Q => ta σ H fun x H1 => tb σ H1 fun y H2 => r x y H2 fun z H3 => ∃ k, z = .bl k ∧
 (if k = true then tc σ H3 fun w' H4 => r' y w' H4 Q else Q (.bl false) H3)
theorem zr3 {op op' : CmpOp} {r r' : R2} (ho : OpR X (compareOp op) r) (ho' : OpR X (compareOp op') r') (ha : PE X a ta) (hb : PE X b tb) (hc : PE X c tc)
  (hm : lastMarks [op, op'] [b, c] = false := by with_unfolding_all rfl) : PE X (.Compare a [op, op'] [b, c] pos) (ztr r r' ta tb tc) := by
 intro pins s σ H Q I h
 refine Compare_chain (thn (ha pins s σ H _ I h) fun v s1 ⟨x, H1, I1, r1, q1⟩ => chain_link (thn (hb pins s1 σ H1 _ I1 q1) fun u s2 ⟨y, H2, I2, r2, q2⟩ =>
  thn (ho pins s2 σ H2 x y v u _ I2 r1 r2 q2) fun d s3 ⟨z, H3, I3, r3, k, e, q3⟩ => ?_)) hm
 subst e
 cases r3
 refine wpAny_truthy_bool ?_
 cases k with
 | false => exact ite_ff ⟨.bl false, H3, I3, rfl, q3⟩
 | true => exact ite_tt (chain_last (thn (hc pins s3 σ H3 _ I3 q3) fun w' s4 ⟨z', H4, I4, r4, q4⟩ => ho' pins s4 σ H4 y z' u w' Q I4 r2 r4 q4))
theorem zjp : (sizeLine : Nat) < 2 ^ 63 := by rw [sizeLine_eq]; decide
theorem zga {x : V} {us : List Value} (r : Vals [x] us) : ∃ u, us = [u] ∧ RelV x u := by
 cases r with
 | cons r1 r2 => cases r2; exact ⟨_, rfl, r1⟩
theorem zu4 {x y : V} {us : List Value} (r : Vals [x, y] us) : ∃ u w', us = [u, w'] ∧ RelV x u ∧ RelV y w' := by
 cases r with
 | cons r1 r2 =>
  cases r2 with
  | cons r3 r4 => cases r4; exact ⟨_, _, rfl, r1, r3⟩
theorem zeu (hc : X.calm = true) : zeq X (.builtin "max") (fun xs H Q => ∃ i j, xs = [.int i, .int j] ∧ Q (.int (if j > i then j else i)) H) := by
 intro pins s σ H xs us Q I r h
 obtain ⟨i, j, rfl, q⟩ := h
 obtain ⟨u, w', rfl, ⟨t, rfl⟩, ⟨t', rfl⟩⟩ := zu4 r
 refine max_two_ints (I.ok.hd hc) fun h' tk k => ⟨_, H, I.kept k, ?_, q⟩
 by_cases hj : j > i
 ·rw [if_pos hj, if_pos hj]; exact ⟨_, rfl⟩
 ·rw [if_neg hj, if_neg hj]; exact ⟨_, rfl⟩
theorem zkc : zeq X (.type "int") (fun xs H Q => (∃ i, xs = [.int i] ∧ Q (.int i) H) ∨ ∃ k, xs = [.bl k] ∧ Q (.int (if k then 1 else 0)) H) := by
 intro pins s σ H xs us Q I r h
 rcases h with ⟨i, rfl, q⟩ | ⟨k, rfl, q⟩
 ·obtain ⟨u, rfl, t, rfl⟩ := zga r
  exact call_int_int ⟨.int i, H, I, ⟨_, rfl⟩, q⟩
 ·obtain ⟨u, rfl, r1⟩ := zga r
  cases r1
  exact call_int_bool ⟨.int (if k then 1 else 0), H, I.tok _, ⟨_, rfl⟩, q⟩
end
end L2
namespace L2
open PySem PySem.Spec PyProof.Rows
structure ObjM (h : Heap) (x dx C : Addr) (mA : Str → Option Value) : Prop where
 obj : h.get? x = some (PySem.W.instObj C dx)
 ns : h.Ns1 dx mA
 ne : dx ≠ x
theorem zp6 {h : Heap} {dx : Addr} {mA : Str → Option Value} (n : h.Ns1 dx mA) : ∃ od, h.get? dx = some od ∧ ∀ name, PySem.W.lookIn name od = some (mA name) := by
 obtain ⟨o, es, ep, ho, hd, hk, _, hm⟩ := n
 refine ⟨o, ho, fun name => ?_⟩
 have e := hm name
 unfold nsFind findBy at e
 rw [← Array.find?_toList] at e
 unfold PySem.W.lookIn
 rw [hd]
 dsimp only
 split
 ·rename_i y q
  rw [q] at e
  exact congrArg some e
 ·rename_i q
  rw [q] at e
  have a : es.toList.any (·.refKey) = false := by
   rw [List.any_eq_false]
   intro y hy
   obtain ⟨z, t, hkey⟩ := hk y (Array.mem_toList_iff.mp hy)
   simp [DictEntry.refKey, hkey]
  have a' : ¬ es.toList.any (·.refKey) = true := by rw [a]; exact Bool.false_ne_true
  rw [if_neg a']
  exact congrArg some e
theorem ObjM.look {h : Heap} {x dx C : Addr} {mA : Str → Option Value} (I : ObjM h x dx C mA) : ∃ od, PySem.W.InstAt h x (PySem.W.instObj C dx) C (some od) ∧ ∀ name, PySem.W.lookIn name od = some (mA name) :=
 let ⟨od, ho, hl⟩ := zp6 I.ns
 ⟨od, ⟨I.obj, rfl, rfl, ho⟩, hl⟩
section
variable {prog : Program} {w : World} {A : Around} {E : Value → Shared → Prop} {s : Shared} {K : PySem.W.Frag} {x dx C f : Addr} {mA : Str → Option Value} {name : Str} {v : Value}
theorem zsn {expr : Bool} {Q : Value → Shared → Prop} (X : K.In s.heap) (I : ObjM s.heap x dx C mA) (hg : PySem.W.plainGet K C name = true) (hh : PySem.W.hasDictIn K C = true)
  (ha : PySem.W.findIn K (.ref C) name = some none) (hv : mA name = some v) (hv' : PySem.W.handedIn v = true) (h : Q v { s with toks := s.toks + 1 }) :
  wpAny (model prog w) A (getAttr (.ref x) name expr) Q E s := by
 obtain ⟨od, J, hl⟩ := I.look
 exact PySem.W.get_value X J (PySem.W.plainGet_of hg).1 (PySem.W.findObj_own hh ha rfl (by rw [hl, hv])) hv' h
theorem zqy {pl : Sem Bool} {Q : Value × List Value → Shared → Prop} (X : K.In s.heap) (I : ObjM s.heap x dx C mA) (hg : PySem.W.plainGet K C name = true)
  (hf : PySem.W.findIn K (.ref C) name = some (some (.ref f))) (ht : PySem.W.isFn K (.ref f) = true) (hv : mA name = none) (h : Q (.ref f, [.ref x]) s) :
  wpAny (model prog w) A (getMethod (.ref x) name pl) Q E s := by
 obtain ⟨od, J, hl⟩ := I.look
 exact PySem.W.method_fn X J (PySem.W.plainGet_of hg).1 (PySem.W.plainGet_of hg).2 hf (beq_iff_eq.mp ht) (by show (PySem.W.lookIn name od).map (·.isSome) = some false; rw [hl, hv]; rfl) h
theorem zsr {ns : List Str} {Q : Unit → Shared → Prop} (X : K.In s.heap) (I : ObjM s.heap x dx C mA)
  (hs : PySem.W.findIn K (.ref C) "__setattr__" = some (some (.builtin "object.__setattr__"))) (hp : PySem.W.plainOver K C = true) (ht : PySem.W.takerIn K C name = some none) (hh : PySem.W.hasDictIn K C = true)
  (hw : PySem.Within mA ns) (hsz : ns.length ≤ sizeLine)
  (h : ∀ h', ObjM h' x dx C (fun y => if y = name then some v else mA y) → Heap.SameBut dx s.heap h' → Q () { s with heap := h', toks := s.toks + 2 }) :
  wpAny (model prog w) A (setAttr (.ref x) name v) Q E s := by
 obtain ⟨od, J, hl⟩ := I.look
 refine PySem.W.set_plain X J hs (PySem.W.osa_open (s := { s with toks := s.toks + 1 }) (r := none) X J hp ht fun b => ?_)
 obtain ⟨cd, hc, hd'⟩ := PySem.W.any_some hh
 have hx : s.heap.get? x = some ⟨.ref C, some dx, .plain, #[]⟩ := I.obj
 refine wpAny_bind (wpAny_pure (wpAny_bind (wpAny_bind (wpAny_loadPart hx (wpAny_bind (PySem.W.Looks.here (s := { s with toks := s.toks + 1 }) (PySem.W.looks_clsIn X hc) ?_))))))
 rw [hd']
 refine wpAny_pure (a := some dx) (wpAny_bind (wpAny_pure (wpAny_bind ?_)))
 refine wpAny_nsSet1 (s := { s with toks := s.toks + 1 }) I.ns fun h' hn2 hs2 => ?_
 obtain ⟨oD, esD, epD, hoD, hdD, hcD⟩ := hn2.count (PySem.Within.cons name v hw)
 refine wpAny_bind (wpAny_lookBehind hoD (by rw [hdD]; exact pastItsLine_dict (Nat.le_trans hcD (by rw [List.length_cons]; omega))) ?_)
 exact wpAny_pure (h _ ⟨(hs2.2 _ (Ne.symm I.ne)).trans I.obj, hn2, I.ne⟩ hs2)
theorem zq8 {R : Result → Shared → Prop} {vs : List Value} {kw : List (Str × Value)} (X : K.In s.heap) (hm : PySem.W.makesIn K C = true)
  (hi : PySem.W.findIn K (.ref C) "__init__" = some (some (.ref f))) (hf : PySem.W.typeIn K (.ref f) = some (.type "function"))
  (h : codeAny (model prog w) (A.under (.builtin "type.__call__" ⟨.ref C :: vs, kw⟩)) (.call (.ref f) ⟨.ref (s.heap.objs.size + 1) :: vs, kw⟩) (PySem.W.InitBack (s.heap.objs.size + 1) R)
   { s with heap := (s.heap.push PySem.W.emptyDict).push (PySem.W.instObj C s.heap.objs.size) }) :
  codeAny (model prog w) A (.call (.ref C) ⟨vs, kw⟩) R s := by
 obtain ⟨hh, g, d, t, os⟩ := s
 exact PySem.W.make_core (PySem.W.makes_of X hm) (PySem.W.looks_findIn X hi) (fun self => PySem.W.bind_fn X self hf) (.inl rfl) h
end
def zf5 (f : Str) (v : V) : List (Str × V) → List (Str × V)
 | [] => [(f, v)]
 | (g, x) :: r => if g = f then (g, v) :: r else (g, x) :: zf5 f v r
theorem zh9 (f g : Str) (v : V) : ∀ fs : List (Str × V), (zf5 f v fs).lookup g = if g = f then some v else fs.lookup g
 | [] => by
  show List.lookup g [(f, v)] = _
  by_cases h : g = f
  ·have hb : (g == f) = true := beq_iff_eq.mpr h
   simp only [List.lookup, hb, if_pos h]
  ·have hb : (g == f) = false := beq_eq_false_iff_ne.mpr h
   simp only [List.lookup, hb, if_neg h]
 | (k, x) :: r => by
  have ih := zh9 f g v r
  rw [show zf5 f v ((k, x) :: r) = (if k = f then (k, v) :: r else (k, x) :: zf5 f v r) from rfl]
  by_cases hk : k = f
  ·rw [if_pos hk]
   by_cases h : g = k
   ·have hb : (g == k) = true := beq_iff_eq.mpr h
    simp only [List.lookup, hb, if_pos (h.trans hk)]
   ·have hb : (g == k) = false := beq_eq_false_iff_ne.mpr h
    simp only [List.lookup, hb, if_neg (fun e : g = f => h (e.trans hk.symm))]
  ·rw [if_neg hk]
   by_cases h : g = k
   ·have hb : (g == k) = true := beq_iff_eq.mpr h
    simp only [List.lookup, hb, if_neg (fun e : g = f => hk (h.symm.trans e))]
   ·have hb : (g == k) = false := beq_eq_false_iff_ne.mpr h
    simp only [List.lookup, hb]
    exact ih
theorem zhj (f : Str) (v : V) : ∀ fs : List (Str × V), f ∈ (zf5 f v fs).map (·.1) ∧ ∀ g, g ∈ fs.map (·.1) → g ∈ (zf5 f v fs).map (·.1)
 | [] => ⟨by simp [zf5], fun g h => by simp at h⟩
 | (k, x) :: r => by
  obtain ⟨i1, i2⟩ := zhj f v r
  rw [show zf5 f v ((k, x) :: r) = (if k = f then (k, v) :: r else (k, x) :: zf5 f v r) from rfl]
  by_cases hk : k = f
  ·rw [if_pos hk]
   subst hk
   exact ⟨by simp, fun g h => by simpa using h⟩
  ·rw [if_neg hk]
   refine ⟨?_, fun g h => ?_⟩
   ·rw [List.map_cons]
    exact List.mem_cons_of_mem _ i1
   ·rw [List.map_cons] at h ⊢
    rcases List.mem_cons.mp h with e | e
    ·exact List.mem_cons.mpr (.inl e)
    ·exact List.mem_cons_of_mem _ (i2 g e)
theorem zhz (f : Str) (v : V) : ∀ fs : List (Str × V), (zf5 f v fs).length ≤ fs.length + 1
 | [] => by simp [zf5]
 | (k, x) :: r => by
  have ih := zhz f v r
  rw [show zf5 f v ((k, x) :: r) = (if k = f then (k, v) :: r else (k, x) :: zf5 f v r) from rfl]
  by_cases hk : k = f
  ·rw [if_pos hk, List.length_cons, List.length_cons]; omega
  ·rw [if_neg hk, List.length_cons, List.length_cons]; omega
theorem RelO.some_of {v : V} {o : Option Value} (r : RelO (some v) o) : ∃ u, o = some u ∧ RelV v u := by
 cases o with
 | none => exact (show False from r).elim
 | some u => exact ⟨u, rfl, r⟩
theorem RelO.none_of {o : Option Value} (r : RelO none o) : o = none := by
 cases o with
 | none => rfl
 | some u => exact (show False from r).elim
theorem zpi {v : V} {u : Value} (r : RelV v u) : PySem.W.handedIn u = true := by
 cases v with
 | non => cases (show u = Value.none from r); rfl
 | bl b => cases (show u = Value.bool b from r); rfl
 | int i => obtain ⟨t, e⟩ := (show ∃ t, u = Value.int i t from r); cases e; rfl
 | str x => obtain ⟨t, e⟩ := (show ∃ t, u = Value.str x t from r); cases e; rfl
 | byt b => obtain ⟨t, e⟩ := (show ∃ t, u = Value.bytes b t from r); cases e; rfl
 | flt b => obtain ⟨t, e⟩ := (show ∃ t, u = Value.float b t from r); cases e; rfl
 | ref a => cases (show u = Value.ref a from r); rfl
 | ty n => cases (show u = Value.type n from r); rfl
section
variable {P : Program} {w : World} {H H' : Hp} {h h' : Heap} {a C dx : Addr} {fs fs' : List (Str × V)}
theorem zlx (hok : HOk P w H h) (e : H a = some (.ins C dx fs)) : ∃ mA, ObjM h a dx C mA ∧ (∀ f, RelO (fs.lookup f) (mA f)) ∧ PySem.Within mA (fs.map (·.1)) ∧ fs.length ≤ 1000 ∧ H dx = some (.own a) := by
 obtain ⟨d, z, ne, ob, mA, n, r, q⟩ := (show ObjOk P w H h a (.ins C dx fs) from hok a _ e)
 exact ⟨mA, ⟨ob, n, ne⟩, r, q, z, d⟩
end
structure Cls (K : PySem.W.Frag) (C : Addr) : Prop where
 pg : PySem.W.plainGet K C Str.empty = true
 hd : PySem.W.hasDictIn K C = true
 po : PySem.W.plainOver K C = true
 sa : PySem.W.findIn K (.ref C) "__setattr__" = some (some (.builtin "object.__setattr__"))
theorem Cls.get {K : PySem.W.Frag} {C : Addr} (c : Cls K C) (f : Str) : PySem.W.plainGet K C f = true := c.pg
def NoAttr (K : PySem.W.Frag) (C : Addr) (f : Str) : Prop := PySem.W.findIn K (.ref C) f = some none
theorem NoAttr.taker {K : PySem.W.Frag} {C : Addr} {f : Str} (n : NoAttr K C f) : PySem.W.takerIn K C f = some none := by
 unfold PySem.W.takerIn
 rw [show PySem.W.findIn K (.ref C) f = some none from n]
 rfl
structure zqt (K : PySem.W.Frag) (C : Addr) (m : Str) (f : Addr) : Prop where
 at_ : PySem.W.findIn K (.ref C) m = some (some (.ref f))
 fn : PySem.W.isFn K (.ref f) = true
 kp : PySem.W.keepIn K (.ref f) = true
section
variable {X : Cx} {pins : List (Addr × Obj)} {σ : St} {H : Hp} {s : Shared} {a C dx : Addr} {fs : List (Str × V)} {f : Str} {v : V} {A : Around} {E : Value → Shared → Prop}
theorem zoc {b : Bool} {Q : Value → Shared → Prop} (I : Inv X pins σ H s) (e : H a = some (.ins C dx fs)) (c : Cls X.K C) (n : NoAttr X.K C f) (l : fs.lookup f = some v)
  (h : ∀ u s', Inv X pins σ H s' → RelV v u → Q u s') : wpAny (model X.prog X.w) A (getAttr (.ref a) f b) Q E s := by
 obtain ⟨mA, O, r, _, _, _⟩ := zlx I.hok e
 obtain ⟨u, hu, ru⟩ := RelO.some_of (v := v) (o := mA f) (by rw [← l]; exact r f)
 exact zsn I.kIn O (c.get f) c.hd n hu (zpi ru) (h u _ (I.tok _) ru)
theorem zi2 {m : Str} {g : Addr} {pl : Sem Bool} {Q : Value × List Value → Shared → Prop} (I : Inv X pins σ H s) (e : H a = some (.ins C dx fs)) (c : Cls X.K C) (k : zqt X.K C m g) (l : fs.lookup m = none)
  (h : Q (.ref g, [.ref a]) s) : wpAny (model X.prog X.w) A (getMethod (.ref a) m pl) Q E s := by
 obtain ⟨mA, O, r, _, _, _⟩ := zlx I.hok e
 have hn : mA m = none := RelO.none_of (by rw [← l]; exact r m)
 exact zqy I.kIn O (c.get m) k.at_ k.fn hn h
theorem zog {y : V} {u : Value} {Q : Unit → Shared → Prop} (I : Inv X pins σ H s) (e : H a = some (.ins C dx fs)) (c : Cls X.K C) (n : NoAttr X.K C f) (hl : fs.length < 1000) (ry : RelV y u)
  (h : ∀ s', Inv X pins σ (upd H a (.ins C dx (zf5 f y fs))) s' → Q () s') : wpAny (model X.prog X.w) A (setAttr (.ref a) f u) Q E s := by
 obtain ⟨mA, O, r, wi, _, ho⟩ := zlx I.hok e
 have hz : (fs.map (·.1)).length ≤ sizeLine := by rw [List.length_map, sizeLine_eq]; omega
 refine zsr I.kIn O c.sa c.po n.taker c.hd wi hz fun h' O' sb => h _ ?_
 have hd : ∃ o, h'.get? dx = some o := let ⟨o, _, _, e', _⟩ := O'.ns; ⟨o, e'⟩
 refine I.write (x := a) (e := dx) (by rw [e]; exact True.intro) (.inr ho) (fun b q hb z => (sb.2 b hb).trans z) hd ?_
 refine ⟨by rw [zao O.ne]; exact ho, ?_, O.ne, O'.obj, _, O'.ns, fun g => ?_, fun g hg => ?_⟩
 ·have := zhz f y fs; omega
 ·show RelO ((zf5 f y fs).lookup g) (if g = f then some u else mA g)
  rw [zh9]
  by_cases q : g = f
  ·rw [if_pos q, if_pos q]; exact ry
  ·rw [if_neg q, if_neg q]; exact r g
 ·by_cases q : g = f
  ·rw [q]; exact (zhj f y fs).1
  ·refine (zhj f y fs).2 g (wi g fun z => hg ?_)
   show (if g = f then some u else mA g) = none
   rw [if_neg q]; exact z
theorem Inv.made (I : Inv X pins σ H s) : Inv X pins σ (upd (upd H s.heap.objs.size (.own (s.heap.objs.size + 1))) (s.heap.objs.size + 1) (.ins C s.heap.objs.size []))
  { s with heap := (s.heap.push PySem.W.emptyDict).push (PySem.W.instObj C s.heap.objs.size) } := by
 have e1 : (s.heap.push PySem.W.emptyDict).get? s.heap.objs.size = some PySem.W.emptyDict := Heap.get?_push_size s.heap rfl
 have e2 : ((s.heap.push PySem.W.emptyDict).push (PySem.W.instObj C s.heap.objs.size)).get? (s.heap.objs.size + 1) = some (PySem.W.instObj C s.heap.objs.size) := by
  have := Heap.get?_push_size (s.heap.push PySem.W.emptyDict) (o := PySem.W.instObj C s.heap.objs.size) rfl
  rwa [Heap.size_push] at this
 have e3 : (s.heap.push PySem.W.emptyDict).Ns s.heap.objs.size (fun _ => none) := ⟨PySem.W.emptyDict, #[], _, e1, rfl, (fun e he => absurd he (by simp)), fun _ => rfl⟩
 have I1 := I.laid (a := s.heap.objs.size) (o := .own (s.heap.objs.size + 1)) (h' := s.heap.push PySem.W.emptyDict) (t' := s.toks) (fun b u q => Heap.get?_push_of_some _ q) (Nat.le_refl _) ⟨_, e1⟩
 refine I1.laid (a := s.heap.objs.size + 1) (o := .ins C s.heap.objs.size []) (t' := s.toks) (fun b u q => Heap.get?_push_of_some _ q) (Nat.le_of_eq (Heap.size_push _ _)) ?_
 have ne : s.heap.objs.size ≠ s.heap.objs.size + 1 := Nat.ne_of_lt (Nat.lt_succ_self _)
 refine ⟨by rw [zao ne, zae], Nat.zero_le _, ne, e2, fun _ => none, (Heap.Ns1.of_empty e3).at fun o q => Heap.get?_push_of_some _ q, fun _ => True.intro, fun y hy => absurd rfl hy⟩
theorem zr9 {prog : Program} {w : World} {env : Env} {e : Expr} {f : Str} {pos : Pos} {s : Shared} {Q : Value → Shared → Prop} (hb : attributeBase e f env (eval e env) = eval e env)
  (h : wpAny (model prog w) A (eval e env) (fun o s₁ => wpAny (model prog w) A (getAttr o f true) Q E s₁) E s) : wpAny (model prog w) A (eval (.Attribute e f pos) env) Q E s :=
 Attribute_any_ h (by rw [arm_eval_Attribute, hb])
end
def zvr (K : PySem.W.Frag) (ta : TE) (f : Str) : TE := fun σ H Q => ta σ H fun x H1 => ∃ a C dx fs v, x = .ref a ∧ H1 a = some (.ins C dx fs) ∧ Cls K C ∧ NoAttr K C f ∧ fs.lookup f = some v ∧ Q v H1
def zv3 (K : PySem.W.Frag) (ta tv : TE) (f : Str) : TS := fun D σ H => tv σ H fun y H1 => ta σ H1 fun x H2 => ∃ a C dx fs, x = .ref a ∧ H2 a = some (.ins C dx fs) ∧ Cls K C ∧ NoAttr K C f ∧ fs.length < 1000 ∧
 D.nx σ (upd H2 a (.ins C dx (zf5 f y fs)))
section
variable {X : Cx} {o e value : Expr} {f : Str} {pos pos' tpos : Pos} {ta tv : TE}
theorem zgo (he : PE X e ta) (hb : attributeBase e f X.env (eval e X.env) = eval e X.env) : PE X (.Attribute e f pos) (zvr X.K ta f) := by
 intro pins s σ H Q I h
 refine zr9 hb (thn (he pins s σ H _ I h) fun u s1 ⟨x, H1, I1, rx, a, C, dx, fs, v, ex, ea, c, n, l, q⟩ => ?_)
 subst ex
 obtain rfl : u = Value.ref a := rx
 exact zoc I1 ea c n l fun u' s2 I2 ru => ⟨v, H1, I2, ru, q⟩
theorem zrs (ha : PE X o ta) (hv : PE X value tv) (hs : swapsWith value (some (.Attribute o f pos')) pos.line X.env = pure false) : PS X (.Assign [.Attribute o f pos'] value pos) (zv3 X.K ta tv f) := by
 intro pins s σ H D I h
 refine plainObj_wpAny_Assign_Attribute (thn (hv pins s σ H _ I h) fun u s1 ⟨y, H1, I1, ry, q⟩ => thn (ha pins s1 σ H1 _ I1 q) fun ov s2 ⟨x, H2, I2, rx, a, C, dx, fs, ex, ea, c, n, l, q2⟩ => ?_) hs
 subst ex
 obtain rfl : ov = Value.ref a := rx
 exact zog I2 ea c n l ry fun s3 I3 => ⟨σ, _, I3, q2⟩
end
section
variable {X : Cx} {pins : List (Addr × Obj)} {σ : St} {H : Hp} {s : Shared} {A : Around} {E : Value → Shared → Prop} {Q : Value → Shared → Prop} {c : Value} {b : Bool}
end
end L2
namespace L2
open PySem PySem.Spec PyProof.Rows
structure Room (k : Nat) (A : Around) : Prop where
 hd : A.handled = none
 dp : A.depth + 3 * k + 5 < recursionLimit
 un : A.units + 16 * k + 200 < cLine
theorem Room.mono {j k : Nat} {A : Around} (r : Room k A) (h : j ≤ k) : Room j A := ⟨r.hd, by have := r.dp; omega, by have := r.un; omega⟩
theorem Room.deeper {k : Nat} {A : Around} (r : Room (k + 1) A) (env : Env) : Room k (A.deeper env) :=
 ⟨r.hd, by have := r.dp; show A.depth + 1 + 3 * k + 5 < _; omega, by have := r.un; show A.units + 3 + 16 * k + 200 < _; omega⟩
theorem zoi {A : Around} {C : Addr} {us : List Value} {kw : List (Str × Value)} : (A.under (.builtin "type.__call__" ⟨.ref C :: us, kw⟩)).depth = A.depth + 1 := by
 first | rfl | simp [Around.under, Code.weight, Code.isCreation, Code.isGuard, Code.isCaller, Code.frames, Code.isFrame, guardIds]
theorem zns {A : Around} {C : Addr} {us : List Value} {kw : List (Str × Value)} : (A.under (.builtin "type.__call__" ⟨.ref C :: us, kw⟩)).units = A.units + 1 := by
 first | rfl | simp [Around.under, Code.cUnits, Code.frames, Code.isFrame]
theorem Room.make {k : Nat} {A : Around} (r : Room (k + 1) A) (C : Addr) (us : List Value) (kw : List (Str × Value)) : Room k (A.under (.builtin "type.__call__" ⟨.ref C :: us, kw⟩)) :=
 ⟨r.hd, by have := r.dp; rw [zoi]; omega, by have := r.un; rw [zns]; omega⟩
theorem Room.depth {k : Nat} {A : Around} (r : Room k A) : A.depth < recursionLimit := by have := r.dp; omega
theorem Room.units {k : Nat} {A : Around} (r : Room k A) : A.units + 64 < cLine := by have := r.un; omega
def zuw : TA := fun _ H Q => Q [] H
def zux (ta : TE) (tr : TA) : TA := fun σ H Q => ta σ H fun x H1 => tr σ H1 fun xs H2 => Q (x :: xs) H2
section
variable {X : Cx} {e : Expr} {es : List Expr} {te : TE} {t : TA} {pos : Pos}
theorem zac : PA X [] zuw := fun _ _ _ _ H Q I h => Calls.spliced_nil ⟨[], H, I, .nil, h⟩
theorem zaa (ha : PE X e te) (hr : PA X es t) (hs : starEach (e :: es) X.env = (false, eval e X.env) :: starEach es X.env := by rfl) : PA X (e :: es) (zux te t) := by
 intro pos pins s σ H Q I h
 rw [hs]
 show wpAny _ _ (spliced ((false, eval e X.env) :: backTo pos (starEach es X.env))) _ _ s
 refine Calls.spliced_cons (thn (ha pins s σ H _ I h) fun u s1 ⟨x, H1, I1, r1, q1⟩ => ?_)
 exact thn (hr pos pins s1 σ H1 _ I1 q1) fun us s2 ⟨xs, H2, I2, r2, q2⟩ => ⟨x :: xs, H2, I2, .cons r1 r2, q2⟩
def zv2 (t : TA) : TE := fun σ H Q => t σ H fun xs H1 => xs.length ≤ sizeLine ∧ ∀ p, H1 p = none → Q (.ref p) (upd H1 p (.tup xs))
def zv6 (t : TA) : TE := fun σ H Q => t σ H fun xs H1 => xs.length ≤ sizeLine ∧ ∀ p, H1 p = none → Q (.ref p) (upd H1 p (.lst xs))
theorem za8 {x1} (h : PA X es t) : PE X (.Tuple es x1 pos) (zv2 t) := by
 intro pins s σ H Q I hq
 refine wpAny_Tuple_spliced (thn (h pos pins s σ H _ I hq) fun us s1 ⟨xs, H1, I1, r, z, q⟩ => ⟨by rw [← r.length]; exact z, ?_⟩)
 have hf : H1 s1.heap.objs.size = none := I1.hok.fresh (Nat.le_refl _)
 refine ⟨.ref s1.heap.objs.size, upd H1 s1.heap.objs.size (.tup xs), I1.laid (t' := s1.toks) (fun b u e => Heap.get?_push_of_some _ e) (Nat.le_refl _) ?_, rfl, q _ hf⟩
 exact ⟨z, us, r, ⟨_, Heap.get?_push_size _ rfl, rfl, _, rfl⟩⟩
theorem zcn (h : PA X es t) : PE X (.List es pos) (zv6 t) := by
 intro pins s σ H Q I hq
 refine wpAny_List_spliced (thn (h pos pins s σ H _ I hq) fun us s1 ⟨xs, H1, I1, r, z, q⟩ => ⟨by rw [← r.length]; exact z, ?_⟩)
 have hf : H1 s1.heap.objs.size = none := I1.hok.fresh (Nat.le_refl _)
 refine ⟨.ref s1.heap.objs.size, upd H1 s1.heap.objs.size (.lst xs), I1.laid (t' := s1.toks) (fun b u e => Heap.get?_push_of_some _ e) (Nat.le_refl _) ?_, rfl, q _ hf⟩
 exact ⟨z, us, 0, r, Heap.get?_push_size _ rfl⟩
end
abbrev Sp := List V → Hp → VK → XK → Prop
abbrev CXT := List Env → Hp → Shared → XK → Value → Shared → Prop
structure Env0 (P : Program) (w : World) (K : PySem.W.Frag) (mg : Str → Option Value) (base : Heap) (A : Around) (outer : List Env) (s : Shared) (H : Hp) : Prop where
 frames : A.frames = some outer
 mod : Mod K mg base
 bs : ∀ b o, base.get? b = some o → s.heap.get? b = some o ∧ H b = none
 bsz : base.objs.size ≤ s.heap.objs.size
 funs : s.heap.FunFrames base outer
 frf : ∀ b ∈ frs outer, H b = none
 hok : HOk P w H s.heap
 bare : AllBare s.gens
def CE (outer : List Env) (P : Program) (w : World) (H : Hp) (s : Shared) (Q : VK) (u : Value) (s' : Shared) : Prop :=
 ∃ v H', s'.os = s.os ∧ AllBare s'.gens ∧ Un (frs outer) [] H H' s.heap s'.heap ∧ HOk P w H' s'.heap ∧ RelV v u ∧ Q v H'
def CR (CX : CXT) (outer : List Env) (P : Program) (w : World) (H : Hp) (s : Shared) (Q : VK) (E : XK) (r : Result) (s' : Shared) : Prop :=
 match r with
 | .ok (.ret u) => CE outer P w H s Q u s'
 | .ok _ => False
 | .error e => CX outer H s E e s'
structure zbd (P : Program) (w : World) (K : PySem.W.Frag) (mg : Str → Option Value) (base : Heap) (CX : CXT) (k : Nat) (f : Addr) (fd : FuncData) (ps : List Str) (sp : Sp) : Prop where
 len : ∀ vs H Q E, sp vs H Q E → vs.length = ps.length
 run : ∀ (A : Around) (outer : List Env) (s : Shared) (H : Hp) (args : Args) (us : List Value) (vs : List V) (Q : VK) (E : XK), Room k A → Env0 P w K mg base A outer s H → BindsTo s fd args (ps.zip us) → Vals vs us → sp vs H Q E →
  codeAny (model P w) A (.call (.ref f) args) (CR CX outer P w H s Q E) s
theorem Env0.make {P : Program} {w : World} {K : PySem.W.Frag} {mg : Str → Option Value} {base : Heap} {A : Around} {outer : List Env} {s : Shared} {H : Hp} (e : Env0 P w K mg base A outer s H) (C : Addr) (us : List Value) (kw : List (Str × Value)) :
  Env0 P w K mg base (A.under (.builtin "type.__call__" ⟨.ref C :: us, kw⟩)) outer s H := ⟨by first | exact e.frames | (simpa [Around.under, Code.envs, Code.isFrame, pushEnvs] using e.frames), e.mod, e.bs, e.bsz, e.funs, e.frf, e.hok, e.bare⟩
section
variable {X : Cx} {pins : List (Addr × Obj)} {σ : St} {H : Hp} {s s' : Shared}
theorem Inv.env0 (I : Inv X pins σ H s) : Env0 X.prog X.w X.K X.mg X.base X.A X.stack s H :=
 ⟨I.ok.frames, I.ok.mod, I.bs, Nat.le_trans I.ok.bsz I.sz, I.stack, I.stkFree, I.hok, I.bare⟩
theorem Inv.after {Q : VK} {u : Value} (I : Inv X pins σ H s) (h : CE X.stack X.prog X.w H s Q u s') : EP X pins σ Q u s' := by
 obtain ⟨v, H', os, bare, un, hok, r, q⟩ := h
 obtain ⟨hh, g, d, t, os'⟩ := s'
 obtain rfl : os' = s.os := os
 exact ⟨v, H', I.call (h' := hh) (g' := g) (d' := d) (t' := t) (ch := []) un hok bare (fun b z => absurd z (by simp)), r, q⟩
end
def zu6 (sp : Sp) (dvs : List V) (E : XK) (t : TA) : TE := fun σ H Q => t σ H fun vs H1 => sp (vs ++ dvs) H1 Q E
def zth (C : Addr) (m : Str) (sp : Sp) (dvs : List V) (E : XK) (ta : TE) (t : TA) : TE := fun σ H Q => ta σ H fun x H1 => ∃ a dx fs, x = .ref a ∧ H1 a = some (.ins C dx fs) ∧ fs.lookup m = none ∧
 t σ H1 fun vs H2 => sp (x :: (vs ++ dvs)) H2 Q E
def zva (C : Addr) (sp : Sp) (dvs : List V) (E : XK) (t : TA) : TE := fun σ H Q => t σ H fun vs H1 => ∀ x dx, H1 x = none → H1 dx = none → dx ≠ x →
 sp (.ref x :: (vs ++ dvs)) (upd (upd H1 dx (.own x)) x (.ins C dx [])) (fun v H2 => v = .non ∧ Q (.ref x) H2) E
def Binds (K : PySem.W.Frag) (fd : FuncData) (ps : List Str) (ds : List Value) : Prop :=
 ∀ (s : Shared) (us : List Value), K.In s.heap → (us ++ ds).length = ps.length → BindsTo s fd ⟨us, []⟩ (ps.zip (us ++ ds))
theorem Binds.all {K : PySem.W.Frag} {fd : FuncData} {ps : List Str} (h : ∀ us : List Value, us.length = ps.length → bindArgs fd ⟨us, []⟩ = pure (ps.zip us)) : Binds K fd ps [] := fun s us _ hl => by
 rw [List.append_nil] at hl ⊢
 exact .of_eq (h us hl)
def zgg (CX : CXT) (X : Cx) (E : XK) : Prop := ∀ (pins : List (Addr × Obj)) (σ : St) (H : Hp) (s : Shared) (e : Value) (s' : Shared), Inv X pins σ H s → CX X.stack H s E e s' → X.xe e s'
section
variable {X : Cx} {CX : CXT} {k : Nat} {f C : Addr} {fd : FuncData} {ps : List Str} {sp : Sp} {dvs : List V} {ds : List Value} {E : XK} {x m : Str} {p pos apos : Pos} {e o : Expr} {es : List Expr} {ta : TE} {t : TA}
theorem zls {pins : List (Addr × Obj)} {σ : St} {H : Hp} {s : Shared} {Q : VK} {us : List Value} {vs : List V} (F : zbd X.prog X.w X.K X.mg X.base CX k f fd ps sp) (hr : Room k X.A) (hb : Binds X.K fd ps ds) (hd : Vals dvs ds) (hx : zgg CX X E)
  (I : Inv X pins σ H s) (r : Vals vs us) (h : sp (vs ++ dvs) H Q E) : wpAny (model X.prog X.w) X.A (call (.ref f) us) (EP X pins σ Q) X.xe s := by
 have r2 : Vals (vs ++ dvs) (us ++ ds) := r.append hd
 have hl : (us ++ ds).length = ps.length := by rw [← r2.length]; exact F.len _ _ _ _ h
 refine wpAny_call (codeAny_mono (F.run X.A X.stack s H ⟨us, []⟩ (us ++ ds) (vs ++ dvs) Q E hr I.env0 (hb s us I.kIn hl) r2 h) fun r s' hq => ?_)
 cases r with
 | error e => exact hx pins σ H s e s' I hq
 | ok fl =>
  cases fl with
  | ret u => exact I.after hq
  | next => exact False.elim hq
  | brk => exact False.elim hq
  | cont => exact False.elim hq
theorem zag (F : zbd X.prog X.w X.K X.mg X.base CX k f fd ps sp) (hr : Room k X.A) (hg : Gl X x) (hm : X.mg x = some (.ref f)) (hk : PySem.W.keepIn X.K (.ref f) = true) (hb : Binds X.K fd ps ds) (hd : Vals dvs ds) (hx : zgg CX X E)
  (ha : PA X (e :: es) t) (hdb : (x == ("__debug__" : Str)) = false := by decide) (he : starEach (e :: es) X.env = (false, eval e X.env) :: starEach es X.env := by rfl) (hpl : (backTo pos (starEach es X.env)).any (·.1) = false := by rfl) :
  PE X (.Call (.Name x p) (e :: es) [] pos) (zu6 sp dvs E t) := by
 intro pins s σ H Q I h
 refine wpAny_Call_Name_kw (zk0 I hg hm ?_ hdb)
 refine PySem.W.callWith_K (h₀ := X.base) I.ok.mod.kin hk (thn (ha pos pins s σ H _ I h) fun us s1 ⟨vs, H1, I1, r, q⟩ => ⟨I1.kIn, ?_⟩) he hpl
 exact zls F hr hb hd hx I1 r q
theorem zso {pl : Sem Bool} (he : PE X o ta) (c : Cls X.K C) (hm : zqt X.K C m f) (F : zbd X.prog X.w X.K X.mg X.base CX k f fd ps sp) (hr : Room k X.A) (hb : Binds X.K fd ps ds) (hd : Vals dvs ds) (hx : zgg CX X E) (ha : PA X (e :: es) t)
  (hst : starEach (e :: es) X.env = (false, eval e X.env) :: starEach es X.env := by rfl) (hpl : (backTo pos (starEach es X.env)).any (·.1) = false := by rfl)
  (ht : eval (.Call (.Attribute o m apos) (e :: es) [] pos) X.env = (do
   let ov ← eval o X.env
   standAt apos.atName
   let (f, first) ← holding [ov] (getMethod ov m pl)
   callWith pos f first (backTo pos (starEach (e :: es) X.env)) (backToKw pos (keywordEach [] X.env))) := by rfl) :
  PE X (.Call (.Attribute o m apos) (e :: es) [] pos) (zth C m sp dvs E ta t) := by
 intro pins s σ H Q I h
 refine PySem.W.methodCall_KW (pl := pl) (thn (he pins s σ H _ I h) fun u s1 ⟨x, H1, I1, rx, a, dx, fs, ex, ea, l, q⟩ => ?_) ht
 subst ex
 obtain rfl : u = Value.ref a := rx
 refine zi2 I1 ea c hm l ?_
 refine PySem.W.callWith_K (first := [.ref a]) (h₀ := X.base) I.ok.mod.kin hm.kp (thn (ha pos pins s1 σ H1 _ I1 q) fun us s2 ⟨vs, H2, I2, r, q2⟩ => ⟨I2.kIn, ?_⟩) hst hpl
 exact zls (us := .ref a :: us) (vs := .ref a :: vs) F hr hb hd hx I2 (.cons rfl r) q2
theorem zqv {pl : Sem Bool} (he : PE X o ta) (c : Cls X.K C) (hm : zqt X.K C m f) (F : zbd X.prog X.w X.K X.mg X.base CX k f fd ps sp) (hr : Room k X.A) (hb : Binds X.K fd ps ds) (hd : Vals dvs ds) (hx : zgg CX X E)
  (ht : eval (.Call (.Attribute o m apos) [] [] pos) X.env = (do
   let ov ← eval o X.env
   standAt apos.atName
   let (f, first) ← holding [ov] (getMethod ov m pl)
   callWith pos f first (backTo pos (starEach [] X.env)) (backToKw pos (keywordEach [] X.env))) := by rfl) :
  PE X (.Call (.Attribute o m apos) [] [] pos) (zth C m sp dvs E ta zuw) := by
 intro pins s σ H Q I h
 refine PySem.W.methodCall_KW (pl := pl) (thn (he pins s σ H _ I h) fun u s1 ⟨x, H1, I1, rx, a, dx, fs, ex, ea, l, q⟩ => ?_) ht
 subst ex
 obtain rfl : u = Value.ref a := rx
 refine zi2 I1 ea c hm l ?_
 exact PySem.W.callWith_K0 (first := [.ref a]) I1.kIn hm.kp (zls (us := [.ref a]) (vs := [.ref a]) F hr hb hd hx I1 (.cons rfl .nil) q)
structure Mk (K : PySem.W.Frag) (C f : Addr) : Prop where
 makes : PySem.W.makesIn K C = true
 init : PySem.W.findIn K (.ref C) "__init__" = some (some (.ref f))
 fn : PySem.W.isFn K (.ref f) = true
 kp : PySem.W.keepIn K (.ref C) = true
theorem zro {pins : List (Addr × Obj)} {σ : St} {H : Hp} {s : Shared} {Q : VK} {us : List Value} {vs : List V} (M : Mk X.K C f) (F : zbd X.prog X.w X.K X.mg X.base CX k f fd ps sp) (hr : Room (k + 1) X.A) (hb : Binds X.K fd ps ds) (hd : Vals dvs ds)
  (hx : zgg CX X E) (I : Inv X pins σ H s) (r : Vals vs us)
  (h : ∀ x dx, H x = none → H dx = none → dx ≠ x → sp (.ref x :: (vs ++ dvs)) (upd (upd H dx (.own x)) x (.ins C dx [])) (fun v H2 => v = .non ∧ Q (.ref x) H2) E) :
  wpAny (model X.prog X.w) X.A (call (.ref C) us) (EP X pins σ Q) X.xe s := by
 have hq := h (s.heap.objs.size + 1) s.heap.objs.size (I.hok.fresh (Nat.le_succ _)) (I.hok.fresh (Nat.le_refl _)) (Nat.ne_of_lt (Nat.lt_succ_self _))
 have I2 := Inv.made (C := C) I
 have r2 : Vals (V.ref (s.heap.objs.size + 1) :: (vs ++ dvs)) (Value.ref (s.heap.objs.size + 1) :: (us ++ ds)) := .cons rfl (r.append hd)
 have hl : (Value.ref (s.heap.objs.size + 1) :: us ++ ds).length = ps.length := by
  have e := r2.length
  rw [F.len _ _ _ _ hq] at e
  exact e.symm
 refine wpAny_call (zq8 (f := f) I.kIn M.makes M.init (beq_iff_eq.mp M.fn) (codeAny_mono (F.run _ X.stack _ _ ⟨Value.ref (s.heap.objs.size + 1) :: us, []⟩ (Value.ref (s.heap.objs.size + 1) :: (us ++ ds)) _ _ E (hr.make C us [])
  (I2.env0.make C us []) (hb _ (Value.ref (s.heap.objs.size + 1) :: us) I2.kIn hl) r2 hq) fun r s' hq' => ?_))
 cases r with
 | error e => exact hx pins σ _ _ e s' I2 hq'
 | ok fl =>
  cases fl with
  | ret u =>
   obtain ⟨v, H', I3, rv, ev, q3⟩ := I2.after hq'
   subst ev
   exact ⟨rv, ⟨V.ref (s.heap.objs.size + 1), H', I3, rfl, q3⟩⟩
  | next => exact False.elim hq'
  | brk => exact False.elim hq'
  | cont => exact False.elim hq'
theorem zsc (M : Mk X.K C f) (F : zbd X.prog X.w X.K X.mg X.base CX k f fd ps sp) (hr : Room (k + 1) X.A) (hg : Gl X x) (hm : X.mg x = some (.ref C)) (hb : Binds X.K fd ps ds) (hd : Vals dvs ds) (hx : zgg CX X E)
  (ha : PA X (e :: es) t) (hdb : (x == ("__debug__" : Str)) = false := by decide) (he : starEach (e :: es) X.env = (false, eval e X.env) :: starEach es X.env := by rfl) (hpl : (backTo pos (starEach es X.env)).any (·.1) = false := by rfl) :
  PE X (.Call (.Name x p) (e :: es) [] pos) (zva C sp dvs E t) := by
 intro pins s σ H Q I h
 refine wpAny_Call_Name_kw (zk0 I hg hm ?_ hdb)
 refine PySem.W.callWith_K (h₀ := X.base) I.ok.mod.kin M.kp (thn (ha pos pins s σ H _ I h) fun us s1 ⟨vs, H1, I1, r, q⟩ => ⟨I1.kIn, ?_⟩) he hpl
 exact zro M F hr hb hd hx I1 r q
end
section
variable {X : Cx} {CX : CXT} {k : Nat} {f C : Addr} {fd : FuncData} {ps ks : List Str} {sp : Sp} {E : XK} {x m : Str} {p pos apos kpos : Pos} {e o : Expr} {es : List Expr} {kws : List Keyword} {te ta : TE} {t tk : TA} {nm : Option Str}
variable {g : List Value → List Value → List Value} {gV : List V → List V → List V}
end
structure zat (N P : List Str) (sc : Scope) : Prop where
 kind : sc.kind = .function
 co : sc.isCoroutine = false
 gen : sc.isGenerator = false
 nd : N.Nodup
 pre : N.take P.length = P
 par : ∀ x ∈ P, sc.names.lookup x = some .local ∨ sc.names.lookup x = some .cell
 nofree : ∀ y ∈ sc.names, y.2 ≠ .free
theorem zkt {kindOf : Str → Option NameKind} {x : Str} : ∀ {binds : List (Str × Value)} {m : Str → Option Value}, (∀ v, (x, v) ∉ binds) → bindL kindOf binds m x = m x
 | [], _, _ => rfl
 | (n, v) :: r, m, h => by
  unfold bindL
  rw [zkt fun w hw => h w (List.mem_cons_of_mem _ hw)]
  split
  ·have : x ≠ n := by rintro rfl; exact h v List.mem_cons_self
   simp [this]
  ·rfl
theorem zke {kindOf : Str → Option NameKind} {x : Str} : ∀ {binds : List (Str × Value)} {m : Str → Option Value}, (∀ v, (x, v) ∉ binds) → bindC kindOf binds m x = m x
 | [], _, _ => rfl
 | (n, v) :: r, m, h => by
  unfold bindC
  rw [zke fun w hw => h w (List.mem_cons_of_mem _ hw)]
  split
  ·rfl
  ·have : x ≠ n := by rintro rfl; exact h v List.mem_cons_self
   simp [this]
theorem zj5 {kindOf : Str → Option NameKind} {x : Str} {v : Value} : ∀ {P : List Str} {vs : List Value} {i : Nat} {m : Str → Option Value}, P.Nodup → P[i]? = some x → vs[i]? = some v → kindOf x = some .local →
  bindL kindOf (P.zip vs) m x = some v
 | [], _, _, _, _, h, _, _ => by simp at h
 | _ :: _, [], _, _, _, _, h, _ => by simp at h
 | p :: P, w :: vs, 0, m, nd, h1, h2, hk => by
  simp at h1 h2; subst h1; subst h2
  show bindL kindOf ((p, w) :: P.zip vs) m p = _
  unfold bindL
  rw [zkt fun v hv => (List.nodup_cons.mp nd).1 (List.of_mem_zip hv).1, if_pos hk]
  simp
 | p :: P, w :: vs, i + 1, m, nd, h1, h2, hk => by
  show bindL kindOf ((p, w) :: P.zip vs) m x = _
  unfold bindL
  exact zj5 (i := i) (List.nodup_cons.mp nd).2 (by simpa using h1) (by simpa using h2) hk
theorem zkv {kindOf : Str → Option NameKind} {x : Str} {v : Value} : ∀ {P : List Str} {vs : List Value} {i : Nat} {m : Str → Option Value}, P.Nodup → P[i]? = some x → vs[i]? = some v → kindOf x ≠ some .local →
  bindC kindOf (P.zip vs) m x = some v
 | [], _, _, _, _, h, _, _ => by simp at h
 | _ :: _, [], _, _, _, _, h, _ => by simp at h
 | p :: P, w :: vs, 0, m, nd, h1, h2, hk => by
  simp at h1 h2; subst h1; subst h2
  show bindC kindOf ((p, w) :: P.zip vs) m p = _
  unfold bindC
  rw [zke fun v hv => (List.nodup_cons.mp nd).1 (List.of_mem_zip hv).1, if_neg hk]
  simp
 | p :: P, w :: vs, i + 1, m, nd, h1, h2, hk => by
  show bindC kindOf ((p, w) :: P.zip vs) m x = _
  unfold bindC
  exact zkv (i := i) (List.nodup_cons.mp nd).2 (by simpa using h1) (by simpa using h2) hk
def zgw (N : List Str) (vs : List V) : St := vs.map some ++ List.replicate (N.length - vs.length) none
def zdh (CX : CXT) (P : Program) (w : World) (K : PySem.W.Frag) (mg : Str → Option Value) (base : Heap) (N : List Str) (qual : Str) (scope : Scope) (f : Addr) (cd : Value) (A : Around) (outer : List Env) (s : Shared) (H : Hp) (E : XK) : Cx where
 prog := P
 w := w
 K := K
 mg := mg
 base := base
 A := A.deeper (envOfC qual scope s.heap.objs.size f cd)
 N := N
 s₀ := s
 H₀ := H
 env := envOfC qual scope s.heap.objs.size f cd
 outer := outer
 stack := envOfC qual scope s.heap.objs.size f cd :: outer
 ex := []
 calm := true
 fn := fun _ => true
 pn := []
 xe := fun e s' => wpAny (model P w) (A.deeper (envOfC qual scope s.heap.objs.size f cd)) (leaving (envOfC qual scope s.heap.objs.size f cd) e) (fun _ s'' => CX outer H s E e s'') (fun e' s'' => CX outer H s E e' s'') s'
theorem zl9 {sc : Scope} {n : Nat} {x : Str} (h : sc.names.lookup x = some .cell) : ∃ c, (cellsFrom n sc.names []).lookup x = some c := by
 have q := PySem.W.cellsFrom_some sc.names n [] (.inl h)
 exact Option.isSome_iff_exists.mp q
theorem zpu {CX : CXT} {P : Program} {w : World} {K : PySem.W.Frag} {mg : Str → Option Value} {base : Heap} {N ps : List Str} {qual : Str} {scope : Scope} {f : Addr} {cd : Value} {A : Around} {outer : List Env} {s s1 : Shared} {H : Hp} {E : XK} {us : List Value} {vs : List V}
  (S : zat N ps scope) (hd : A.handled = none) (e0 : Env0 P w K mg base A outer s H) (hl : vs.length = ps.length) (r : Vals vs us)
  (x : InCallC s s.heap.objs.size (bindL (envOfC qual scope s.heap.objs.size f cd).kindOf (ps.zip us) fun _ => none) (cellsFrom (s.heap.objs.size + 1) scope.names []) (bindC (envOfC qual scope s.heap.objs.size f cd).kindOf (ps.zip us) fun _ => none) s1) :
  Inv (zdh CX P w K mg base N qual scope f cd A outer s H E) [] (zgw N vs) H s1 := by
 have hpl : ps.length ≤ N.length := by have := congrArg List.length S.pre; rw [List.length_take] at this; omega
 obtain ⟨h1, tk, rfl, hk⟩ := x.done
 have noA : ∀ b : Addr, b ∉ (zdh CX P w K mg base N qual scope f cd A outer s H E).ex := fun b z => absurd (show b ∈ ([] : List Addr) from z) (by simp)
 refine ⟨⟨e0.mod, S.kind, rfl, rfl, Nat.le_refl _, fun y z c h1 h2 => ?_, fun y hy => ?_, fun y c _ h => ?_, fun _ => hd, Around.frames_deeper e0.frames, .inr ⟨rfl, rfl⟩, fun b z => absurd z (noA b), e0.bs, e0.bsz, fun b _ _ => noA b, fun b z => absurd z (noA b), e0.funs, e0.frf⟩,
  rfl, e0.bare, Un.kept hk, ⟨_, x.toInCall.ns, fun i y v h1 h2 h3 => ?_⟩, fun y c h => ⟨_, x.cell y c h⟩, e0.hok.fresh (Nat.le_refl _), fun y c h => ?_, fun p hp => absurd (show p ∈ ([] : List (Addr × Obj)) from hp) (by simp), e0.hok.kept hk, ?_⟩
 ·exact name_of_addr x.apart (PySem.mem_of_lookup h1) (PySem.mem_of_lookup h2)
 ·have hy : scope.names.lookup y = some .cell ∨ scope.names.lookup y = some .free := hy
  rcases hy with hy | hy
  ·exact zl9 hy
  ·exact absurd rfl (S.nofree _ (PySem.mem_of_lookup hy))
 ·exact Nat.le_of_lt (x.above y c (PySem.mem_of_lookup h))
 ·have hi : i < vs.length := by
   unfold zgw at h2
   by_cases hi : i < vs.length
   ·exact hi
   ·rw [List.getElem?_append_right (by simpa using hi)] at h2
    rw [List.getElem?_replicate] at h2
    split at h2 <;> cases h2
  have ha : vs[i]? = some v := by
   unfold zgw at h2
   rw [List.getElem?_append_left (by simpa using hi), List.getElem?_map] at h2
   cases e : vs[i]? with
   | none => rw [e] at h2; cases h2
   | some a => rw [e] at h2; cases h2; rfl
  obtain ⟨u, hu, rv⟩ := r.get ha
  have hp : ps[i]? = some y := by
   rw [← S.pre, List.getElem?_take_of_lt (by omega)]; exact h1
  have ndP : ps.Nodup := by rw [← S.pre]; exact S.nd.sublist (List.take_sublist _ _)
  refine ⟨u, rv, ?_⟩
  rcases S.par y (List.mem_of_getElem? hp) with k | k
  ·exact .inl ⟨k, zj5 ndP hp hu k⟩
  ·obtain ⟨c, e⟩ := zl9 (n := s.heap.objs.size + 1) k
   refine .inr ⟨.inl k, c, e, ?_⟩
   have q := x.cell y c e
   rw [zkv ndP hp hu (by show scope.names.lookup y ≠ _; rw [k]; decide)] at q
   exact q
 ·exact e0.hok.fresh (Nat.le_of_lt (x.above y c (PySem.mem_of_lookup h)))
 ·unfold zgw
  show _ = N.length
  rw [List.length_append, List.length_map, List.length_replicate]
  omega
theorem zto {CX : CXT} {P : Program} {w : World} {K : PySem.W.Frag} {mg : Str → Option Value} {base : Heap} {k : Nat} {f : Addr} {name qual : Str} {params : Arguments} {body : List Stmt} {scope : Scope} {dV kV doc pm cdv ct oc : Value} {an od : Option Addr}
  {osl : Array (Option Value)} {N ps : List Str} {sp : Sp} (lk : K.lookup f = some ⟨oc, od, .func (PySem.W.fnOf name qual params body scope dV kV doc pm an cdv ct), osl⟩) (hcd : PySem.W.codeIn K cdv qual = true) (S : zat N ps scope)
  (len : ∀ vs H Q E, sp vs H Q E → vs.length = ps.length)
  (hbody : ∀ (A : Around) (outer : List Env) (s : Shared) (H : Hp) (vs : List V) (Q : VK) (E : XK), Room k (A.deeper (envOfC qual scope s.heap.objs.size f cdv)) → sp vs H Q E →
   ∃ t, PSs (zdh CX P w K mg base N qual scope f cdv A outer s H E) body t ∧ t { nx := fun _ H' => Q .non H', rt := Q } (zgw N vs) H) :
  zbd P w K mg base CX (k + 1) f (PySem.W.fnOf name qual params body scope dV kV doc pm an cdv ct) ps sp := by
 refine ⟨len, fun A outer s H args us vs Q E hr e0 hb r hsp => ?_⟩
 have hl := len _ _ _ _ hsp
 have KX : K.In s.heap := e0.mod.kin.keeps fun b o e => (e0.bs b o e).1
 have lim : s.heap.NoLimit := e0.mod.nolimit.keeps fun b o e => (e0.bs b o e).1
 have hkind : ∀ y ∈ ps.zip us, scope.names.lookup y.1 = some .local ∨ (scope.names.lookup y.1 = some .cell ∧ ((cellsFrom (s.heap.objs.size + 1) scope.names []).lookup y.1).isSome = true) := fun ⟨n, v⟩ hy => by
  rcases S.par n (List.of_mem_zip hy).1 with q | q
  ·exact .inl q
  ·exact .inr ⟨q, PySem.W.cellsFrom_some _ _ _ (.inl q)⟩
 refine codeAny_call_function hr.depth (KX _ _ lk) rfl S.co S.gen rfl (PySem.W.codeRec_of KX hcd) (hb _ _ _ _ ?_)
 refine wpAny_newFunctionEnv_cells S.kind hkind fun env he s1 x => ?_
 subst he
 refine ⟨lim.keeps x.toInCall.keep, codeAny_func ?_⟩
 obtain ⟨t, ht, hq⟩ := hbody A outer s H vs Q E (hr.deeper _) hsp
 have I : Inv (zdh CX P w K mg base N qual scope f cdv A outer s H E) [] (zgw N vs) H s1 := zpu S hr.hd e0 hl r x
 refine wpAny_mono (ht [] s1 (zgw N vs) H _ I hq) (fun fl s' hs => ?_) fun e s' hs => hs
 have fin : ∀ {σ' : St} {H' : Hp} {v : V} {u : Value}, Inv (zdh CX P w K mg base N qual scope f cdv A outer s H E) [] σ' H' s' → RelV v u → Q v H' → CE outer P w H s Q u s' :=
  fun {σ' H' v u} J rv q => ⟨v, H', J.os, J.bare, J.base, J.hok, rv, q⟩
 cases fl with
 | ret u =>
  obtain ⟨v, σ', H', J, rv, q⟩ := hs
  exact fin J rv q
 | next =>
  obtain ⟨σ', H', J, q⟩ := hs
  exact fin (v := V.non) (u := Value.none) J rfl q
 | brk =>
  obtain ⟨_, _, _, q⟩ := hs
  exact False.elim q
 | cont =>
  obtain ⟨_, _, _, q⟩ := hs
  exact False.elim q
end L2
namespace L2
open PySem PySem.Spec PyProof.Rows
section
variable {X : Cx} {x : Str} {p pos : Pos} {e : Expr} {es : List Expr} {t : TA} {id T : String} {r : List V → Hp → VK → Prop}
def tCB (r : List V → Hp → VK → Prop) (t : TA) : TE := fun σ H Q => t σ H fun vs H1 => r vs H1 Q
theorem za1 (hc : zeq X (.builtin id) r) (hg : Gl X x) (hm : X.mg x = none) (hv : bootBuiltins x = some (.builtin id)) (ha : PA X (e :: es) t) (hn : x ≠ "__name__" := by decide) (hdb : (x == ("__debug__" : Str)) = false := by decide)
  (he : starEach (e :: es) X.env = (false, eval e X.env) :: starEach es X.env := by rfl) (hpl : (backTo pos (starEach es X.env)).any (·.1) = false := by rfl) : PE X (.Call (.Name x p) (e :: es) [] pos) (tCB r t) := by
 intro pins s σ H Q I h
 refine wpAny_Call_Name_kw (zk4 I hg hm hv ?_ hn hdb)
 exact PyProof.Rows.callWith_builtin1 (thn (ha pos pins s σ H _ I h) fun us s1 ⟨vs, H1, I1, r1, q1⟩ => hc pins s1 σ H1 vs us Q I1 r1 q1) he hpl
theorem zcy (hc : zeq X (.type T) r) (hg : Gl X x) (hm : X.mg x = none) (hv : bootBuiltins x = some (.type T)) (ha : PA X (e :: es) t) (hn : x ≠ "__name__" := by decide) (hdb : (x == ("__debug__" : Str)) = false := by decide)
  (he : starEach (e :: es) X.env = (false, eval e X.env) :: starEach es X.env := by rfl) (hpl : (backTo pos (starEach es X.env)).any (·.1) = false := by rfl) : PE X (.Call (.Name x p) (e :: es) [] pos) (tCB r t) := by
 intro pins s σ H Q I h
 refine wpAny_Call_Name_kw (zk4 I hg hm hv ?_ hn hdb)
 exact PyProof.Rows.callWith_type1 (thn (ha pos pins s σ H _ I h) fun us s1 ⟨vs, H1, I1, r1, q1⟩ => hc pins s1 σ H1 vs us Q I1 r1 q1) he hpl
end
end L2
namespace HT
open PySem PyProof.Rows
section
open PySem.SeqAt
open PySem.AutoSeq1 (wpAny_loadPart')
open PySem.MeetsSeq PySem.MeetsSeq2 PySem.MeetsSeq3
end
section
variable {prog : Program} {w : World} {A : Around} {E : Value → Shared → Prop} {s : Shared}
theorem cat_tup {t b : Addr} {vs ws : List Value} {Q : Value → Shared → Prop} (ht : IsTup s.heap t vs.toArray) (hb : IsTup s.heap b ws.toArray) (hv : vs ≠ [])
  (h1 : ws = [] → Q (.ref t) s) (h2 : ws ≠ [] → Q (.ref s.heap.objs.size) { s with heap := s.heap.push { cls := .type "tuple", data := .seq (vs ++ ws).toArray } })
  (hsz : vs.length + ws.length ≤ sizeLine) : wpAny (model prog w) A (binaryOp .Add (.ref t) (.ref b)) Q E s := by
 obtain ⟨⟨cls, dd, data, sl⟩, ho, hc, n, hd⟩ := id ht
 obtain ⟨⟨cls2, dd2, data2, sl2⟩, ho2, hc2, n2, hd2⟩ := id hb
 simp only at hc hd hc2 hd2
 subst hc hd hc2 hd2
 have e : vs.toArray ++ ws.toArray = (vs ++ ws).toArray := by simp
 by_cases hw : ws = []
 ·exact concat_meets ⟨_, ho, rfl⟩ ⟨_, ho2, rfl⟩ noFill_tuple_add seq_tuple_add PySem.F.slot_tuple_add PySem.F.entry_tuple_add (PySem.F.args_tuple_add_2 _ _)
   (tuple_addW1 t b vs.toArray ws.toArray n n2 dd dd2 sl sl2 (by simpa using hv) (by simp [hw])) ⟨ho, ho2, h1 hw⟩
 ·refine concat_meets ⟨_, ho, rfl⟩ ⟨_, ho2, rfl⟩ noFill_tuple_add seq_tuple_add PySem.F.slot_tuple_add PySem.F.entry_tuple_add (PySem.F.args_tuple_add_2 _ _)
   (tuple_addW2 t b vs.toArray ws.toArray n n2 dd dd2 sl sl2 (by simpa using hv) (by simpa using hw) (by rw [List.size_toArray, List.size_toArray]; exact hsz)) ⟨ho, ho2, ?_⟩
  rw [e]
  exact h2 hw
def sIx (n d : Nat) : Option Int → Nat
 | none => d
 | some v => if v < 0 then (v + (n : Int)).toNat else min v.toNat n
theorem sIx_none (n d : Nat) : sIx n d none = d := rfl
theorem sIx_nat (n d k : Nat) : sIx n d (some (k : Int)) = min k n := by
 show (if (k : Int) < 0 then ((k : Int) + (n : Int)).toNat else min (k : Int).toNat n) = min k n
 rw [if_neg (by omega), Int.toNat_natCast]
theorem zt7 (n d : Nat) (hd : d ≤ n) (o : Option Int) : sIx n d o ≤ n := by
 cases o with
 | none => exact hd
 | some v =>
  show (if v < 0 then (v + (n : Int)).toNat else min v.toNat n) ≤ n
  by_cases hv : v < 0
  ·rw [if_pos hv]; omega
  ·rw [if_neg hv]; exact Nat.min_le_right _ _
theorem zon (v : Int) (n d : Nat) : (if v < 0 then max (v + (n : Int)) 0 else min v (n : Int)) = ((sIx n d (some v) : Nat) : Int) := by
 show (if v < 0 then max (v + (n : Int)) 0 else min v (n : Int)) = (((if v < 0 then (v + (n : Int)).toNat else min v.toNat n) : Nat) : Int)
 by_cases hv : v < 0
 ·simp only [if_pos hv]; omega
 ·simp only [if_neg hv]; omega
theorem znp (lo hi : Option Int) (n : Nat) : Builtin.Slice.sliceAdjust lo hi 1 (n : Int) = (((sIx n 0 lo : Nat) : Int), ((sIx n n hi : Nat) : Int)) := by
 have h1 : ¬ ((1 : Int) < 0) := by omega
 unfold Builtin.Slice.sliceAdjust
 simp only [h1, if_false]
 refine Prod.ext ?_ ?_
 ·cases lo with
  | none => rfl
  | some v => exact zon v n 0
 ·cases hi with
  | none => rfl
  | some v => exact zon v n n
theorem zob (i j : Nat) : Builtin.Slice.slicePlaces (i : Int) (j : Int) 1 = j - i := by
 unfold Builtin.Slice.slicePlaces
 have h1 : (1 : Int) > 0 := by omega
 simp only [h1, if_true, Int.ediv_one]
 split <;> omega
theorem zd9 {v : Value} {o : Option Int} {Q : Option Int → Shared → Prop} (p : IsPart v o) (h : Q o s) : wpAny (model prog w) A (Builtin.Slice.slicePartIndex v) Q E s := by
 cases p with
 | none => exact slicePart_none h
 | int i t => exact slicePart_int h
theorem zem {sl : Addr} {vl vu : Value} {lo hi : Option Int} {n : Nat} {Q : Int × Int × Nat → Shared → Prop} (hs : s.heap.IsSliceOf sl vl vu .none) (pl : IsPart vl lo) (pu : IsPart vu hi)
  (h : Q (((sIx n 0 lo : Nat) : Int), 1, sIx n n hi - sIx n 0 lo) s) : wpAny (model prog w) A (Builtin.Slice.sliceApplied (.ref sl) (pure (n : Int))) Q E s := by
 obtain ⟨os, hos, hcs, hds⟩ := id hs
 unfold Builtin.Slice.sliceApplied Builtin.Slice.sliceFields
 refine wpAny_bind (wpAny_bind (wpAny_field hos hds (x := vl) rfl (wpAny_bind (wpAny_field hos hds (x := vu) rfl (wpAny_bind (wpAny_field hos hds (x := .none) rfl (wpAny_pure ?_)))))))
 refine wpAny_bind (slicePart_none ?_)
 show wpAny _ _ (if ((1 : Int) == 0) = true then _ else _) _ _ s
 rw [if_neg (by decide)]
 refine wpAny_bind (zd9 pl (wpAny_bind (zd9 pu (wpAny_bind (wpAny_pure ?_)))))
 show wpAny _ _ (match Builtin.Slice.sliceAdjust lo hi 1 (n : Int) with | (lo, hi) => pure (lo, (1 : Int), Builtin.Slice.slicePlaces lo hi 1)) _ _ s
 rw [znp lo hi n]
 show wpAny _ _ (pure (((sIx n 0 lo : Nat) : Int), (1 : Int), Builtin.Slice.slicePlaces ((sIx n 0 lo : Nat) : Int) ((sIx n n hi : Nat) : Int) 1)) _ _ s
 rw [zob]
 exact wpAny_pure h
theorem zrh (xs : Array Value) (i k : Nat) : ((List.range k).filterMap fun (m : Nat) => xs[((i : Int) + (m : Int) * 1).toNat]?).toArray = ((xs.toList.drop i).take k).toArray := by
 have e : (fun (m : Nat) => xs[((i : Int) + (m : Int) * 1).toNat]?) = fun m => xs[i + m]? := by
  funext m
  have : ((i : Int) + (m : Int) * 1).toNat = i + m := by omega
  rw [this]
 rw [e]
 have := pick_run xs i k
 rw [List.filterMap_map] at this
 have e2 : ((fun x => xs[x]?) ∘ fun x => i + x) = fun m => xs[i + m]? := rfl
 rw [e2] at this
 rw [this]
theorem getItem_tuple_cut {t sl : Addr} {items : Array Value} {vl vu : Value} {lo hi : Option Int} {Q : Value → Shared → Prop} (ht : IsTup s.heap t items) (hs : s.heap.IsSliceOf sl vl vu .none) (pl : IsPart vl lo) (pu : IsPart vu hi)
  (hw : ¬ (sIx items.size 0 lo = 0 ∧ sIx items.size items.size hi = items.size))
  (h : Q (.ref s.heap.objs.size) { s with heap := s.heap.push { cls := .type "tuple", data := .seq ((items.toList.drop (sIx items.size 0 lo)).take (sIx items.size items.size hi - sIx items.size 0 lo)).toArray } })
  (hsz : items.size ≤ sizeLine) : wpAny (model prog w) A (getItem (.ref t) (.ref sl)) Q E s := by
 have htake : sizeOk (.seq ((items.toList.drop (sIx items.size 0 lo)).take (sIx items.size items.size hi - sIx items.size 0 lo)).toArray) := by
  show ((items.toList.drop (sIx items.size 0 lo)).take (sIx items.size items.size hi - sIx items.size 0 lo)).toArray.size ≤ sizeLine
  rw [List.size_toArray, List.length_take, List.length_drop, Array.length_toList]
  omega
 have hj : sIx items.size items.size hi ≤ items.size := zt7 _ _ (Nat.le_refl _) hi
 obtain ⟨os, hos, hcs, hds⟩ := id hs
 have hTs : s.TypeIs (.ref sl) "slice" := ⟨os, hos, hcs⟩
 unfold getItem
 try with_reducible refine wpAny_holding ?_
 first | refine wpAny_bind (wpAny_pure ?_) | skip
 refine wpAny_bind (wpAny_sequenceKey ht.typeIs (by decide) ?_)
 refine wpAny_bind (wpAny_callSpecial?_slot (name := Str.ofString "__getitem__") ht.typeIs PyProof.Rows.slot_tuple_getitem
  (wpAny_call_entry PyProof.Rows.slot_tuple_getitem ht.typeIs entry_tuple_getitem ?_ (args_tuple_getitem _ _)))
 show wpAny _ _ (Builtin.Tuple.tupleItemsOf (.ref t) >>= _) _ _ s
 refine wpAny_bind (tupleItemsOf_ ht ?_)
 refine wpAny_bind (wpAny_typeOf hTs ?_)
 rw [if_pos (by decide)]
 refine wpAny_bind (zem hs pl pu ?_)
 have hno : ¬ ((((sIx items.size 0 lo : Nat) : Int) == 0 && (1 : Int) == 1 && (sIx items.size items.size hi - sIx items.size 0 lo) == items.size) = true) := by
  intro q
  rw [Bool.and_eq_true, Bool.and_eq_true] at q
  have q1 : ((sIx items.size 0 lo : Nat) : Int) = 0 := eq_of_beq q.1.1
  have q2 : sIx items.size items.size hi - sIx items.size 0 lo = items.size := eq_of_beq q.2
  exact hw ⟨by omega, by omega⟩
 show wpAny _ _ (if (((sIx items.size 0 lo : Nat) : Int) == 0 && (1 : Int) == 1 && (sIx items.size items.size hi - sIx items.size 0 lo) == items.size) = true then _ else _) _ _ s
 rw [if_neg hno, zrh]
 first
  | exact wpAny_bind (m := Builtin.Tuple.tupleExact _) (wpAny_newObj_type (wpAny_pure ⟨_, rfl, wpAny_pure h⟩) htake)
  | exact wpAny_bind (m := Builtin.Tuple.tupleExact _) (wpAny_newObj_type (wpAny_bind (wpAny_pure (wpAny_pure ⟨_, rfl, wpAny_pure h⟩))) htake)
  | exact wpAny_bind (wpAny_bind (m := Builtin.Tuple.tupleExact _) (wpAny_newObj_type (wpAny_pure (wpAny_pure ⟨_, rfl, wpAny_pure h⟩)) htake))
  | exact wpAny_bind (wpAny_bind (m := Builtin.Tuple.tupleExact _) (wpAny_newObj_type (wpAny_pure ⟨_, rfl, wpAny_pure h⟩) htake))
end
end HT
namespace L2
open PySem PySem.Spec PyProof.Rows
abbrev TO := St → Hp → (Option Int → Hp → Prop) → Prop
def PO (X : Cx) (e : Option Expr) (t : TO) : Prop :=
 ∀ (pins : List (Addr × Obj)) (s : Shared) (σ : St) (H : Hp) (Q : Option Int → Hp → Prop), Inv X pins σ H s → t σ H Q →
  wpAny (model X.prog X.w) X.A (evalPart e X.env) (fun u s' => ∃ o H', Inv X pins σ H' s' ∧ IsPart u o ∧ Q o H') X.xe s
def zst : TO := fun _ H Q => Q none H
def zu3 (t : TE) : TO := fun σ H Q => t σ H fun x H1 => ∃ i, x = .int i ∧ Q (some i) H1
theorem zd3 {ns : List Int} : ∀ {us : List Value}, Vals (ns.map V.int) us → IntsAre us ns := by
 induction ns with
 | nil => intro us r; rw [List.map_nil] at r; cases r; exact .nil
 | cons n ns ih =>
  intro us r
  rw [List.map_cons] at r
  cases r with
  | cons r1 r2 =>
   obtain ⟨t, e⟩ := r1
   subst e
   exact .cons n t (ih r2)
section
variable {X : Cx} {e : Expr} {te : TE} {lo hi : Option Expr} {tl th : TO} {pos p2 : Pos}
theorem zf0 : PO X none zst := by
 intro pins s σ H Q I h
 rw [evalPart_none]
 exact wpAny_pure ⟨none, H, I, .none, h⟩
theorem zfr (h : PE X e te) : PO X (some e) (zu3 te) := by
 intro pins s σ H Q I hw
 rw [evalPart_some]
 refine thn (h pins s σ H _ I hw) fun u s1 ⟨x, H1, I1, r1, q1⟩ => ?_
 obtain ⟨i, rfl, q⟩ := q1
 obtain ⟨t, rfl⟩ := r1
 exact ⟨some i, H1, I1, .int i t, q⟩
def SlR (X : Cx) (r : V → Option Int → Option Int → Hp → VK → Prop) : Prop :=
 ∀ (pins : List (Addr × Obj)) (s : Shared) (σ : St) (H : Hp) (x : V) (v vl vu : Value) (lo hi : Option Int) (sl : Addr) (Q : VK), Inv X pins σ H s → RelV x v → s.heap.IsSliceOf sl vl vu .none → IsPart vl lo → IsPart vu hi → r x lo hi H Q →
  ∃ T id, typeLookup (.type T) "__getitem__" = pure (some (.builtin id)) ∧ s.TypeIs v T ∧ wpAny (model X.prog X.w) X.A (getItem v (.ref sl)) (EP X pins σ Q) X.xe s
def tSl (r : V → Option Int → Option Int → Hp → VK → Prop) (te : TE) (tl th : TO) : TE := fun σ H Q => te σ H fun x H1 => tl σ H1 fun l H2 => th σ H2 fun u H3 => r x l u H3 Q
theorem zer {r : V → Option Int → Option Int → Hp → VK → Prop} (hr : SlR X r) (he : PE X e te) (hl : PO X lo tl) (hu : PO X hi th) : PE X (.Subscript e (.Slice lo hi none p2) pos) (tSl r te tl th) := by
 intro pins s σ H Q I h
 refine Subscript_ (thn (he pins s σ H _ I h) fun v s1 ⟨x, H1, I1, r1, q1⟩ => ?_)
 refine wpAny_Slice (thn (hl pins s1 σ H1 _ I1 q1) fun vl s2 ⟨l, H2, I2, pl, q2⟩ => thn (hu pins s2 σ H2 _ I2 q2) fun vu s3 ⟨u, H3, I3, pu, q3⟩ => ?_)
 rw [evalPart_none]
 refine wpAny_pure ?_
 have I4 : Inv X pins σ H3 { s3 with heap := s3.heap.push { cls := .type "slice", data := .fields #[vl, vu, .none] } } := I3.kept (t' := s3.toks) fun b ob q => Heap.get?_push_of_some _ q
 obtain ⟨T, id, hT, ht, hg⟩ := hr pins { s3 with heap := s3.heap.push { cls := .type "slice", data := .fields #[vl, vu, .none] } } σ H3 x v vl vu l u s3.heap.objs.size Q I4 r1 (Heap.IsSliceOf.new ..) pl pu q3
 show wpAny (model X.prog X.w) X.A (subscriptTail e (.Slice lo hi none p2) v (.ref s3.heap.objs.size)) (EP X pins σ Q) X.xe { s3 with heap := s3.heap.push { cls := .type "slice", data := .fields #[vl, vu, .none] } }
 exact tail_any (ops := [.ref s3.heap.objs.size, v]) ht hT hg (by with_unfolding_all rfl)
def ze8 (xs : List V) (lo hi : Option Int) : List V := (xs.drop (HT.sIx xs.length 0 lo)).take (HT.sIx xs.length xs.length hi - HT.sIx xs.length 0 lo)
theorem zc8 (xs : List V) (lo hi : Option Int) : (ze8 xs lo hi).length ≤ xs.length := by
 unfold ze8
 rw [List.length_take, List.length_drop]
 omega
def zvs (K : PySem.W.Frag) : V → Option Int → Option Int → Hp → VK → Prop := fun x lo hi H Q => ∃ a xs, x = .ref a ∧ SqT K H a xs ∧
 ¬ (HT.sIx xs.length 0 lo = 0 ∧ HT.sIx xs.length xs.length hi = xs.length) ∧ ∀ p, H p = none → Q (.ref p) (upd H p (.tup (ze8 xs lo hi)))
theorem zul : SlR X (zvs X.K) := by
 intro pins s σ H x v vl vu lo hi sl Q I rx hs pl pu h
 obtain ⟨a, xs, rfl, hx, hw, q⟩ := h
 cases rx
 obtain ⟨its, r, ht, hz⟩ := I.tuple hx
 have hlen : its.toArray.size = xs.length := by rw [List.size_toArray]; exact r.length.symm
 refine ⟨"tuple", _, PyProof.Rows.slot_tuple_getitem.lookup, ht.typeIs, ?_⟩
 refine HT.getItem_tuple_cut ht hs pl pu (by rw [hlen]; exact hw) ?_ (by rw [hlen]; exact hz)
 rw [hlen]
 refine ⟨.ref s.heap.objs.size, _, I.laid (t' := s.toks) (o := .tup (ze8 xs lo hi)) (fun b ob q => Heap.get?_push_of_some _ q) (Nat.le_refl _) ?_, rfl, q _ (I.hok.fresh (Nat.le_refl _))⟩
 exact ⟨Nat.le_trans (zc8 xs lo hi) hz, _, (r.drop (HT.sIx xs.length 0 lo)).take (HT.sIx xs.length xs.length hi - HT.sIx xs.length 0 lo), IsTup.new _ _⟩
def zvb (K : PySem.W.Frag) : R2 := fun x y H Q => ∃ a b xs ys, x = .ref a ∧ y = .ref b ∧ SqT K H a xs ∧ SqT K H b ys ∧ xs ≠ [] ∧ xs.length + ys.length ≤ sizeLine ∧
 (ys = [] → Q (.ref a) H) ∧ (ys ≠ [] → ∀ p, H p = none → Q (.ref p) (upd H p (.tup (xs ++ ys))))
theorem Vals.nil_iff {xs : List V} {us : List Value} (r : Vals xs us) : us = [] ↔ xs = [] := by
 cases r with
 | nil => simp
 | cons _ _ => simp
theorem zsl : OpR X (binaryOp .Add) (zvb X.K) := by
 intro pins s σ H x y v u Q I rx ry h
 obtain ⟨a, b, xs, ys, rfl, rfl, ha, hb, hx, hz, q1, q2⟩ := h
 cases rx
 cases ry
 obtain ⟨its, r1, p1, _⟩ := I.tuple ha
 obtain ⟨its2, r2, p2, _⟩ := I.tuple hb
 refine HT.cat_tup p1 p2 (fun z => hx (r1.nil_iff.mp z)) (fun z => ⟨.ref a, H, I, rfl, q1 (r2.nil_iff.mp z)⟩) (fun z => ?_) (by rw [← r1.length, ← r2.length]; exact hz)
 refine ⟨.ref s.heap.objs.size, _, I.laid (t' := s.toks) (o := .tup (xs ++ ys)) (fun b ob q => Heap.get?_push_of_some _ q) (Nat.le_refl _) ?_, rfl, q2 (fun w => z (r2.nil_iff.mpr w)) _ (I.hok.fresh (Nat.le_refl _))⟩
 exact ⟨by rw [List.length_append]; exact hz, _, r1.append r2, IsTup.new _ _⟩
end
end L2
namespace L2
open PySem PySem.Spec PyProof.Rows
def ixN (n : Nat) (i : Int) : Option Nat := if 0 ≤ i then (if i < n then some i.toNat else none) else if -(n : Int) ≤ i then some (i + n).toNat else none
def atI {α : Type} (xs : List α) (i : Int) : Option α := (ixN xs.length i).bind fun j => xs[j]?
theorem zot {n : Nat} {i : Int} {j : Nat} (h : ixN n i = some j) : seqIndex? i n = some j ∧ j < n ∧ -(n : Int) ≤ i ∧ i < n := by
 unfold ixN at h
 by_cases h0 : 0 ≤ i
 ·rw [if_pos h0] at h
  by_cases h1 : i < n
  ·rw [if_pos h1] at h
   have e : i.toNat = j := Option.some.inj h
   exact ⟨by rw [seqIndex_of h0 h1, e], by omega, by omega, h1⟩
  ·rw [if_neg h1] at h; cases h
 ·rw [if_neg h0] at h
  by_cases h1 : -(n : Int) ≤ i
  ·rw [if_pos h1] at h
   have e : (i + n).toNat = j := Option.some.inj h
   exact ⟨by rw [seqIndex_neg (by omega) h1, e], by omega, h1, by omega⟩
  ·rw [if_neg h1] at h; cases h
theorem zox {α : Type} {xs : List α} {i : Int} {v : α} (h : atI xs i = some v) : ∃ j, seqIndex? i xs.length = some j ∧ xs[j]? = some v ∧ j < xs.length ∧ -(xs.length : Int) ≤ i ∧ i < xs.length := by
 unfold atI at h
 cases e : ixN xs.length i with
 | none => rw [e] at h; cases h
 | some j =>
  rw [e] at h
  obtain ⟨h1, h2, h3, h4⟩ := zot e
  exact ⟨j, h1, h, h2, h3, h4⟩
theorem zd0 {α : Type} {xs : List α} {j : Nat} {v : α} (h : xs[j]? = some v) : atI xs (j : Int) = some v := by
 have hj : j < xs.length := (List.getElem?_eq_some_iff.mp h).1
 have e : ixN xs.length (j : Int) = some j := by
  unfold ixN
  rw [if_pos (by omega), if_pos (by omega)]; simp
 unfold atI; rw [e]; exact h
def zr8 (b : Expr) : Prop := ∀ o i, subscripted b false o i = operate [o, i] (getItem o i)
def IxR (X : Cx) (r : R2) : Prop :=
 ∀ (value slice : Expr) (pins : List (Addr × Obj)) (s : Shared) (σ : St) (H : Hp) (x y : V) (v u : Value) (Q : VK), Inv X pins σ H s → RelV x v → RelV y u → r x y H Q →
  subscripted slice false v u = operate [v, u] (getItem v u) → wpAny (model X.prog X.w) X.A (subscriptTail value slice v u) (EP X pins σ Q) X.xe s
def MtR (X : Cx) (id : String) (r : V → List V → Hp → VK → Prop) : Prop :=
 ∀ (pins : List (Addr × Obj)) (s : Shared) (σ : St) (H : Hp) (x : V) (xs : List V) (v : Value) (us : List Value) (Q : VK), Inv X pins σ H s → RelV x v → Vals xs us → r x xs H Q →
  wpAny (model X.prog X.w) X.A (call (.builtin id) (v :: us)) (EP X pins σ Q) X.xe s
section
variable {X : Cx} {a b : Expr} {ta tb : TE} {pos : Pos}
theorem zan {r : R2} (hr : IxR X r) (ha : PE X a ta) (hb : PE X b tb) (hs : zr8 b) : PE X (.Subscript a b pos) (tOp r ta tb) := by
 intro pins s σ H Q I h
 exact Subscript_ (zt0 ha hb I h fun v u s2 x y H2 I2 rx ry q => hr a b pins s2 σ H2 x y v u Q I2 rx ry q (hs _ _))
def zuy (K : PySem.W.Frag) : R2 := fun x y H Q => ∃ p xs i v, x = .ref p ∧ y = .int i ∧ SqL K H p xs ∧ atI xs i = some v ∧ Q v H
def zu5 (K : PySem.W.Frag) : R2 := fun x y H Q => ∃ p xs i v, x = .ref p ∧ y = .int i ∧ SqT K H p xs ∧ atI xs i = some v ∧ Q v H
theorem ztb : IxR X (zuy X.K) := by
 intro value slice pins s σ H x y v u Q I rx ry h hs
 obtain ⟨p, xs, i, z, rfl, rfl, hq, he, q⟩ := h
 cases rx
 obtain ⟨t, rfl⟩ := ry
 obtain ⟨its, r, pl, hz⟩ := I.list hq
 obtain ⟨j, h1, h2, h3, h4, h5⟩ := zox he
 obtain ⟨w, ew, rw'⟩ := r.get h2
 have hl := r.length
 have hn := zjp
 have fin : EP X pins σ Q w s := ⟨z, H, I, rw', q⟩
 by_cases h0 : 0 ≤ i
 ·have hj : i.toNat = j := by
   rw [seqIndex_of h0 h5] at h1
   exact Option.some.inj h1
  exact item_listR pl.isList h0 (by omega) (by rw [hj]; simpa using ew) fin hs
 ·have hj : (i + (its.toArray.size : Int)).toNat = j := by
   rw [seqIndex_neg (by omega) h4] at h1
   rw [List.size_toArray, ← hl]
   exact Option.some.inj h1
  exact subscriptTail_builtinR (x := w) pl.isList.typeIs slot_list_getitem.lookup
   (wpAny_getItem_list_neg (Q := fun r s' => r = w ∧ EP X pins σ Q r s') pl.isList (by omega) (by rw [List.size_toArray] <;> omega) (by omega) (by rw [hj]; simpa using ew) ⟨rfl, fin⟩) hs
theorem zkz : IxR X (zu5 X.K) := by
 intro value slice pins s σ H x y v u Q I rx ry h hs
 obtain ⟨p, xs, i, z, rfl, rfl, hq, he, q⟩ := h
 cases rx
 obtain ⟨t, rfl⟩ := ry
 obtain ⟨its, r, pl, hz⟩ := I.tuple hq
 obtain ⟨j, h1, h2, h3, h4, h5⟩ := zox he
 obtain ⟨w, ew, rw'⟩ := r.get h2
 have hl := r.length
 have hn := zjp
 have fin : EP X pins σ Q w s := ⟨z, H, I, rw', q⟩
 exact subscriptTail_builtinR (x := w) pl.typeIs slot_tuple_getitem.lookup
  (getItem_tuple (j := j) (Q := fun r s' => r = w ∧ EP X pins σ Q r s') pl (by omega) (by omega) (by rw [List.size_toArray, ← hl]; exact h1) (by simpa using ew) ⟨rfl, fin⟩) hs
theorem znr (its : List Value) (n j : Nat) (u : Value) : Obj.mapSeq (·.setIfInBounds j u) { cls := .type "list", data := .seq its.toArray n } = { cls := .type "list", data := .seq (its.set j u).toArray n } := by
 simp [Obj.mapSeq]
theorem Inv.lst {pins : List (Addr × Obj)} {σ : St} {H : Hp} {s : Shared} {p : Addr} {xs : List V} (I : Inv X pins σ H s) (h : H p = some (.lst xs)) :
  ∃ (its : List Value) (n : Nat), Vals xs its ∧ s.heap.get? p = some { cls := .type "list", data := .seq its.toArray n } ∧ xs.length ≤ sizeLine := by
 obtain ⟨z, its, n, r, e⟩ := I.hok p _ h
 exact ⟨its, n, r, e, z⟩
theorem Inv.lstUpd {pins : List (Addr × Obj)} {σ : St} {H : Hp} {s : Shared} {p : Addr} {xs ys : List V} {its its' : List Value} {n n' : Nat} {f : Obj → Obj} (I : Inv X pins σ H s) (h : H p = some (.lst xs))
  (ho : s.heap.get? p = some { cls := .type "list", data := .seq its.toArray n }) (hf : f { cls := .type "list", data := .seq its.toArray n } = { cls := .type "list", data := .seq its'.toArray n' }) (r : Vals ys its') (hz : ys.length ≤ sizeLine) (t : Nat) :
  Inv X pins σ (upd H p (.lst ys)) { s with heap := s.heap.update p f, toks := t } := by
 have e : (s.heap.update p f).get? p = some { cls := .type "list", data := .seq its'.toArray n' } := by
  rw [Heap.get?_update_self f ho (by rw [hf] <;> rfl), hf]
 refine I.write (x := p) (e := p) (by rw [h]; trivial) (.inl rfl) (fun b u hb q => (Heap.get?_update_other _ _ (Ne.symm hb)).trans q) ⟨_, e⟩ ?_
 exact ⟨hz, its', n', r, e⟩
def zvm : V → V → V → Hp → (Hp → Prop) → Prop := fun o i v H Q => ∃ p xs k j, o = .ref p ∧ i = .int k ∧ H p = some (.lst xs) ∧ ixN xs.length k = some j ∧ Q (upd H p (.lst (xs.set j v)))
theorem zqg : zvg X zvm := by
 intro pins s σ H o i v ov iv u Q I ro ri rv h
 obtain ⟨p, xs, k, j, rfl, rfl, hp, hj, q⟩ := h
 cases ro
 obtain ⟨t, rfl⟩ := ri
 obtain ⟨its, n, r, ho, hz⟩ := I.lst hp
 obtain ⟨h1, h2, h3, h4⟩ := zot hj
 have hl := r.length
 have hn := zjp
 have I' : Inv X pins σ (upd H p (.lst (xs.set j v))) { s with heap := s.heap.update p (Obj.mapSeq (·.setIfInBounds j u)) } :=
  I.lstUpd hp ho (znr its n j u) (r.set rv j) (by rw [List.length_set]; exact hz) s.toks
 by_cases h0 : 0 ≤ k
 ·have hk : k.toNat = j := by
   rw [seqIndex_of h0 h4] at h1
   exact Option.some.inj h1
  exact PySem.W.ki_setAt ho h0 (by omega) (by rw [List.size_toArray, ← hl]; exact h4) (by rw [hk]; exact ⟨_, I', q⟩)
 ·have hk : (k + (its.toArray.size : Int)).toNat = j := by
   rw [seqIndex_neg (by omega) h3] at h1
   rw [List.size_toArray, ← hl]
   exact Option.some.inj h1
  exact PySem.W.ki_setBack ho (by omega) (by rw [List.size_toArray, ← hl]; exact h3) (by omega) (by rw [hk]; exact ⟨_, I', q⟩)
theorem zlu (lo hi : Option Int) (n : Nat) : (sliceBounds lo hi none n).1 = ((HT.sIx n 0 lo : Nat) : Int) ∧ (sliceBounds lo hi none n).2.1 = ((HT.sIx n n hi : Nat) : Int) ∧ (sliceBounds lo hi none n).2.2 = 1 := by
 refine ⟨?_, ?_, rfl⟩
 ·cases lo with
  | none => simp [sliceBounds, HT.sIx]
  | some i =>
   simp only [sliceBounds, HT.sIx, Option.getD_none, show (1 : Int) > 0 by decide, if_true]
   by_cases h : i < 0
   ·simp only [h, if_true] <;> omega
   ·simp only [h, if_false] <;> omega
 ·cases hi with
  | none => simp [sliceBounds, HT.sIx]
  | some i =>
   simp only [sliceBounds, HT.sIx, Option.getD_none, show (1 : Int) > 0 by decide, if_true]
   by_cases h : i < 0
   ·simp only [h, if_true] <;> omega
   ·simp only [h, if_false] <;> omega
theorem zj2 (its : List Value) (lo hi : Option Int) : slicePick its.toArray lo hi none = ((its.drop (HT.sIx its.length 0 lo)).take (HT.sIx its.length its.length hi - HT.sIx its.length 0 lo)).toArray := by
 obtain ⟨h1, h2, h3⟩ := zlu lo hi its.toArray.size
 unfold slicePick
 rw [h1, h2, h3]
 simp only [sliceRange_one, pick_run, List.size_toArray] <;> rfl
def zv9 (K : PySem.W.Frag) : V → Option Int → Option Int → Hp → VK → Prop := fun x lo hi H Q => ∃ a xs, x = .ref a ∧ SqL K H a xs ∧ ∀ p, H p = none → Q (.ref p) (upd H p (.lst (ze8 xs lo hi)))
theorem zsi : SlR X (zv9 X.K) := by
 intro pins s σ H x v vl vu lo hi sl Q I rx hs pl pu h
 obtain ⟨a, xs, rfl, hx, q⟩ := h
 cases rx
 obtain ⟨its, r, ht, hz⟩ := I.list hx
 have hlen := r.length
 refine ⟨"list", _, slot_list_getitem.lookup, ht.isList.typeIs, ?_⟩
 refine wpAny_getItem_list_slice ht.isList hs pl pu .none (by simp) ?_ (by rw [List.size_toArray] <;> omega)
 rw [zj2, ← hlen]
 refine ⟨.ref s.heap.objs.size, _, I.laid (t' := s.toks) (o := .lst (ze8 xs lo hi)) (fun b ob q => Heap.get?_push_of_some _ q) (Nat.le_refl _) ?_, rfl, q _ (I.hok.fresh (Nat.le_refl _))⟩
 exact ⟨Nat.le_trans (zc8 xs lo hi) hz, _, 0, (r.drop (HT.sIx xs.length 0 lo)).take (HT.sIx xs.length xs.length hi - HT.sIx xs.length 0 lo), Heap.get?_push_size _ rfl⟩
def zg6 : V → Bool
 | .non => true
 | .bl _ => true
 | .int _ => true
 | .str _ => true
 | _ => false
def eqV : V → V → Bool
 | .non, .non => true
 | .bl a, .bl b => a == b
 | .bl a, .int b => (if a then 1 else 0) == b
 | .int a, .bl b => a == (if b then 1 else 0)
 | .int a, .int b => a == b
 | .str a, .str b => a == b
 | _, _ => false
theorem zt2 {A : Around} {s : Shared} {y x : V} {u v : Value} (ry : RelV y u) (rx : RelV x v) (fy : zg6 y = true) (fx : zg6 x = true) : SeqAt.EqAt A s u v (eqV y x) := by
 cases y with
 | non =>
  cases ry
  cases x with
  | non => cases rx; exact SeqAt.EqAt.same _
  | bl b => cases rx; exact SeqAt.EqAt.none_bool b
  | int b => obtain ⟨t, rfl⟩ := rx; exact SeqAt.EqAt.none_int b t
  | str b => obtain ⟨t, rfl⟩ := rx; exact SeqAt.EqAt.none_str b t
  | _ => exact absurd (show false = true from fx) Bool.false_ne_true
 | bl a =>
  cases ry
  cases x with
  | non => cases rx; exact SeqAt.EqAt.bool_none a
  | bl b => cases rx; exact SeqAt.EqAt.bool_bool a b
  | int b => obtain ⟨t, rfl⟩ := rx; exact SeqAt.EqAt.bool_int a b t
  | str b => obtain ⟨t, rfl⟩ := rx; exact SeqAt.EqAt.bool_str a b t
  | _ => exact absurd (show false = true from fx) Bool.false_ne_true
 | int a =>
  obtain ⟨t', rfl⟩ := ry
  cases x with
  | non => cases rx; exact SeqAt.EqAt.int_none a t'
  | bl b => cases rx; exact SeqAt.EqAt.int_bool a t' b
  | int b => obtain ⟨t, rfl⟩ := rx; exact SeqAt.EqAt.int_int a t' b t
  | str b => obtain ⟨t, rfl⟩ := rx; exact SeqAt.EqAt.int_str a t' b t
  | _ => exact absurd (show false = true from fx) Bool.false_ne_true
 | str a =>
  obtain ⟨t', rfl⟩ := ry
  cases x with
  | non => cases rx; exact SeqAt.EqAt.str_none a t'
  | bl b => cases rx; exact SeqAt.EqAt.str_bool a t' b
  | int b => obtain ⟨t, rfl⟩ := rx; exact SeqAt.EqAt.str_int a t' b t
  | str b => obtain ⟨t, rfl⟩ := rx; exact SeqAt.EqAt.str_str a t' b t
  | _ => exact absurd (show false = true from fx) Bool.false_ne_true
 | _ => exact absurd (show false = true from fy) Bool.false_ne_true
def eqU (x : V) (u : Value) : Bool := match u with
 | .none => eqV .non x
 | .bool b => eqV (.bl b) x
 | .int i _ => eqV (.int i) x
 | .str z _ => eqV (.str z) x
 | _ => false
theorem zp9 {x y : V} {u : Value} (r : RelV y u) (f : zg6 y = true) : eqU x u = eqV y x := by
 cases y with
 | non => cases r; rfl
 | bl b => cases r; rfl
 | int i => obtain ⟨t, rfl⟩ := r; rfl
 | str z => obtain ⟨t, rfl⟩ := r; rfl
 | _ => exact absurd (show false = true from f) Bool.false_ne_true
theorem zlq {x : V} : ∀ {xs : List V} {us : List Value}, Vals xs us → xs.all zg6 = true → us.any (eqU x) = xs.any fun y => eqV y x
 | _, _, .nil, _ => rfl
 | y :: xs, u :: us, .cons r t, f => by
  rw [List.all_cons, Bool.and_eq_true] at f
  rw [List.any_cons, List.any_cons, zp9 r f.1, zlq t f.2]
theorem zi3 {A : Around} {s : Shared} {x : V} {v : Value} (rx : RelV x v) (fx : zg6 x = true) : ∀ {xs : List V} {us : List Value}, Vals xs us → xs.all zg6 = true → ∀ u ∈ us, SeqAt.EqAt A s u v (eqU x u)
 | _, _, .nil, _ => fun u hu => by cases hu
 | y :: xs, u :: us, .cons r t, f => fun u' hu => by
  rw [List.all_cons, Bool.and_eq_true] at f
  rcases List.mem_cons.mp hu with rfl | hu
  ·rw [zp9 r f.1]; exact zt2 r rx f.1 fx
  ·exact zi3 rx fx t f.2 u' hu
def inV (x : V) (xs : List V) : Bool := xs.any fun y => eqV y x
def rIn (K : PySem.W.Frag) (neg : Bool) : R2 := fun x y H Q => ∃ p xs, y = .ref p ∧ (SqL K H p xs ∨ SqT K H p xs) ∧ zg6 x = true ∧ xs.all zg6 = true ∧ Q (.bl (if neg then !inV x xs else inV x xs)) H
theorem zlr : OpR X (compareOp .NotIn) (rIn X.K true) := by
 intro pins s σ H x y v u Q I rx ry h
 obtain ⟨p, xs, rfl, hq, fx, fs, q⟩ := h
 cases ry
 rcases hq with hq | hq
 ·obtain ⟨its, r, pl, hz⟩ := I.list hq
  refine SeqAt.notIn_listAt (eqU x) pl.isList (fun w hw => zi3 rx fx r fs w (by simpa using hw)) ⟨.bl _, H, I, rfl, ?_⟩
  rw [show its.toArray.any (eqU x) = its.any (eqU x) by simp, zlq r fs]
  exact q
 ·obtain ⟨its, r, pl, hz⟩ := I.tuple hq
  refine SeqAt.notIn_tupleAt (eqU x) pl (fun w hw => zi3 rx fx r fs w (by simpa using hw)) ⟨.bl _, H, I, rfl, ?_⟩
  rw [show its.toArray.any (eqU x) = its.any (eqU x) by simp, zlq r fs]
  exact q
theorem zk1 : zeq X (.builtin "len") (fun xs H Q => ∃ p ys, xs = [.ref p] ∧ (SqL X.K H p ys ∨ SqT X.K H p ys) ∧ Q (.int ys.length) H) := by
 intro pins s σ H xs us Q I r h
 obtain ⟨p, ys, rfl, hq, q⟩ := h
 obtain ⟨u, rfl, rx⟩ := zga r
 cases rx
 have hn := zjp
 rcases hq with hq | hq
 ·obtain ⟨its, r', pl, hz⟩ := I.list hq
  have hlen := r'.length
  exact Calls.call_len_list pl.isList (by simp only [List.size_toArray] <;> omega) ⟨.int ys.length, H, I.tok _, ⟨s.toks + 1, by rw [List.size_toArray, hlen]⟩, q⟩
 ·obtain ⟨its, r', pl, hz⟩ := I.tuple hq
  have hlen := r'.length
  exact len_tuple pl (by simp only [List.size_toArray] <;> omega) ⟨.int ys.length, H, I.tok _, ⟨s.toks + 1, by rw [List.size_toArray, hlen]⟩, q⟩
theorem zcz : zeq X (.type "tuple") (fun xs H Q => ∃ p ys, xs = [.ref p] ∧ ((SqL X.K H p ys ∧ ∀ l, H l = none → Q (.ref l) (upd H l (.tup ys))) ∨ (SqT X.K H p ys ∧ Q (.ref p) H))) := by
 intro pins s σ H xs us Q I r h
 obtain ⟨p, ys, rfl, h⟩ := h
 obtain ⟨u, rfl, rx⟩ := zga r
 cases rx
 rcases h with ⟨hq, q⟩ | ⟨hq, q⟩
 ·obtain ⟨its, r', pl, hz⟩ := I.list hq
  have hlen := r'.length
  refine call_tuple_list pl.isList (fun h' kp => ?_) (by simp only [List.size_toArray] <;> omega)
  have I1 : Inv X pins σ H { s with heap := h' } := I.kept (t' := s.toks) kp
  have I2 : Inv X pins σ (upd H h'.objs.size (.tup ys)) { s with heap := h'.push { cls := .type "tuple", data := .seq its.toArray } } :=
   I1.laid (t' := s.toks) (fun b o e => Heap.get?_push_of_some _ e) (Nat.le_refl _) (show ObjOk X.prog X.w _ _ _ (.tup ys) from ⟨hz, its, r', IsTup.new _ _⟩)
  exact ⟨.ref h'.objs.size, _, I2, rfl, q _ (I1.hok.fresh (Nat.le_refl _))⟩
 ·obtain ⟨its, r', pl, hz⟩ := I.tuple hq
  exact call_tuple_same pl ⟨.ref p, H, I, rfl, q⟩
def tyV (K : PySem.W.Frag) (T : String) (x : V) (H : Hp) : Prop := match x with
 | .str _ => T = "str"
 | .int _ => T = "int"
 | .ref p => (T = "list" ∧ ∃ xs, SqL K H p xs) ∨ (T = "tuple" ∧ ∃ o, K.lookup p = some o ∧ o.cls = .type "tuple" ∧ o.dict = none) ∨
   (T = "dict" ∧ ((∃ kvs, H p = some (.dK kvs)) ∨ ∃ kvs, H p = some (.dT kvs))) ∨ (T = "set" ∧ ∃ S n, H p = some (.set S n))
 | _ => False
theorem ztz {pins : List (Addr × Obj)} {σ : St} {H : Hp} {s : Shared} {T : String} {x : V} {v : Value} (I : Inv X pins σ H s) (r : RelV x v) (ty : tyV X.K T x H) :
  s.TypeIs v T ∧ ∀ a, v = .ref a → ∃ ob, s.heap.get? a = some ob ∧ ob.dict = none := by
 cases x with
 | str z =>
  obtain ⟨t, rfl⟩ := r
  cases (show T = "str" from ty)
  exact ⟨typeIs_str s z t, fun _ e => nomatch e⟩
 | int i =>
  obtain ⟨t, rfl⟩ := r
  cases (show T = "int" from ty)
  exact ⟨typeIs_int s i t, fun _ e => nomatch e⟩
 | ref p =>
  cases r
  rcases ty with ⟨rfl, xs, hq⟩ | ⟨rfl, o, hk, hc, hd⟩ | ⟨rfl, hk⟩ | ⟨rfl, S, n, hk⟩
  ·obtain ⟨its, _, pl, _⟩ := I.list hq
   refine ⟨pl.isList.typeIs, fun a e => ?_⟩
   cases e
   obtain ⟨o, n, e, c, hd, _⟩ := pl
   exact ⟨o, e, hd⟩
  ·refine ⟨⟨o, I.kIn p o hk, hc⟩, fun a e => ?_⟩
   cases e
   exact ⟨o, I.kIn _ o hk, hd⟩
  ·have z : ∃ o, s.heap.get? p = some o ∧ o.ExactDict := by
    rcases hk with ⟨kvs, hk⟩ | ⟨kvs, hk⟩
    ·obtain ⟨_, _, _, _, o, _, _, e, ex, _⟩ := I.hok p _ hk
     exact ⟨o, e, ex⟩
    ·obtain ⟨_, _, _, _, o, _, _, e, ex, _⟩ := I.hok p _ hk
     exact ⟨o, e, ex⟩
   obtain ⟨o, e, ex⟩ := z
   refine ⟨⟨o, e, ex.1⟩, fun a e2 => ?_⟩
   cases e2
   exact ⟨o, e, ex.2.1⟩
  ·obtain ⟨o, _, _, _, e, ex, _⟩ := I.hok p _ hk
   refine ⟨⟨o, e, ex.1⟩, fun a e2 => ?_⟩
   cases e2
   exact ⟨o, e, ex.2.1⟩
 | _ => exact False.elim ty
def tBM (K : PySem.W.Frag) (T : String) (r : V → List V → Hp → VK → Prop) (to : TE) (t : TA) : TE := fun σ H Q => to σ H fun x H1 => tyV K T x H1 ∧ t σ H1 fun xs H2 => r x xs H2 Q
variable {o e : Expr} {es : List Expr} {to : TE} {t : TA} {name : Str} {apos cpos : Pos} {T id : String} {r : V → List V → Hp → VK → Prop}
theorem zuo (pa : PlainAttrs T) (slot : Slot T name id) (hty : typeOf (.builtin id) = pure (.type "method_descriptor")) (hm : MtR X id r) (ho : PE X o to) (ha : PA X (e :: es) t)
  (hbase : attributeBase o name X.env (eval o X.env) = eval o X.env := by rfl)
  (hfew : ((backTo cpos (starEach (e :: es) X.env)).all (fun x => !x.1) && (backToKw cpos (keywordEach [] X.env)).all (fun x => x.1.isSome)
   && decide ((e :: es).length + ([] : List Keyword).length + (if ([] : List Keyword).isEmpty then 0 else 1) < 30)) = true := by rfl)
  (hline : (apos.endLine == cpos.line) = true := by rfl) (hs : starEach (e :: es) X.env = (false, eval e X.env) :: starEach es X.env := by rfl) (hplain : (backTo cpos (starEach es X.env)).any (·.1) = false := by rfl) :
  PE X (.Call (.Attribute o name apos) (e :: es) [] cpos) (tBM X.K T r to t) := by
 intro pins s σ H Q I h
 refine wpAny_Call_method_late hbase hfew hline rfl (thn (ho pins s σ H _ I h) fun v s1 ⟨x, H1, I1, r1, ty, q1⟩ => ?_)
 obtain ⟨h1, h2⟩ := ztz I1 r1 ty
 refine ⟨T, id, pa, slot, hty, h1, h2, ?_⟩
 have hA := ha cpos pins s1 σ H1 _ I1 q1
 rw [hs] at hA ⊢
 refine Calls.callWith_builtin (by show (false || (backTo cpos (starEach es X.env)).any (·.1)) = false; rw [hplain] <;> rfl) (Calls.evalArgs_plain ?_)
 exact thn hA fun us s2 ⟨vs, H2, I2, r2, q2⟩ => hm pins s2 σ H2 x vs v us Q I2 r1 r2 q2
end
end L2
namespace L2
open PySem PySem.Spec PyProof.Rows
def MtM (X : Cx) (id : String) (r : V → List V → Hp → VK → Prop) : Prop :=
 ∀ (pins : List (Addr × Obj)) (s : Shared) (σ : St) (H : Hp) (x : V) (xs : List V) (v : Value) (us : List Value) (Q : VK), Inv X pins σ H s → RelV x v → Vals xs us → r x xs H Q →
  wpAny (model X.prog X.w) X.A (call (.builtin id) (v :: us)) (EP X pins σ Q) X.xe s
theorem Vals.one : ∀ {x : V} {us : List Value}, Vals [x] us → ∃ u, us = [u] ∧ RelV x u
 | _, _, .cons r .nil => ⟨_, rfl, r⟩
theorem Vals.reverse {xs : List V} {us : List Value} (h : Vals xs us) : Vals xs.reverse us.reverse := by
 induction h with
 | nil => exact .nil
 | cons r t ih => rw [List.reverse_cons, List.reverse_cons]; exact Vals.append ih (.cons r .nil)
section
variable {X : Cx} {pins : List (Addr × Obj)} {σ : St} {H : Hp} {s : Shared} {l b : Addr} {xs ys zs : List V}
theorem Inv.lset {its its' : List Value} {n : Nat} {f : Array Value → Array Value} {t' : Nat} (I : Inv X pins σ H s) (hH : H l = some (.lst xs))
  (e : s.heap.get? l = some { cls := .type "list", data := .seq its.toArray n }) (hf : f its.toArray = its'.toArray) (hv : Vals ys its') (hz : ys.length ≤ sizeLine) :
  Inv X pins σ (upd H l (.lst ys)) { s with heap := s.heap.update l (Obj.mapSeq f), toks := t' } := by
 have q := PySem.IsL.update e f
 rw [hf] at q
 refine I.write (x := l) (e := l) (by rw [hH]; exact trivial) (.inl rfl) (fun b' u hb hu => (Heap.get?_update_other s.heap (Obj.mapSeq f) (Ne.symm hb)).trans hu) ⟨_, q⟩ ?_
 exact ⟨hz, its', _, hv, q⟩
theorem Inv.lnew {its : List Value} {t' : Nat} (I : Inv X pins σ H s) (hv : Vals ys its) (hz : ys.length ≤ sizeLine) :
  Inv X pins σ (upd H s.heap.objs.size (.lst ys)) { s with heap := s.heap.push { cls := .type "list", data := .seq its.toArray }, toks := t' } :=
 I.laid (fun _ _ q => Heap.get?_push_of_some _ q) (Nat.le_refl _) ⟨hz, its, 0, hv, Heap.get?_push_size _ rfl⟩
theorem Inv.fresh (I : Inv X pins σ H s) : H s.heap.objs.size = none := I.hok.fresh (Nat.le_refl _)
theorem Inv.lstM (I : Inv X pins σ H s) (hH : H l = some (.lst xs)) : xs.length ≤ sizeLine ∧ ∃ (its : List Value) (n : Nat), Vals xs its ∧ xs.length = its.length ∧ s.heap.get? l = some { cls := .type "list", data := .seq its.toArray n } := by
 obtain ⟨z, its, n, r, e⟩ := I.hok l _ hH
 exact ⟨z, its, n, r, r.length, e⟩
end
section
variable {X : Cx}
def zsy : V → List V → Hp → VK → Prop := fun x vs H Q => ∃ l xs y, x = .ref l ∧ vs = [y] ∧ H l = some (.lst xs) ∧ xs.length < sizeLine ∧ Q .non (upd H l (.lst (xs ++ [y])))
theorem zeo : MtM X "list.append" zsy := by
 intro pins s σ H x vs v us Q I rx rv h
 obtain ⟨l, xs, y, rfl, rfl, hH, hz, q⟩ := h
 cases rx
 obtain ⟨u, rfl, ru⟩ := rv.one
 obtain ⟨z, its, n, r, hl, e⟩ := I.lstM hH
 refine call_meets F.slot_list_append ⟨_, e, rfl⟩ F.entry_list_append (F.args_list_append_2 _ _) (PySem.list_append l its.toArray n u (by rw [List.size_toArray]; omega)) ⟨e, ?_⟩
 refine ⟨.non, _, I.lset (its' := its ++ [u]) hH e (by simp) (r.append (.cons ru .nil)) ?_, rfl, q⟩
 rw [List.length_append, List.length_singleton]
 omega
def zvx : R2 := fun x y H Q => ∃ l b xs zs, x = .ref l ∧ y = .ref b ∧ H l = some (.lst xs) ∧ H b = some (.lst zs) ∧ xs.length + zs.length ≤ sizeLine ∧ ∀ p, H p = none → Q (.ref p) (upd H p (.lst (xs ++ zs)))
theorem zqc : OpR X (binaryOp .Add) zvx := by
 intro pins s σ H x y v u Q I rx ry h
 obtain ⟨l, b, xs, zs, rfl, rfl, hH, hB, hz, q⟩ := h
 cases rx
 cases ry
 obtain ⟨z, its, n, r, hl, e⟩ := I.lstM hH
 obtain ⟨z2, its2, n2, r2, hl2, e2⟩ := I.lstM hB
 refine PySem.P.add_list e e2 ?_ (by rw [List.size_toArray, List.size_toArray]; omega)
 have ea : its.toArray ++ its2.toArray = (its ++ its2).toArray := by simp
 rw [ea]
 exact ⟨.ref _, _, I.lnew (t' := s.toks) (r.append r2) (by rw [List.length_append]; omega), rfl, q _ I.fresh⟩
end
section
variable {prog : Program} {w : World} {A : Around} {E : Value → Shared → Prop} {s : Shared}
set_option maxRecDepth 100000 in
end
section
variable {X : Cx}
end
end L2
namespace Att
open PySem PySem.W PySem.Calls PyProof.Rows
theorem zij {P : Params} {h : Heap} : ∀ (ns : List Int) (vs : List Value), WellAll P h vs (ns.map WData.int) → IntsAre vs ns := by
 intro ns
 induction ns with
 | nil =>
  intro vs w
  rw [List.map_nil] at w
  cases w
  exact .nil
 | cons n ns ih =>
  intro vs w
  rw [List.map_cons] at w
  cases w with
  | cons a b =>
   cases a
   exact .cons _ _ (ih _ b)
theorem zp5 {l : OpenLaw} {n : Nat} (hn : l.most = some n) {P : Params} {h : Heap} {args : List WData} {vals : List Value}
  (hpre : l.row.toRowW.claim.pre args = true) (hwl : WellAll P h vals args) :
  ∃ a vs ns, vals = [Value.ref a] ∧ args = [WData.list (ns.map WData.int)] ∧ h.get? a = some { cls := .type "list", data := .seq vs.toArray } ∧ IntsAre vs ns ∧ ns.length ≤ n := by
 have hsh : WShape.hasAll [] args [.list .int] = true := (pre_splitW hpre).1
 have hc : l.pre.holds [] { args := args } = true := (pre_splitW hpre).2
 obtain ⟨d, r, rfl, h1, h2⟩ := hasAllW_cons hsh
 obtain rfl := hasAllW_nil h2
 obtain ⟨xs, rfl, h3⟩ := hasW_list h1
 obtain ⟨ns, rfl⟩ := items_int h3
 have hlen : ns.length ≤ n := by
  unfold OpenLaw.pre at hc
  have h4 : (WTm.not (.lt (.lit (.int (n : Int))) (.len (.arg 0)))).holds [] { args := [.list (ns.map .int)] } = true := by
   have h4 := (holds_andW hc).1
   rw [hn] at h4
   exact h4
  have h5 := condW_of h4 (w_not (w_lt w_lit (w_len_list (w_arg rfl))))
  rw [List.length_map] at h5
  refine Nat.le_of_not_lt fun q => ?_
  have q' : (n : Int) < ((ns.length : Nat) : Int) := by omega
  first
   | (rw [decide_eq_true q'] at h5; exact absurd h5 (by decide))
   | (simp at h5; omega)
 cases hwl with
 | cons w1 w2 =>
  cases w2
  cases w1 with
  | list ho hall => exact ⟨_, _, ns, rfl, rfl, ho, zij ns _ hall, hlen⟩
theorem zpl (l : OpenLaw) (args : List WData) : l.row.toRowW.claim.post args (.bool true) args = true :=
 postW_of (r := l.row.toRowW) (X := (true == true))
  (show WShape.has [] (.bool true) .bool = true by first | rfl | decide | simp [WShape.has, WShape.arms, WShape.armsAll])
  (show (WTm.eq .res (.lit (.bool true))).value [] { args := args, res := some (.bool true), after := args } = some (.bool (true == true)) from w_eq_bool (w_res rfl) w_lit) rfl
theorem attach_call {l : OpenLaw} {n : Nat} {q : Program} {loose : List Str} {XP : (Str → Option Value) → Heap → Prop} {YP : World → Heap → Prop} {d : DefRec}
  (hn : l.most = some n) (hdf : d.params.defaults = [])
  (call : ∀ (w : World) (s₀ s₁ : Shared) (mg mb : Str → Option Value) (fa : Addr) (o : Obj) (pm cd doc : Value) (a : Addr) (vs : List Value) (ns : List Int),
   Ground q loose [] XP w s₀ mg mb s₁.heap → YP w s₁.heap →
   s₁.heap.get? fa = some o → o.data = .func (docDef d.name d.params d.body d.scope pm cd doc) → s₁.heap.CodeRec cd d.name → mg d.name = some (.ref fa) →
   s₁.heap.get? a = some { cls := .type "list", data := .seq vs.toArray } → IntsAre vs ns → ns.length ≤ n → s₁.gens = #[] →
   codeAny (model l.prog w) callerA (.call (.ref fa) ⟨[.ref a], []⟩) (fun r s' => r = .ok (.ret (.bool true)) ∧ OldK s₁.heap s'.heap ∧ s'.os = s₁.os ∧ AllBare s'.gens) s₁) :
  WalkO q loose XP YP l.row.toRowW d [] (fun f vs => PySem.call f vs) := by
 intro w s₀ s₁ mg mb G Y fa o pm cd doc dV kV ho hd hcd hD hmg hg args vals as hpre hlay hrd hwl hlo
 obtain rfl : dV = .none := Dflts.none hD hdf
 obtain rfl : kV = .none := Dflts.noKw hD
 obtain ⟨a, vs, ns, rfl, rfl, hobj, hints, hlen⟩ := zp5 hn hpre hwl
 refine enter_call (codeAny_mono (call w s₀ s₁ mg mb fa o pm cd doc a vs ns G Y ho (fd_plain hd) hcd hmg hobj hints hlen hg) fun r s' hq => ?_)
 obtain ⟨rfl, h2, h3, h4⟩ := hq
 exact ⟨.inl ⟨.bool true, .bool true, [], rfl, fun _ => rfl, .bool true, zpl l _, fun _ => ⟨List.Pairwise.nil, fun _ hm => (nomatch hm)⟩⟩, h2, h3, h4⟩
section
variable {prog : Program} {w : World} {A : Around} {E : Value → Shared → Prop} {s : Shared} {K : Frag}
end
end Att
namespace L2
open PySem PySem.Spec PyProof.Rows
theorem zhq : ∀ {vs : List Value} {ns : List Int}, IntsAre vs ns → Vals (ns.map V.int) vs
 | _, _, .nil => .nil
 | _, _, .cons n t h => .cons ⟨t, rfl⟩ (zhq h)
end L2
namespace L2
open PySem PySem.Spec PyProof.Rows
end L2
namespace L2
open PySem PySem.Spec PyProof.Rows
def zak (s : Stmt) : Arguments := match s with
 | .FunctionDef _ a _ _ _ _ _ _ _ _ => a
 | _ => { posonlyargs := [], args := [], vararg := none, kwonlyargs := [], kw_defaults := [], kwarg := none, defaults := [] }
def zah (s : Stmt) : List Stmt := match s with
 | .FunctionDef _ _ b _ _ _ _ _ _ _ => b
 | _ => []
def zab (s : Stmt) : Scope := match s with
 | .FunctionDef _ _ _ _ _ _ sc _ _ _ => sc
 | _ => { kind := .function, names := [], isGenerator := false, isCoroutine := false }
abbrev CX0 : CXT := fun _ _ _ _ _ _ => False
abbrev E0 : XK := fun _ _ _ => False
theorem zal {X : Cx} : zgg CX0 X E0 := fun _ _ _ _ _ _ _ h => h.elim
structure Fun (K : PySem.W.Frag) (x qual : Str) (st : Stmt) (f : Addr) (fd : FuncData) : Prop where
 ex : ∃ (oc : Value) (od : Option Addr) (kV doc pm : Value) (an : Option Addr) (cdv ct : Value) (osl : Array (Option Value)),
  fd = PySem.W.fnOf x qual (zak st) (zah st) (zab st) .none kV doc pm an cdv ct ∧ K.lookup f = some ⟨oc, od, .func fd, osl⟩ ∧ PySem.W.codeIn K cdv qual = true
 kp : PySem.W.keepIn K (.ref f) = true
section
variable {P : Program} {w : World} {K : PySem.W.Frag} {mg : Str → Option Value} {base : Heap}
theorem Fun.ok {x qual : Str} {st : Stmt} {f : Addr} {fd : FuncData} {N ps : List Str} {k : Nat} {sp : Sp} (F : Fun K x qual st f fd) (S : zat N ps (zab st)) (len : ∀ vs H Q E, sp vs H Q E → vs.length = ps.length)
  (hbody : ∀ (cdv : Value) (A : Around) (outer : List Env) (s : Shared) (H : Hp) (vs : List V) (Q : VK) (E : XK), Room k (A.deeper (envOfC qual (zab st) s.heap.objs.size f cdv)) → sp vs H Q E →
   ∃ t, PSs (zdh CX0 P w K mg base N qual (zab st) f cdv A outer s H E).nox (zah st) t ∧ t { nx := fun _ H' => Q .non H', rt := Q } (zgw N vs) H) : zbd P w K mg base CX0 (k + 1) f fd ps sp := by
 obtain ⟨oc, od, kV, doc, pm, an, cdv, ct, osl, rfl, lk, hcd⟩ := F.ex
 refine zto lk hcd S len fun A outer s H vs Q E hr hsp => ?_
 obtain ⟨t, h, q⟩ := hbody cdv A outer s H vs Q E hr hsp
 exact ⟨t, h.nox, q⟩
theorem Fun.binds {x qual : Str} {st : Stmt} {f : Addr} {fd : FuncData} {ps : List Str} (F : Fun K x qual st f fd)
  (h : ∀ (kV doc pm : Value) (an : Option Addr) (cdv ct : Value) (us : List Value), us.length = ps.length → bindArgs (PySem.W.fnOf x qual (zak st) (zah st) (zab st) .none kV doc pm an cdv ct) ⟨us, []⟩ = pure (ps.zip us)) : Binds K fd ps [] := by
 obtain ⟨oc, od, kV, doc, pm, an, cdv, ct, osl, rfl, lk, hcd⟩ := F.ex
 exact .all (h kV doc pm an cdv ct)
theorem za0 {x qual : Str} {st : Stmt} {f : Addr} {oc : Value} {od an : Option Addr} {osl : Array (Option Value)} {kV doc pm cdv ct : Value} (l : K.lookup f = some ⟨oc, od, .func (PySem.W.fnOf x qual (zak st) (zah st) (zab st) .none kV doc pm an cdv ct), osl⟩)
  (c : PySem.W.codeIn K cdv qual = true) (k : PySem.W.keepIn K (.ref f) = true) : Fun K x qual st f (PySem.W.fnOf x qual (zak st) (zah st) (zab st) .none kV doc pm an cdv ct) := ⟨⟨oc, od, kV, doc, pm, an, cdv, ct, osl, rfl, l, c⟩, k⟩
end
theorem zc3 {n : Nat} (h : n ≤ 1000) : n < sizeLine := Nat.lt_of_le_of_lt h (by decide)
section
variable {X : Cx}
theorem pv (i : Nat) {x : Str} {pos : Pos} (hN : X.N[i]? = some x := by rfl) (hv : Vis X.env.scope x := by first | exact Or.inl rfl | exact Or.inr (Or.inl rfl) | exact Or.inr (Or.inr rfl)) (hd : (x == ("__debug__" : Str)) = false := by decide)
  (hcd : (x == ("__classdict__" : Str)) = false := by decide) : PE X (.Name x pos) (zvk i) := zqu hN hv hd hcd
end
theorem zhk {A B : Prop} (h : B) : if false = true then A else B := by
 rw [if_neg Bool.false_ne_true]
 exact h
theorem zok {A B : Prop} (h : A) : if true = true then A else B := by
 rw [if_pos rfl]
 exact h
theorem zcq {c A B : Prop} [Decidable c] (h1 : c → A) (h2 : ¬ c → B) : if c then A else B := by
 by_cases h : c
 ·rw [if_pos h]
  exact h1 h
 ·rw [if_neg h]
  exact h2 h
theorem ze6 {c A B : Prop} [Decidable c] (hc : c) (h : B) : if (!decide c) = true then A else B := by
 rw [decide_eq_true hc]
 exact zhk h
end L2
set_option maxRecDepth 100000
set_option maxHeartbeats 4000000
namespace L2
open PySem PySem.Spec PyProof.Rows
def zgc (c : Addr) : Heap → Prop := fun h => ∃ (o : Obj) (vs : Array Value) (q : Str) (t : Nat), h.get? c = some o ∧ o.data = .fields vs ∧ vs[1]? = some (.str q t)
def zed (H : Hp) (P : Addr) : Prop := ∃ ps : Array Value, H P = some (.tbl ps) ∧ TriplesOk ps.toList ∧ ∀ pos : Pos, codeAmong pos ps.toList = none ∨ ∃ c : Addr, codeAmong pos ps.toList = some (.ref c) ∧ H c = some (.ext (zgc c))
def Kp (H H' : Hp) (b : Addr) : HO → Prop
 | .tbl _ => (∃ ps, H' b = some (.tbl ps)) ∧ (zed H b → zed H' b)
 | o => H' b = some o
def Same (H H' : Hp) : Prop := ∀ b o, H b = some o → Kp H H' b o
theorem Kp.of {H H' : Hp} {b : Addr} {o : HO} (h : H b = some o) (e : H' b = some o) (hc : ∀ c, H c = some (.ext (zgc c)) → H' c = some (.ext (zgc c))) : Kp H H' b o := by
 cases o
 case tbl ps =>
  refine ⟨⟨ps, e⟩, fun ⟨qs, hq, tr, hp⟩ => ?_⟩
  rw [h] at hq
  cases hq
  exact ⟨_, e, tr, fun pos => (hp pos).imp id fun ⟨c, z1, z2⟩ => ⟨c, z1, hc c z2⟩⟩
 all_goals exact e
theorem zg7 {H H' : Hp} (h : ∀ b o, H b = some o → H' b = some o) : Same H H' := fun b o e => Kp.of e (h b o e) fun c z => h c _ z
theorem Same.refl (H : Hp) : Same H H := zg7 fun _ _ h => h
theorem Same.trans {H H1 H2 : Hp} (a : Same H H1) (b : Same H1 H2) : Same H H2 := fun c o h => by
 have z := a c o h
 cases o
 case tbl ps =>
  obtain ⟨⟨qs, hq⟩, k⟩ := z
  obtain ⟨q2, k2⟩ := b c _ hq
  exact ⟨q2, fun t => k2 (k t)⟩
 all_goals exact b c _ z
theorem Kp.some {H H' : Hp} {b : Addr} {o : HO} (k : Kp H H' b o) : ∃ u, H' b = some u := by
 cases o
 case tbl ps => exact ⟨_, k.1.choose_spec⟩
 all_goals exact ⟨_, k⟩
theorem Same.free {H H' : Hp} (e : Same H H') {l : Addr} (h : H' l = Option.none) : H l = Option.none := by
 cases q : H l with
 | none => rfl
 | some o =>
  obtain ⟨u, z⟩ := (e l o q).some
  rw [z] at h
  cases h
theorem Same.tab {H H' : Hp} {P : Addr} (e : Same H H') (t : zed H P) : zed H' P := by
 obtain ⟨ps, h, _⟩ := id t
 exact (e _ _ h).2 t
theorem ziy {pos pos' : Pos} {c : Value} (l : List Value) (h : TriplesOk l) : codeAmong pos (l ++ [rawInt pos'.line, rawInt pos'.col, c]) = codeAmong pos l ∨ codeAmong pos (l ++ [rawInt pos'.line, rawInt pos'.col, c]) = some c := by
 fun_induction TriplesOk l with
 | case1 =>
  by_cases hc : ((pos'.line : Int) == (pos.line : Int) && (pos'.col : Int) == (pos.col : Int)) = true
  ·exact .inr (by simp only [List.nil_append, codeAmong, rawInt]; rw [if_pos hc])
  ·exact .inl (by simp only [List.nil_append, codeAmong, rawInt]; rw [if_neg hc])
 | case2 a t b u x rest ih =>
  simp only [List.cons_append, codeAmong]
  split
  ·exact .inl rfl
  ·exact ih h
 | case3 => exact h.elim
end L2
set_option maxRecDepth 100000
set_option maxHeartbeats 4000000
namespace L2
open PySem PySem.Spec PyProof.Rows
theorem zkb {α β : Type} (g : α → β → β) {f : α → β → Sem (ForInStep β)} : ∀ (l : List α) (b : β), (∀ x ∈ l, ∀ c, f x c = pure (ForInStep.yield (g x c))) →
  forIn l b f = (pure (l.foldl (fun c x => g x c) b) : Sem β)
 | [], b, _ => by simp only [List.forIn_nil, List.foldl_nil]
 | x :: r, b, h => by
  rw [List.forIn_cons, h x List.mem_cons_self b, pure_bind]
  exact zkb g r (g x b) fun y hy c => h y (List.mem_cons_of_mem _ hy) c
def zfi (sc : Scope) (env : Env) : List (Str × Addr) :=
 sc.names.foldl (fun cs y => if (y.2 == NameKind.free) = true then (y.1, (env.cells.lookup y.1).getD 0) :: cs else cs) []
theorem zo6 {sc : Scope} {env : Env} (h : ∀ y ∈ sc.names, y.2 = .free → ∃ c, env.cells.lookup y.1 = some c) : closureFor sc env = pure (zfi sc env) := by
 simp only [closureFor]
 rw [zkb (fun (y : Str × NameKind) (cs : List (Str × Addr)) => if (y.2 == NameKind.free) = true then (y.1, (env.cells.lookup y.1).getD 0) :: cs else cs) sc.names [] (fun y hy c => by
  obtain ⟨n, k⟩ := y
  by_cases hk : k = .free
  ·obtain ⟨a, ha⟩ := h _ hy hk
   subst hk
   simp only [cellOf, ha, beq_self_eq_true, if_true, pure_bind, Option.getD_some]
  ·have z : (k == NameKind.free) = false := by simpa using hk
   simp only [z, Bool.false_eq_true, if_false])]
 rfl
theorem zkf {α β : Type} {P : β → Prop} {g : α → List β → List β} : ∀ (l : List α) (b : List β), (∀ p ∈ b, P p) → (∀ x ∈ l, ∀ c, (∀ p ∈ c, P p) → ∀ p ∈ g x c, P p) → ∀ p ∈ l.foldl (fun c x => g x c) b, P p
 | [], b, hb, _ => hb
 | x :: r, b, hb, h => zkf r (g x b) (h x List.mem_cons_self b hb) fun y hy => h y (List.mem_cons_of_mem _ hy)
theorem zrj {sc : Scope} {env : Env} (h : ∀ y ∈ sc.names, y.2 = .free → ∃ c, env.cells.lookup y.1 = some c) : ∀ p ∈ zfi sc env, env.cells.lookup p.1 = some p.2 := by
 refine zkf (P := fun p : Str × Addr => env.cells.lookup p.1 = some p.2) sc.names [] (fun _ z => nomatch z) fun y hy c hc p hp => ?_
 by_cases hk : y.2 = .free
 ·have z : (y.2 == NameKind.free) = true := by simpa using hk
  rw [if_pos z] at hp
  rcases List.mem_cons.mp hp with e | hp
  ·obtain ⟨a, ha⟩ := h y hy hk
   rw [e]
   show env.cells.lookup y.1 = some ((env.cells.lookup y.1).getD 0)
   rw [ha]
   rfl
  ·exact hc p hp
 ·have z : ¬ (y.2 == NameKind.free) = true := by simpa using hk
  rw [if_neg z] at hp
  exact hc p hp
theorem zjq {α β : Type} {q : β} {g : α → List β → List β} (hg : ∀ x c, q ∈ c → q ∈ g x c) : ∀ (l : List α) (b : List β), q ∈ b → q ∈ l.foldl (fun c x => g x c) b
 | [], _, hb => hb
 | x :: r, b, hb => zjq hg r (g x b) (hg x b hb)
theorem zra {sc : Scope} {env : Env} {x : Str} {c : Addr} (hx : (x, NameKind.free) ∈ sc.names) (hc : env.cells.lookup x = some c) : (x, c) ∈ zfi sc env := by
 have kp : ∀ (y : Str × NameKind) (cs : List (Str × Addr)), (x, c) ∈ cs → (x, c) ∈ (if (y.2 == NameKind.free) = true then (y.1, (env.cells.lookup y.1).getD 0) :: cs else cs) := fun y cs h => by
  by_cases z : (y.2 == NameKind.free) = true
  ·rw [if_pos z]
   exact List.mem_cons_of_mem _ h
  ·rw [if_neg z]
   exact h
 unfold zfi
 obtain ⟨l1, l2, e⟩ := List.append_of_mem hx
 rw [e, List.foldl_append, List.foldl_cons]
 refine zjq (g := fun (y : Str × NameKind) (cs : List (Str × Addr)) => if (y.2 == NameKind.free) = true then (y.1, (env.cells.lookup y.1).getD 0) :: cs else cs) kp l2 _ ?_
 rw [if_pos (by simp)]
 rw [hc]
 exact List.mem_cons_self
theorem zff {β : Type} {x : Str} {b : β} : ∀ {l : List (Str × β)}, (x, b) ∈ l → ∃ c, l.lookup x = some c
 | [], h => nomatch h
 | (y, d) :: r, h => by
  by_cases e : x = y
  ·subst e
   exact ⟨d, by rw [List.lookup_cons_self]⟩
  ·have z : (x == y) = false := by simpa using e
   rcases List.mem_cons.mp h with q | q
   ·cases q
    exact absurd rfl e
   ·obtain ⟨c, hc⟩ := zff q
    exact ⟨c, by rw [List.lookup_cons, z]; exact hc⟩
theorem zca {sc : Scope} {env : Env} (h : ∀ y ∈ sc.names, y.2 = .free → ∃ c, env.cells.lookup y.1 = some c) {x : Str} {c : Addr} (e : (zfi sc env).lookup x = some c) : env.cells.lookup x = some c :=
 zrj h _ (PySem.mem_of_lookup e)
theorem zfx {sc : Scope} {env : Env} (h : ∀ y ∈ sc.names, y.2 = .free → ∃ c, env.cells.lookup y.1 = some c) {x : Str} {c : Addr} (hx : (x, NameKind.free) ∈ sc.names) (hc : env.cells.lookup x = some c) : (zfi sc env).lookup x = some c := by
 obtain ⟨d, hd⟩ := zff (zra hx hc)
 have := zca h hd
 rw [hc] at this
 cases this
 exact hd
def znm (sc sc0 : Scope) : Scope :=
 { sc with names := sc.names.map fun (n, k) => if (k == .free && sc0.kind == .function && sc0.names.lookup n == some .cell) then (n, .cell) else (n, k) }
def zpk (sc0 sc : Scope) (XN N' : List Str) (n : Nat) (kp : List Nat) : Bool :=
 decide (sc.kind = .function) && sc.names.all (fun y => decide (y.2 ≠ .cell)) && sc.names.all (fun y => decide (y.2 = .local → sc.names.lookup y.1 = some .local)) &&
 sc.names.all (fun y => decide (y.2 = .free → sc0.names.lookup y.1 = some .cell)) && decide (N'.length = n + kp.length) &&
 (List.range kp.length).all (fun i => match N'[n + i]?, kp[i]? with
  | some x, some j => decide (XN[j]? = some x ∧ (x, NameKind.free) ∈ sc.names ∧ ((znm sc sc0).names.lookup x = some .cell ∨ (znm sc sc0).names.lookup x = some .free))
  | _, _ => false)
theorem zji {sc0 sc : Scope} {XN N' : List Str} {n : Nat} {kp : List Nat} (h : zpk sc0 sc XN N' n kp = true) :
  sc.kind = .function ∧ (∀ y ∈ sc.names, y.2 ≠ .cell) ∧ (∀ y ∈ sc.names, y.2 = .local → sc.names.lookup y.1 = some .local) ∧ (∀ y ∈ sc.names, y.2 = .free → sc0.names.lookup y.1 = some .cell) ∧ N'.length = n + kp.length ∧
  ∀ (i : Nat) (x : Str), N'[n + i]? = some x → ∃ j, kp[i]? = some j ∧ XN[j]? = some x ∧ (x, NameKind.free) ∈ sc.names ∧ ((znm sc sc0).names.lookup x = some .cell ∨ (znm sc sc0).names.lookup x = some .free) := by
 unfold zpk at h
 simp only [Bool.and_eq_true, List.all_eq_true, decide_eq_true_eq] at h
 obtain ⟨⟨⟨⟨⟨h1, h2⟩, h3⟩, h4⟩, h5⟩, h6⟩ := h
 refine ⟨h1, h2, h3, h4, h5, fun i x hx => ?_⟩
 have hi : i < kp.length := by
  have := (List.getElem?_eq_some_iff.mp hx).1
  omega
 have q := h6 i (List.mem_range.mpr hi)
 rw [hx, List.getElem?_eq_getElem hi] at q
 exact ⟨kp[i], List.getElem?_eq_getElem hi, of_decide_eq_true q⟩
abbrev NoX : Value → Shared → Prop := fun _ _ => False
def blk (X : Cx) (N' : List Str) (sc : Scope) (C : Addr) (fp : List Addr) (pins : List (Addr × Obj)) (s : Shared) (H : Hp) : Cx :=
 { X with N := N', s₀ := s, H₀ := H, env := compEnvC sc (zfi sc X.env) C X.env, outer := X.stack, stack := X.stack, ex := fp, fn := fun _ => false, pn := X.pn ++ pins, xe := NoX }
abbrev ztj (cs : List Expr) (env : Env) : Sem Bool := forIn cs true fun c r => if r = true then do let ok ← isTrue c env (eval c env); pure (ForInStep.yield ok) else pure (ForInStep.yield r)
def PTs (X : Cx) (cs : List Expr) (t : TT) : Prop :=
 ∀ (pins : List (Addr × Obj)) (s : Shared) (σ : St) (H : Hp) (Q : Bool → Hp → Prop), Inv X pins σ H s → t σ H Q → wpAny (model X.prog X.w) X.A (ztj cs X.env) (TP X pins σ Q) X.xe s
def zwa : TT := fun _ H Q => Q true H
theorem zos {X : Cx} : PTs X [] zwa := fun _ _ _ H _ I h => wpAny_tests_nil ⟨H, I, h⟩
theorem zef {X : Cx} {c : Expr} {t : TT} (hc : PT X c t) : PTs X [c] t := fun pins s σ H Q I h => wpAny_tests_one (hc pins s σ H Q I h)
theorem zsa {prog : Program} {w : World} {A : Around} {R : Result → Shared → Prop} {elt tg iter : Expr} {cs : List Expr} {sc : Scope} {pos : Pos} {it acc : Value} {env : Env} (J : Nat → Shared → Prop)
  (turn : ∀ n s, J n s → wpAny (model prog w) A (pyNext it) (fun r s1 => match r with
   | none => R (.ok .next) s1
   | some v => wpAny (model prog w) A (letOwnedTupleGo tg it v) (fun _ s2 => wpAny (model prog w) A (assign tg env v) (fun _ s3 => wpAny (model prog w) A (ztj cs env) (fun ok s4 =>
     if ok = true then wpAny (model prog w) A (eval elt env) (fun x s5 => wpAny (model prog w) A (call (.builtin "list.append") [acc, x]) (fun _ s6 => ∃ m, m < n ∧ J m s6) NoX s5) NoX s4
     else ∃ m, m < n ∧ J m s4) NoX s3) NoX s2) NoX s1) NoX s)
  (n : Nat) (s : Shared) (h : J n s) : codeAny (model prog w) A (.compLoop (.ListComp elt [⟨tg, iter, cs, 0⟩] sc pos) 0 it acc env) R s := by
 refine codeAny_loop rfl J (fun n s hJ => ?_) n h
 show wpAny _ A ((compTurn (.ListComp elt [⟨tg, iter, cs, 0⟩] sc pos) 0 it acc env).onRaise (fun x => do noteFrame x env; theTreesLotGoes x)) _ _ s
 refine wpAny_noted ?_
 rw [compTurn_list]
 have no : ∀ {E : Value → Shared → Prop} (e : Value) (z : Shared), NoX e z → E e z := fun _ _ f => f.elim
 refine wpAny_bind (wpAny_standAt (wpAny_bind (wpAny_mono (turn n s hJ) (fun r s1 h1 => ?_) no)))
 cases r with
 | none => exact wpAny_pure h1
 | some v =>
  refine wpAny_bind (wpAny_mono h1 (fun _ s2 h2 => ?_) no)
  refine wpAny_bind (wpAny_mono h2 (fun _ s3 h3 => ?_) no)
  refine wpAny_bind (wpAny_mono h3 (fun ok s4 h4 => ?_) no)
  cases ok with
  | false => exact wpAny_pure ⟨rfl, h4⟩
  | true =>
   exact wpAny_bind (wpAny_bind (wpAny_mono h4 (fun x s5 h5 => wpAny_bind (wpAny_mono h5 (fun _ s6 h6 => wpAny_pure (wpAny_pure ⟨rfl, h6⟩)) no)) no))
def zrw (J : It) (g : TG) (tc : TT) (te : TE) (σ0 : St) (H1 : Hp) (Q : VK) : Prop := ∃ W : Nat → Nat → List V → St → Hp → Prop,
  (∃ m, W 0 m [] σ0 H1) ∧ ∀ i m ys σ' H', W i m ys σ' H' → ys.length ≤ sizeLine ∧
    ((J.stop i H' ∧ ∀ p, H' p = none → Q (.ref p) (upd H' p (.lst ys))) ∨
     (J.go i H' ∧ ∃ N : List V → St → Hp → Prop, (∀ ys' σ2 H2, N ys' σ2 H2 → ∃ m', m' < m ∧ W (i + 1) m' ys' σ2 H2) ∧ ∀ x H2, J.yld i H' x H2 → g x σ' H2 fun σ3 H3 => tc σ3 H3 fun b H4 =>
       if b = true then te σ3 H4 fun v H5 => N (ys ++ [v]) σ3 H5 else N ys σ3 H4))
def tLc (n : Nat) (kp : List Nat) (wi : TI) (g : TG) (tc : TT) (te : TE) : TE := fun σ H Q => wi σ H fun J H1 => zrw J g tc te (List.replicate n none ++ kp.map fun j => (σ[j]?).join) H1 Q
theorem zq4 {lo : Int} {k : Nat} {σ0 : St} {H : Hp} {g : TG} {tc : TT} {te : TE} {Q : VK} (Pv : Nat → List V → St → Hp → Prop) (h0 : Pv 0 [] σ0 H) (hz : ∀ i ys σ H, i ≤ k → Pv i ys σ H → ys.length ≤ sizeLine)
  (hs : ∀ i ys σ H, i < k → Pv i ys σ H → g (.int (lo + i)) σ H fun σ3 H3 => tc σ3 H3 fun b H4 => if b = true then te σ3 H4 fun v H5 => Pv (i + 1) (ys ++ [v]) σ3 H5 else Pv (i + 1) ys σ3 H4)
  (hd : ∀ ys σ H, Pv k ys σ H → ∀ p, H p = none → Q (.ref p) (upd H p (.lst ys))) :
  zrw (Itr lo k) g tc te σ0 H Q := by
 refine ⟨fun i m ys σ H => m = k - i ∧ i ≤ k ∧ Pv i ys σ H, ⟨k, by simp, Nat.zero_le _, h0⟩, ?_⟩
 rintro i m ys σ H ⟨rfl, hi, p⟩
 refine ⟨hz i ys σ H hi p, ?_⟩
 by_cases hlt : i < k
 ·refine .inr ⟨hlt, Pv (i + 1), fun ys' σ' H' p' => ⟨k - (i + 1), by omega, rfl, hlt, p'⟩, fun x H' y => ?_⟩
  obtain ⟨e1, e2⟩ := y
  subst e1
  subst e2
  exact hs i ys σ _ hlt p
 ·have e : i = k := by omega
  subst e
  exact .inl ⟨Nat.le_refl _, hd ys σ H p⟩
theorem zim {K : PySem.W.Frag} {a : Addr} {xs : List V} {σ0 : St} {H : Hp} {g : TG} {tc : TT} {te : TE} {Q : VK} (Pv : Nat → List V → St → Hp → Prop) (h0 : Pv 0 [] σ0 H) (hz : ∀ i ys σ H, i ≤ xs.length → Pv i ys σ H → ys.length ≤ sizeLine)
  (hl : ∀ i ys σ H, i ≤ xs.length → Pv i ys σ H → SqL K H a xs)
  (hs : ∀ i x ys σ H, xs[i]? = some x → Pv i ys σ H → g x σ H fun σ3 H3 => tc σ3 H3 fun b H4 => if b = true then te σ3 H4 fun v H5 => Pv (i + 1) (ys ++ [v]) σ3 H5 else Pv (i + 1) ys σ3 H4)
  (hd : ∀ ys σ H, Pv xs.length ys σ H → ∀ p, H p = none → Q (.ref p) (upd H p (.lst ys))) :
  zrw (Itl K a) g tc te σ0 H Q := by
 refine ⟨fun i m ys σ H => m = xs.length - i ∧ i ≤ xs.length ∧ Pv i ys σ H, ⟨xs.length, by simp, Nat.zero_le _, h0⟩, ?_⟩
 rintro i m ys σ H ⟨rfl, hi, p⟩
 refine ⟨hz i ys σ H hi p, ?_⟩
 have q := hl i ys σ H hi p
 by_cases hlt : i < xs.length
 ·refine .inr ⟨⟨xs, xs[i], q, by simp [hlt]⟩, Pv (i + 1), fun ys' σ' H' p' => ⟨xs.length - (i + 1), by omega, rfl, hlt, p'⟩, fun x H' y => ?_⟩
  obtain ⟨e, y⟩ := y
  subst e
  exact hs i x ys σ _ (y xs q) p
 ·have e : i = xs.length := by omega
  subst e
  exact .inl ⟨⟨xs, q, Nat.le_refl _⟩, hd ys σ H p⟩
theorem zly {K : PySem.W.Frag} {a : Addr} {xs : List V} {σ0 : St} {H : Hp} {g : TG} {tc : TT} {te : TE} {Q : VK} (Pv : Nat → List V → St → Hp → Prop) (h0 : Pv 0 [] σ0 H) (hz : ∀ i ys σ H, i ≤ xs.length → Pv i ys σ H → ys.length ≤ sizeLine)
  (hl : ∀ i ys σ H, i ≤ xs.length → Pv i ys σ H → SqT K H a xs)
  (hs : ∀ i x ys σ H, xs[i]? = some x → Pv i ys σ H → g x σ H fun σ3 H3 => tc σ3 H3 fun b H4 => if b = true then te σ3 H4 fun v H5 => Pv (i + 1) (ys ++ [v]) σ3 H5 else Pv (i + 1) ys σ3 H4)
  (hd : ∀ ys σ H, Pv xs.length ys σ H → ∀ p, H p = none → Q (.ref p) (upd H p (.lst ys))) :
  zrw (Itt K a) g tc te σ0 H Q := by
 refine ⟨fun i m ys σ H => m = xs.length - i ∧ i ≤ xs.length ∧ Pv i ys σ H, ⟨xs.length, by simp, Nat.zero_le _, h0⟩, ?_⟩
 rintro i m ys σ H ⟨rfl, hi, p⟩
 refine ⟨hz i ys σ H hi p, ?_⟩
 have q := hl i ys σ H hi p
 by_cases hlt : i < xs.length
 ·refine .inr ⟨⟨xs, xs[i], q, by simp [hlt]⟩, Pv (i + 1), fun ys' σ' H' p' => ⟨xs.length - (i + 1), by omega, rfl, hlt, p'⟩, fun x H' y => ?_⟩
  obtain ⟨e, y⟩ := y
  subst e
  exact hs i x ys σ _ (y xs q) p
 ·have e : i = xs.length := by omega
  subst e
  exact .inl ⟨⟨xs, q, Nat.le_refl _⟩, hd ys σ H p⟩
section
variable {X : Cx} {tg iter elt : Expr} {cs : List Expr} {sc sc0 : Scope} {pos : Pos} {wi : TI} {g : TG} {tc : TT} {te : TE} {XN N' : List Str} {n : Nat} {kp : List Nat}
theorem zuk {pins : List (Addr × Obj)} {σ : St} {H : Hp} {s : Shared} {fp : List Addr} {C : Addr} (I : Inv X pins σ H s) (hk : sc.kind = .function) (hcell : ∀ y ∈ sc.names, y.2 ≠ .cell)
  (hfr : ∀ y ∈ sc.names, y.2 = .free → ∃ c, X.env.cells.lookup y.1 = some c) (hf : ∀ b ∈ fp, zj1 X pins H b) (hl : ∀ b ∈ fp, b < s.heap.objs.size) (hC : s.heap.objs.size ≤ C) : (blk X N' sc C fp pins s H).Ok where
 mod := I.ok.mod
 kind := hk
 glob := I.ok.glob
 blt := I.ok.blt
 above := hC
 inj := fun x y c h1 h2 => I.ok.inj x y c (zca hfr h1) (zca hfr h2)
 has := fun x hx => by
  have q : ∃ k, (x, k) ∈ sc.names ∧ k = .free := by
   have hx' : (znm sc X.env.scope).names.lookup x = some .cell ∨ (znm sc X.env.scope).names.lookup x = some .free := hx
   have go : ∀ k, (znm sc X.env.scope).names.lookup x = some k → (k = .cell ∨ k = .free) → (x, NameKind.free) ∈ sc.names := fun k e hk' => by
    have hm := PySem.mem_of_lookup e
    obtain ⟨⟨y, ky⟩, hy, ey⟩ := List.mem_map.mp hm
    dsimp only at ey
    split at ey
    ·rename_i hc
     cases ey
     have z : ky = .free := by
      simp only [Bool.and_eq_true] at hc
      simpa using hc.1.1
     subst z
     exact hy
    ·cases ey
     rcases hk' with z | z
     ·exact absurd z (hcell _ hy)
     ·subst z
      exact hy
   rcases hx' with e | e
   ·exact ⟨_, go _ e (.inl rfl), rfl⟩
   ·exact ⟨_, go _ e (.inr rfl), rfl⟩
  obtain ⟨k, hm, rfl⟩ := q
  obtain ⟨c, hc⟩ := hfr _ hm rfl
  exact ⟨c, zfx hfr hm hc⟩
 cab := fun x c h => absurd h (by simp [blk])
 hd := I.ok.hd
 frames := I.ok.frames
 stk := .inl rfl
 exf := fun b hb => ⟨Nat.ne_of_lt (Nat.lt_of_lt_of_le (hl b hb) hC), fun x c e => (hf b hb).2.2.2.2.1 x c (zca hfr e)⟩
 bs := I.bs
 bsz := Nat.le_trans I.ok.bsz I.sz
 noex := fun b o e hb => by
  rcases (hf b hb).2.2.2.1 with z | z
  ·exact I.ok.noex b o e z
  ·exact absurd (Nat.lt_of_lt_of_le (Heap.lt_size e) (Nat.le_trans I.ok.bsz z)) (Nat.lt_irrefl _)
 exfs := fun b hb z => by
  rcases List.mem_cons.mp (I.stkSub b z) with q | q
  ·exact (hf b hb).2.1 q
  ·exact (hf b hb).2.2.1 q
 funs := I.stack
 frf := I.stkFree
end
end L2
set_option maxRecDepth 100000
set_option maxHeartbeats 4000000
namespace L2
open PySem PySem.Spec PyProof.Rows
section
variable {X : Cx} {tg iter elt : Expr} {cs : List Expr} {sc sc0 : Scope} {pos : Pos} {wi : TI} {g : TG} {tc : TT} {te : TE} {XN N' : List Str} {n : Nat} {kp : List Nat}
theorem zpp {pins : List (Addr × Obj)} {σ : St} {H : Hp} {s : Shared} {fp : List Addr} {C : Addr} {h1 : Heap} {tk : Nat} {m : Str → Option Value} (I : Inv X pins σ H s) (h0 : X.env.scope = sc0) (hN : X.N = XN) (ok : zpk sc0 sc XN N' n kp = true)
  (hf : ∀ b ∈ fp, zj1 X pins H b) (hl : ∀ b ∈ fp, b < s.heap.objs.size) (hC : s.heap.objs.size ≤ C) (old : ∀ b o, s.heap.get? b = some o → h1.get? b = some o) (ns : h1.Ns C m) :
  Inv (blk X N' sc C fp pins s H) [] (List.replicate n none ++ kp.map fun j => (σ[j]?).join) H { s with heap := h1, toks := tk } := by
 obtain ⟨o1, o2, o3, o4, o5, o6⟩ := zji ok
 subst h0
 subst hN
 have hfr : ∀ y ∈ sc.names, y.2 = .free → ∃ c, X.env.cells.lookup y.1 = some c := fun y hy e => I.ok.has y.1 (.inl (o4 y hy e))
 have below : ∀ b, b < s.heap.objs.size → b ≠ C := fun b hb => Nat.ne_of_lt (Nat.lt_of_lt_of_le hb hC)
 refine ⟨zuk I o1 o2 hfr hf hl hC, rfl, I.bare, Un.kept old, ⟨m, ns, fun i x v e1 e2 e3 => ?_⟩, fun x c e => ?_, I.hok.fresh hC, fun x c e => ?_, fun p hp => ?_, I.hok.kept old, ?_⟩
 ·have hi : n ≤ i := by
   by_cases z : n ≤ i
   ·exact z
   ·rw [List.getElem?_append_left (by rw [List.length_replicate]; omega), List.getElem?_replicate] at e2
    split at e2 <;> cases e2
  obtain ⟨j, rfl⟩ : ∃ j, i = n + j := ⟨i - n, by omega⟩
  obtain ⟨q, hq, hx, hm, hkd⟩ := o6 j x e1
  rw [List.getElem?_append_right (by rw [List.length_replicate]; omega), List.length_replicate, Nat.add_sub_cancel_left, List.getElem?_map, hq] at e2
  have e4 : (σ[q]?).join = some v := Option.some.inj e2
  have e2' : σ[q]? = some (some v) := by
   cases z : σ[q]? with
   | none => rw [z] at e4; cases e4
   | some w => rw [z] at e4; cases e4; rfl
  obtain ⟨c, hc⟩ := hfr _ hm rfl
  have kx : X.env.kindOf x = some .cell := o4 _ hm rfl
  obtain ⟨m', hn', hl'⟩ := I.loc
  obtain ⟨u, r, lk⟩ := hl' q x v hx e2' (.inr (.inl kx))
  refine ⟨u, r, .inr ⟨hkd, c, zfx hfr hm hc, ?_⟩⟩
  rcases lk with ⟨k, _⟩ | ⟨_, c', hc', hv⟩
  ·rw [kx] at k
   cases k
  ·rw [hc] at hc'
   cases hc'
   exact hv.keeps old
 ·obtain ⟨v, hv⟩ := I.cell x c (zca hfr e)
  exact ⟨v, hv.keeps old⟩
 ·exact I.freeC x c (zca hfr e)
 ·have hp' : p ∈ X.pn ++ pins := by
   have : p ∈ (X.pn ++ pins) ++ ([] : List (Addr × Obj)) := hp
   rw [List.append_nil] at this
   exact this
  obtain ⟨q1, q2, q3, q4, q5⟩ := I.pin p hp'
  refine ⟨old _ _ q1, q2, below _ (Heap.lt_size q1), fun z => ?_, q5⟩
  rcases List.mem_cons.mp (I.stkSub _ z) with r | r
  ·exact q3 r
  ·exact q4 r
 ·show (List.replicate n none ++ kp.map fun j => (σ[j]?).join).length = N'.length
  rw [List.length_append, List.length_replicate, List.length_map, o5]
theorem zr4 {pins : List (Addr × Obj)} {s : Shared} {σ : St} {H : Hp} {Q : VK} {use : Option (Value → Sem Unit)} {Qf : Value → Shared → Prop} (hc : X.calm = true) (hi : PI X tg iter wi) (h0 : X.env.scope = sc0) (hN : X.N = XN) (ok : zpk sc0 sc XN N' n kp = true)
  (hg : ∀ C fp pins s H, PG (blk X N' sc C fp pins s H) tg g) (ht : ∀ C fp pins s H, PTs (blk X N' sc C fp pins s H) cs tc) (he : ∀ C fp pins s H, PE (blk X N' sc C fp pins s H) elt te) (hs : ∀ x, foldedSetIterable iter X.env x = pure x)
  (I : Inv X pins σ H s) (h : tLc n kp wi g tc te σ H Q)
  (fin : ∀ D C ys H' s', Inv X pins σ (upd H' D (.lst ys)) s' → (∃ m, s'.heap.Ns C m) → zj1 X pins (upd H' D (.lst ys)) C → Q (.ref D) (upd H' D (.lst ys)) → compPost (model X.prog X.w) X.A X.xe use Qf (.ref D) C (.ok .next) s') {pos' : Pos} :
  wpAny (model X.prog X.w) X.A (comprehension (.ListComp elt [⟨tg, iter, cs, 0⟩] sc pos) sc X.env pos' (newList []) false (firstIter [⟨tg, iter, cs, 0⟩] X.env) use) Qf X.xe s := by
 obtain ⟨o1, o2, o3, o4, o5, o6⟩ := zji ok
 have hfr : ∀ y ∈ sc.names, y.2 = .free → ∃ c, X.env.cells.lookup y.1 = some c := fun y hy e => I.ok.has y.1 (.inl (by rw [Env.kindOf, h0]; exact o4 y hy e))
 refine wpAny_comprehension_free (use := use) rfl hs (zo6 hfr) o1 o3 (thn (hi pins s σ H _ I h) fun v s1 h1 => thn h1 fun itv s2 h2 => ?_)
 obtain ⟨it, fp, tn, J, H2, rfl, I2, T, st2, f2, W, ⟨m0, w0⟩, turn⟩ := h2
 have hl : ∀ b ∈ fp, b < s2.heap.objs.size := fun b hb => by
  obtain ⟨o, e, _⟩ := T.obj 0 _ st2 b hb
  exact Heap.lt_size e
 refine wpAny_newObj_type (wpAny_newFunctionEnv o2 (by intro y hy; simp at hy) (fun h1 ns1 sb1 => ?_) o1)
 dsimp only at ns1 sb1 ⊢
 generalize hG : s2.heap.push { cls := .type "list", dict := none, data := .seq ([] : List Value).toArray } = G at ns1 sb1 ⊢
 have hGs : G.objs.size = s2.heap.objs.size + 1 := by rw [← hG, Heap.size_push]
 have hCl : s2.heap.objs.size ≤ G.objs.size := by omega
 have hDC : s2.heap.objs.size ≠ G.objs.size := by omega
 have old : ∀ b o, s2.heap.get? b = some o → h1.get? b = some o := fun b o e => by
  have lt := Heap.lt_size e
  exact sb1.extBut b o (Nat.ne_of_lt (Nat.lt_of_lt_of_le lt hCl)) (Heap.get?_push_of_some _ (hG ▸ Heap.get?_push_of_some _ e))
 have hD1 : h1.get? s2.heap.objs.size = some { cls := .type "list", data := .seq ([] : List Value).toArray 0 } :=
  sb1.extBut _ _ hDC (Heap.get?_push_of_some _ (hG ▸ Heap.get?_push_size _ rfl))
 have nD2 : H2 s2.heap.objs.size = none := I2.hok.fresh (Nat.le_refl _)
 have nC2 : H2 G.objs.size = none := I2.hok.fresh hCl
 have loop : ∀ s3 : Shared, s3 = { s2 with heap := h1, toks := s2.toks + ([] : List (Str × Value)).length } →
   codeAny (model X.prog X.w) X.A (.compLoop (.ListComp elt [⟨tg, iter, cs, 0⟩] sc pos) 0 (.ref it) (.ref s2.heap.objs.size) (compEnvC sc (zfi sc X.env) G.objs.size X.env))
    (compPost (model X.prog X.w) X.A X.xe use Qf (.ref s2.heap.objs.size) G.objs.size) s3 := by
  rintro s3 rfl
  have I3 := zpp (fp := fp) (C := G.objs.size) (h1 := h1) (tk := s2.toks + ([] : List (Str × Value)).length) I2 h0 hN ok f2 hl hCl old ns1
  have stat : ∀ {H' : Hp} {o : Obj}, (∀ b ∈ fp, H' b = none) → ∀ b ∈ fp, zj1 (blk X N' sc G.objs.size fp pins s2 H2) [(s2.heap.objs.size, o)] H' b := fun hn b hb => by
   have lt := hl b hb
   refine ⟨hn b hb, Nat.ne_of_lt (Nat.lt_of_lt_of_le lt hCl), I3.ok.exfs b hb, .inl hb, (I3.ok.exf b hb).2, fun p hp => ?_⟩
   rcases List.mem_append.mp hp with z | z
   ·exact (f2 b hb).2.2.2.2.2 p z
   ·have e : p.1 = s2.heap.objs.size := by rw [List.mem_singleton.mp z]
    rw [e]
    exact Nat.ne_of_gt lt
  have pinD : ∀ {σ' : St} {H' : Hp} {s' : Shared} {o : Obj}, Inv (blk X N' sc G.objs.size fp pins s2 H2) [] σ' H' s' → s'.heap.get? s2.heap.objs.size = some o → (∀ v, o.data ≠ .cell v) → H' s2.heap.objs.size = none →
    Inv (blk X N' sc G.objs.size fp pins s2 H2) [(s2.heap.objs.size, o)] σ' H' s' := fun {σ' H' s' o} J' e hd hn => J'.pins_of fun p hp => by
   rw [List.mem_singleton.mp hp]
   exact ⟨e, hn, hDC, fun z => by
    rcases List.mem_cons.mp (I2.stkSub _ z) with r | r
    ·exact absurd I2.lt (by rw [← r]; exact Nat.lt_irrefl _)
    ·exact I2.nofs (Nat.le_refl _) r, hd⟩
  refine zsa (fun k s' => ∃ (i : Nat) (ys : List V) (its : List Value) (c : Nat) (σ' : St) (H' : Hp), Inv (blk X N' sc G.objs.size fp pins s2 H2) [] σ' H' s' ∧ tn i s'.heap ∧ (∀ b ∈ fp, H' b = none) ∧
   s'.heap.get? s2.heap.objs.size = some { cls := .type "list", data := .seq its.toArray c } ∧ Vals ys its ∧ H' s2.heap.objs.size = none ∧ W i k ys σ' H') ?_ m0 _
   ⟨0, [], [], 0, _, H2, I3, T.keep _ _ _ st2 fun b _ o e => old b o e, fun b hb => (f2 b hb).1, hD1, .nil, nD2, w0⟩
  rintro k s' ⟨i, ys, its, c, σ', H', I', st', fr', hD', hv, nD, w'⟩
  obtain ⟨hz, cases⟩ := turn i k ys σ' H' w'
  have I'' := pinD I' hD' (fun v => by intro z; cases z) nD
  rcases cases with ⟨stop, q⟩ | ⟨go, N, hN2, step⟩
  ·refine thn (T.done (blk X N' sc G.objs.size fp pins s2 H2) rfl rfl rfl hc i _ s' σ' H' NoX I'' (stat fr') st' stop) fun r s4 ⟨hr, I4⟩ => ?_
   subst hr
   obtain ⟨e4, n4, _⟩ := I4.pin (s2.heap.objs.size, { cls := .type "list", data := .seq its.toArray c }) (List.mem_append_right _ (List.mem_singleton.mpr rfl))
   have u4 : Un (frs X.stack) fp H2 H' s2.heap s4.heap := I4.base
   have nC4 : H' G.objs.size = none := I4.free
   obtain ⟨m4, ns4, _⟩ := I4.loc
   have neD : ∀ b o, s2.heap.get? b = some o → b ≠ s2.heap.objs.size := fun b o e => Nat.ne_of_lt (Heap.lt_size e)
   have u5 : Un (frs X.stack) fp H2 (upd H' s2.heap.objs.size (.lst ys)) s2.heap s4.heap :=
    ⟨u4.keep, u4.slot, fun b o e nb hx => by rw [zao (neD b o e)]; exact u4.free b o e nb hx, u4.there, fun b xs e => by rw [zao (zav e nD2)]; exact u4.tups b xs e,
     fun b o u e => by rw [zao (zav e nD2)]; exact u4.frzs b o u e, fun b ps e => by rw [zao (zav e nD2)]; exact u4.tbls b ps e⟩
   have hok5 : HOk X.prog X.w (upd H' s2.heap.objs.size (.lst ys)) s4.heap := fun a o e => by
    by_cases ea : a = s2.heap.objs.size
    ·subst ea
     rw [zae] at e
     cases e
     exact ⟨hz, its, c, hv, e4⟩
    ·rw [zao ea] at e
     exact (I4.hok a o e).stay (fun _ _ _ q => q) (fun b q => by rw [zao (zav q nD)]; exact q) fun b xs q => by rw [zao (zav q nD)]; exact q
   have I5 : Inv X pins σ (upd H' s2.heap.objs.size (.lst ys)) s4 := I2.call' I4.os u5 hok5 I4.bare fun b hb => ⟨(f2 b hb).2.2.2.1, (f2 b hb).2.1, (f2 b hb).2.2.2.2.1, (f2 b hb).2.2.2.2.2⟩
   refine fin _ _ ys H' s4 I5 ⟨m4, ns4⟩ (I2.fpOk hCl ?_) (q _ nD)
   rw [zao (Ne.symm hDC)]
   exact nC4
  ·refine thn (T.item (blk X N' sc G.objs.size fp pins s2 H2) rfl rfl rfl hc i _ s' σ' H' NoX I'' (stat fr') st' go) fun r s4 ⟨u, hr, h4⟩ => ?_
   subst hr
   refine thn h4 fun _ s5 ⟨x, H5, I5, r5, y5, st5, fr5⟩ => ?_
   have I5' := I5.pinned (stat fr5) (T.obj _ _ st5)
   refine thn (hg _ _ _ _ _ _ s5 σ' H5 x u _ I5' r5 (step x H5 y5)) fun _ s6 ⟨σ6, H6, I6, q6⟩ => ?_
   refine thn (ht _ _ _ _ _ _ s6 σ6 H6 _ I6 q6) fun b s7 ⟨H7, I7, q7⟩ => ?_
   have back : ∀ {s8 : Shared} {H8 : Hp} (m' : Nat), Inv (blk X N' sc G.objs.size fp pins s2 H2) ([(s2.heap.objs.size, { cls := .type "list", data := .seq its.toArray c })] ++ zhl fp s5.heap) σ6 H8 s8 →
     tn (i + 1) s8.heap ∧ (∀ b ∈ fp, H8 b = none) ∧ s8.heap.get? s2.heap.objs.size = some { cls := .type "list", data := .seq its.toArray c } ∧ H8 s2.heap.objs.size = none := fun {s8 H8} m' I8 => by
    have pn : ∀ p ∈ [(s2.heap.objs.size, ({ cls := .type "list", data := .seq its.toArray c } : Obj))] ++ zhl fp s5.heap, s8.heap.get? p.1 = some p.2 ∧ H8 p.1 = none := fun p hp =>
     let ⟨a, b, _⟩ := I8.pin p (List.mem_append_right _ hp); ⟨a, b⟩
    refine ⟨T.keep _ _ _ st5 fun b hb o e => (pn (b, o) (List.mem_append_right _ (ze2 hb e))).1, fun b hb => ?_, pn _ (List.mem_append_left _ (List.mem_singleton.mpr rfl))⟩
    obtain ⟨o, e, _⟩ := T.obj _ _ st5 b hb
    exact (pn (b, o) (List.mem_append_right _ (ze2 hb e))).2
   have bare : ∀ {s8 : Shared} {H8 : Hp} {pl : List (Addr × Obj)}, Inv (blk X N' sc G.objs.size fp pins s2 H2) pl σ6 H8 s8 → Inv (blk X N' sc G.objs.size fp pins s2 H2) [] σ6 H8 s8 := fun I8 => I8.pins_of fun p hp => nomatch hp
   cases b with
   | false =>
    rw [if_neg Bool.false_ne_true] at q7 ⊢
    obtain ⟨m', lt, w7⟩ := hN2 _ _ _ q7
    obtain ⟨b1, b2, b3, b4⟩ := back m' I7
    exact ⟨m', lt, i + 1, ys, its, c, σ6, H7, bare I7, b1, b2, b3, hv, b4, w7⟩
   | true =>
    rw [if_pos rfl] at q7 ⊢
    refine thn (he _ _ _ _ _ _ s7 σ6 H7 _ I7 q7) fun y s8 ⟨yv, H8, I8, r8, q8⟩ => ?_
    obtain ⟨m', lt, w8⟩ := hN2 _ _ _ q8
    obtain ⟨b1, b2, b3, b4⟩ := back m' I8
    have hlen := hv.length
    refine append_at (hsz := by rw [List.size_toArray, ← hlen]; exact hz) b3 fun h9 sb9 e9 => ?_
    have I9 : Inv (blk X N' sc G.objs.size fp pins s2 H2) [] σ6 H8 { s8 with heap := h9 } := (bare I8).turned (t' := s8.toks) (it := s2.heap.objs.size) (fun b o hb e => sb9.extBut b o hb e) b4 hDC (.inr (Nat.le_refl _))
     (fun x c e z => by
      obtain ⟨v, hv⟩ := I2.cell x c (zca hfr e)
      exact absurd hv.lt (by rw [z]; exact Nat.lt_irrefl _))
     fun p hp z => by
      have hp' : p ∈ X.pn ++ pins := by
       have : p ∈ (X.pn ++ pins) ++ ([] : List (Addr × Obj)) := hp
       rw [List.append_nil] at this
       exact this
      exact absurd (Heap.lt_size (I2.pin p hp').1) (by rw [z]; exact Nat.lt_irrefl _)
    refine ⟨m', lt, i + 1, ys ++ [yv], its ++ [y], c + 1, σ6, H8, I9, T.keep _ _ _ b1 fun b hb o e => sb9.extBut b o (Nat.ne_of_lt (hl b hb)) e, b2, ?_, hv.append (.cons r8 .nil), b4, w8⟩
    rw [e9]
    simp
 exact codeAny_compStart_list (loop _ rfl) (T.self _ 0 _ _ _ (T.keep _ _ _ st2 fun b _ o e => old b o e) (loop _ rfl))
theorem ziu (hc : X.calm = true) (hi : PI X tg iter wi) (h0 : X.env.scope = sc0) (hN : X.N = XN) (ok : zpk sc0 sc XN N' n kp = true)
  (hg : ∀ C fp pins s H, PG (blk X N' sc C fp pins s H) tg g) (ht : ∀ C fp pins s H, PTs (blk X N' sc C fp pins s H) cs tc) (he : ∀ C fp pins s H, PE (blk X N' sc C fp pins s H) elt te)
  (hs : ∀ x, foldedSetIterable iter X.env x = pure x := by intro _; rfl) : PE X (.ListComp elt [⟨tg, iter, cs, 0⟩] sc pos) (tLc n kp wi g tc te) := by
 intro pins s σ H Q I h
 rw [eval_ListComp]
 refine zr4 hc hi h0 hN ok hg ht he hs I h fun D C ys H' s' I' ns fp q => ?_
 obtain ⟨m, hm⟩ := ns
 refine ⟨m, hm, fun h' sb => ⟨.ref D, _, ?_, rfl, q⟩⟩
 obtain ⟨f1, f2, f3, f4, f5, f6⟩ := fp
 exact I'.turned (t' := s'.toks) (it := C) (fun b o hb e => sb.extBut b o hb e) f1 f2 f4 f5 f6
end
end L2
set_option maxRecDepth 100000
set_option maxHeartbeats 4000000
namespace L2
open PySem PySem.Spec PyProof.Rows
section
variable {X : Cx} {tg iter elt : Expr} {cs : List Expr} {sc sc0 : Scope} {pos : Pos} {wi : TI} {g : TG} {tc : TT} {te : TE} {XN N' : List Str} {n : Nat} {kp : List Nat}
theorem zjf {i : Nat} {y : Str} {py spos : Pos} (hNd : X.N.Nodup) (hiy : X.N[i]? = some y) (hy : X.env.scope.names.lookup y = some .local) (hsw : swapsWith (.ListComp elt [⟨tg, iter, cs, 0⟩] sc pos) (some (.Name y py)) spos.line X.env = pure true)
  (hc : X.calm = true) (hi : PI X tg iter wi) (h0 : X.env.scope = sc0) (hN : X.N = XN) (ok : zpk sc0 sc XN N' n kp = true)
  (hg : ∀ C fp pins s H, PG (blk X N' sc C fp pins s H) tg g) (ht : ∀ C fp pins s H, PTs (blk X N' sc C fp pins s H) cs tc) (he : ∀ C fp pins s H, PE (blk X N' sc C fp pins s H) elt te)
  (hs : ∀ x, foldedSetIterable iter X.env x = pure x := by intro _; rfl) : PS X (.Assign [.Name y py] (.ListComp elt [⟨tg, iter, cs, 0⟩] sc pos) spos) (zt5 (tLc n kp wi g tc te) (zo0 i)) := by
 intro pins s σ H D I h
 rw [exec_Assign_Name_used _ _ _ _ hsw]
 refine wpAny_bind (wpAny_standAt (wpAny_bind ?_))
 have fin : wpAny (model X.prog X.w) X.A (comprehension (.ListComp elt [⟨tg, iter, cs, 0⟩] sc pos) sc X.env (firstIterPos [⟨tg, iter, cs, 0⟩] pos) (newList []) false (firstIter [⟨tg, iter, cs, 0⟩] X.env) (some (assign (.Name y py) X.env)))
   (fun _ s' => SP X pins D .next s') X.xe s := by
  refine zr4 (Q := fun x H1 => zo0 i x σ H1 D.nx) hc hi h0 hN ok hg ht he hs I h fun D' C ys H' s' I' ns fp q => ?_
  obtain ⟨m, hm⟩ := ns
  obtain ⟨f1, f2, f3, f4, f5, f6⟩ := fp
  obtain ⟨o, es, ep, ho, rest⟩ := id hm
  have nc : ∀ v, o.data ≠ .cell v := fun v z => by
   rw [rest.1] at z
   cases z
  have I'' : Inv X (pins ++ [(C, o)]) σ (upd H' D' (.lst ys)) s' := I'.pins_of fun p hp => by
   rcases List.mem_append.mp hp with z | z
   ·exact I'.pin p (List.mem_append_right _ z)
   ·rw [List.mem_singleton.mp z]
    exact ⟨ho, f1, f2, f3, nc⟩
  show wpAny (model X.prog X.w) X.A (assign (.Name y py) X.env (.ref D')) _ X.xe s'
  refine thn (za3 hNd hiy (.inl hy) (.inr hy) _ s' σ _ (.ref D') (.ref D') D.nx I'' rfl q) fun _ s'' ⟨σ3, H3, I3, q3⟩ => ?_
  obtain ⟨p1, p2, _⟩ := I3.pin (C, o) (List.mem_append_right _ (List.mem_append_right _ (List.mem_singleton.mpr rfl)))
  refine ⟨m, ⟨o, es, ep, p1, rest⟩, fun h' sb => ⟨σ3, H3, ?_, q3⟩⟩
  exact I3.unpinned.turned (t' := s''.toks) (it := C) (fun b o hb e => sb.extBut b o hb e) p2 f2 f4 f5 f6
 show wpAny (model X.prog X.w) X.A (comprehension _ _ _ _ _ _ _ _ >>= _) _ _ s
 exact wpAny_bind (thn fin fun _ s' q => wpAny_pure (wpAny_pure q))
end
section
variable {X : Cx}
theorem zp0 (bs : List Bool) : ((List.range bs.length).all fun i => (bs[i]?).getD true) = bs.all id := by
 rw [Bool.eq_iff_iff, List.all_eq_true, List.all_eq_true]
 refine ⟨fun h b hb => ?_, fun h i hi => ?_⟩
 ·obtain ⟨i, hi, rfl⟩ := List.getElem_of_mem hb
  have := h i (List.mem_range.mpr hi)
  rw [List.getElem?_eq_getElem hi] at this
  exact this
 ·have hi' := List.mem_range.mp hi
  show (bs[i]?).getD true = true
  rw [List.getElem?_eq_getElem hi']
  exact h _ (List.getElem_mem hi')
theorem zmr (hc : X.calm = true) : zeq X (.builtin "all") (fun xs H Q => ∃ (p : Addr) (bs : List Bool), xs = [.ref p] ∧ SqL X.K H p (bs.map V.bl) ∧ Q (.bl (bs.all id)) H) := by
 intro pins s σ H xs us Q I r h
 obtain ⟨p, bs, rfl, hq, q⟩ := h
 obtain ⟨u, rfl, rx⟩ := zga r
 cases rx
 obtain ⟨its, rv, pl, hz⟩ := I.list hq
 have hl := pl.isList
 have hlt : p < s.heap.objs.size := by obtain ⟨_, e, _⟩ := hl; exact Heap.lt_size e
 refine call_all_walk (wpAny_pyIter_list hl ?_)
 refine ⟨s.heap.objs.size, [s.heap.objs.size, p], [s.heap.objs.size], its.toArray.size, _, _, fun i => (bs[i]?).getD true, rfl, Walks.list (A := X.A.in1) (I.ok.hd hc) _ p (Nat.ne_of_lt hlt) its.toArray,
  ⟨⟨_, Heap.get?_push_size _ rfl, rfl, rfl⟩, hl.push _⟩, fun i v s' Q' E' hP hQ => ?_, fun h' tk hk => ?_⟩
 ·have e : its[i]? = some v := by simpa using hP
  have hlen := rv.length
  rw [List.length_map] at hlen
  have hi : i < bs.length := by
   have := (List.getElem?_eq_some_iff.mp e).1
   omega
  obtain ⟨u, hu, ru⟩ := rv.get (i := i) (x := .bl bs[i]) (by rw [List.getElem?_map, List.getElem?_eq_getElem hi]; rfl)
  rw [e] at hu
  cases hu
  cases (show v = Value.bool bs[i] from ru)
  dsimp only at hQ
  rw [List.getElem?_eq_getElem hi] at hQ
  exact wpAny_truthy_bool hQ
 ·have hlen := rv.length
  rw [List.length_map] at hlen
  have e : ((List.range its.toArray.size).all fun i => (bs[i]?).getD true) = bs.all id := by
   rw [List.size_toArray, ← hlen]
   exact zp0 bs
  rw [e]
  refine ⟨.bl _, H, I.kept (t' := tk) fun b o eb => hk b o (fun hm => ?_) (Heap.get?_push_of_some _ eb), rfl, q⟩
  rw [List.mem_singleton.mp hm] at eb
  exact Nat.lt_irrefl _ (Heap.lt_size eb)
end
end L2
set_option maxRecDepth 100000
set_option maxHeartbeats 4000000
namespace L2
open PySem PySem.Spec PyProof.Rows
section
variable {prog : Program} {w : World} {A : Around} {E : Value → Shared → Prop} {s : Shared}
open AutoSeq1 (wpAny_loadPart') in
end
section
variable {X : Cx} {pins : List (Addr × Obj)} {σ : St} {H : Hp} {s : Shared}
end
end L2
set_option maxRecDepth 100000
set_option maxHeartbeats 4000000
namespace L2
open PySem PySem.Spec PyProof.Rows
section
variable {X : Cx}
theorem zoy {P : Nat → Value → Prop} {f : Nat → V} (hP : ∀ i v, P i v → RelV (f i) v) : ∀ (n k : Nat) (l : List Value), l.length = n → (∀ j v, l[j]? = some v → P (k + j) v) → Vals ((List.range' k n).map f) l
 | 0, k, [], _, _ => .nil
 | n + 1, k, v :: r, hl, h => by
  rw [List.range'_succ, List.map_cons]
  refine .cons (hP _ _ (h 0 v rfl)) (zoy hP n (k + 1) r (by simpa using hl) fun j v' e => ?_)
  have := h (j + 1) v' (by simpa using e)
  rw [show k + 1 + j = k + (j + 1) by omega]
  exact this
 | 0, _, _ :: _, hl, _ => by simp at hl
 | n + 1, _, [], hl, _ => by simp at hl
theorem zjv (hc : X.calm = true) : zeq X (.type "list") (fun xs H Q => ∃ (p : Addr) (lo hi : Int), xs = [.ref p] ∧ H p = some (.rng lo hi) ∧ -(2 ^ 62) ≤ lo ∧ lo < 2 ^ 62 ∧ -(2 ^ 62) ≤ hi ∧ hi < 2 ^ 62 ∧ (hi - lo).toNat ≤ 1000 ∧ ∀ l, H l = none → Q (.ref l) (upd H l (.lst ((List.range' 0 (hi - lo).toNat).map fun i : Nat => V.int (lo + i))))) := by
 intro pins s σ H xs us Q I r h
 obtain ⟨p, lo, hi, rfl, hp, b1, b2, b3, b4, hz, q⟩ := h
 obtain ⟨u, rfl, rx⟩ := zga r
 cases rx
 obtain ⟨t, u, v, e⟩ := (show ObjOk X.prog X.w H s.heap p (.rng lo hi) from I.hok p _ hp)
 have hn : Builtin.Range.rangeSize lo hi 1 = (((hi - lo).toNat : Nat) : Int) := by
  rw [rangeSize_one]
  split <;> omega
 refine call_list_range (I.ok.hd hc) e (small_one b1 b2 b3 b4) hn (Nat.le_trans hz (by decide)) fun g tk acc c kk eg hi' => ?_
 obtain ⟨sz, it⟩ := hi'
 have vv : Vals ((List.range' 0 (hi - lo).toNat).map fun i : Nat => V.int (lo + i)) acc.toList := by
  refine zoy (P := fun i v => ∃ t, v = .int (lo + i * 1) t) (fun i v hv => ?_) _ 0 acc.toList (by simpa using sz) fun j v ej => ?_
  ·obtain ⟨t, rfl⟩ := hv
   exact ⟨t, by rw [Int.mul_one]⟩
  ·have := it j v (by simpa using ej)
   rw [Nat.zero_add]
   exact this
 refine ⟨.ref s.heap.objs.size, _, I.laid (t' := tk) kk (Nat.le_refl _) (show ObjOk X.prog X.w _ _ _ (.lst _) from ⟨?_, acc.toList, c, vv, eg⟩), rfl, q _ (I.hok.fresh (Nat.le_refl _))⟩
 rw [List.length_map, List.length_range']
 exact Nat.le_of_lt (zc3 hz)
open AutoSeq1 (wpAny_loadPart') in
theorem zdq (hc : X.calm = true) : zeq X (.builtin "sum") (fun xs H Q => ∃ (p : Addr) (ns : List Int), xs = [.ref p] ∧ SqL X.K H p (ns.map V.int) ∧ Q (.int ns.sum) H) := by
 intro pins s σ H xs us Q I r h
 obtain ⟨p, ns, rfl, hq, q⟩ := h
 obtain ⟨u, rfl, rx⟩ := zga r
 cases rx
 obtain ⟨its, rv, pl, hz'⟩ := I.list hq
 have ia := zd3 rv
 obtain ⟨ps, hx⟩ := ia.allInts.items
 have hl' : s.heap.IsList p (intItems ps) := hx ▸ pl.isList
 refine sum_intListG (I.ok.hd hc) hl' fun g tk t' hk => ?_
 have e1 : ns = ps.toList.map (·.1) := by
  rw [← nums_intItems, ← hx]
  exact (show numsOf its.toArray.toList = ns from ia.numsOf).symm
 have e2 : preSum (numAt ps) ps.size = ns.sum := by
  rw [preSum_eq, List.take_of_length_le (by simp), e1]
 rw [e2]
 exact ⟨.int _, H, I.kept (t' := tk) hk, ⟨t', rfl⟩, q⟩
end
section
variable {X : Cx} {K : PySem.W.Frag}
theorem ixT (h : X.K = K := by rfl) : IxR X (zu5 K) := h ▸ zkz
theorem ixL (h : X.K = K := by rfl) : IxR X (zuy K) := h ▸ ztb
theorem ze9 (h : X.K = K := by rfl) : zeq X (.builtin "len") (fun xs H Q => ∃ p ys, xs = [.ref p] ∧ (SqL K H p ys ∨ SqT K H p ys) ∧ Q (.int ys.length) H) := h ▸ zk1
end
mutual
def Dn (H : Hp) : PyData → V → Prop
 | .none, v => v = .non
 | .bool b, v => v = .bl b
 | .int i, v => v = .int i
 | .str x, v => v = .str x
 | .list ds, v => ∃ a xs, v = .ref a ∧ H a = some (.lst xs) ∧ DnL H ds xs
 | .tuple ds, v => ∃ a xs, v = .ref a ∧ H a = some (.tup xs) ∧ DnL H ds xs
 | .dict kvs, v => kvs = [] ∧ ∃ a, v = .ref a ∧ H a = some (.dK [])
def DnL (H : Hp) : List PyData → List V → Prop
 | [], xs => xs = []
 | d :: ds, xs => ∃ x r, xs = x :: r ∧ Dn H d x ∧ DnL H ds r
end
mutual
theorem Dn.same {H H' : Hp} (h : Same H H') : ∀ (d : PyData) (v : V), Dn H d v → Dn H' d v
 | .none, _, q => q
 | .bool _, _, q => q
 | .int _, _, q => q
 | .str _, _, q => q
 | .list ds, _, ⟨a, xs, e, q, r⟩ => ⟨a, xs, e, h _ _ q, DnL.same h ds xs r⟩
 | .tuple ds, _, ⟨a, xs, e, q, r⟩ => ⟨a, xs, e, h _ _ q, DnL.same h ds xs r⟩
 | .dict _, _, ⟨e, a, q, r⟩ => ⟨e, a, q, h _ _ r⟩
theorem DnL.same {H H' : Hp} (h : Same H H') : ∀ (ds : List PyData) (xs : List V), DnL H ds xs → DnL H' ds xs
 | [], _, q => q
 | d :: ds, _, ⟨x, r, e, q, z⟩ => ⟨x, r, e, Dn.same h d x q, DnL.same h ds r z⟩
end
theorem DnL.length {H : Hp} : ∀ {ds : List PyData} {xs : List V}, DnL H ds xs → ds.length = xs.length
 | [], _, q => by cases (show _ = [] from q); rfl
 | d :: ds, _, ⟨x, r, e, _, z⟩ => by rw [e, List.length_cons, List.length_cons, DnL.length z]
theorem DnL.get {H : Hp} : ∀ {ds : List PyData} {xs : List V} {i : Nat} {x : V}, DnL H ds xs → xs[i]? = some x → ∃ d, ds[i]? = some d ∧ Dn H d x
 | [], _, i, x, q, e => by rw [(show _ = [] from q)] at e; simp at e
 | d :: ds, _, 0, x, ⟨y, r, e, q, z⟩, h => by rw [e] at h; cases h; exact ⟨d, rfl, q⟩
 | d :: ds, _, i + 1, x, ⟨y, r, e, q, z⟩, h => by
  rw [e] at h
  obtain ⟨d', h1, h2⟩ := DnL.get (i := i) z (by simpa using h)
  exact ⟨d', by simpa using h1, h2⟩
theorem DnL.get' {H : Hp} : ∀ {ds : List PyData} {xs : List V} {i : Nat} {d : PyData}, DnL H ds xs → ds[i]? = some d → ∃ x, xs[i]? = some x ∧ Dn H d x
 | [], _, i, x, q, e => by simp at e
 | d :: ds, _, 0, x, ⟨y, r, e, q, z⟩, h => by cases h; exact ⟨y, by rw [e]; rfl, q⟩
 | d :: ds, _, i + 1, x, ⟨y, r, e, q, z⟩, h => by
  obtain ⟨d', h1, h2⟩ := DnL.get' (i := i) z (by simpa using h)
  exact ⟨d', by rw [e]; simpa using h1, h2⟩
theorem DnL.append {H : Hp} : ∀ {ds es : List PyData} {xs ys : List V}, DnL H ds xs → DnL H es ys → DnL H (ds ++ es) (xs ++ ys)
 | [], es, xs, ys, q, r => by rw [(show xs = [] from q)]; exact r
 | d :: ds, es, _, ys, ⟨x, t, e, q, z⟩, r => ⟨x, t ++ ys, by rw [e]; rfl, q, DnL.append z r⟩
mutual
theorem Dn.reads {X : Cx} {pins : List (Addr × Obj)} {σ : St} {H : Hp} {s : Shared} (I : Inv X pins σ H s) : ∀ (d : PyData) (v : V) (u : Value), Dn H d v → d.canLay0 = true → RelV v u → ∃ as, Reads s.heap u d as
 | .none, v, u, q, _, r => by cases (show v = .non from q); cases (show u = Value.none from r); exact ⟨_, .none⟩
 | .bool b, v, u, q, _, r => by cases (show v = .bl b from q); cases (show u = Value.bool b from r); exact ⟨_, .bool b⟩
 | .int i, v, u, q, _, r => by cases (show v = .int i from q); obtain ⟨t, rfl⟩ := (show ∃ t, u = Value.int i t from r); exact ⟨_, .int i t⟩
 | .str x, v, u, q, _, r => by cases (show v = .str x from q); obtain ⟨t, rfl⟩ := (show ∃ t, u = Value.str x t from r); exact ⟨_, .str x t⟩
 | .list ds, _, u, ⟨a, xs, rfl, q, z⟩, c, r => by
  cases (show u = Value.ref a from r)
  obtain ⟨_, its, n, rv, e⟩ := (show ObjOk X.prog X.w H s.heap a (.lst xs) from I.hok a _ q)
  obtain ⟨as, ra⟩ := DnL.reads I ds xs its z (by simpa [PyData.canLay0] using c) rv
  exact ⟨_, .list e rfl rfl (by simpa using ra)⟩
 | .tuple ds, _, u, ⟨a, xs, rfl, q, z⟩, c, r => by
  cases (show u = Value.ref a from r)
  obtain ⟨_, its, rv, o, e, hc, n, hd⟩ := (show ObjOk X.prog X.w H s.heap a (.tup xs) from I.hok a _ q)
  obtain ⟨as, ra⟩ := DnL.reads I ds xs its z (by simpa [PyData.canLay0] using c) rv
  exact ⟨_, .tuple e hc hd (by simpa using ra)⟩
 | .dict k, v, u, _, c, _ => by simp [PyData.canLay0] at c
theorem DnL.reads {X : Cx} {pins : List (Addr × Obj)} {σ : St} {H : Hp} {s : Shared} (I : Inv X pins σ H s) : ∀ (ds : List PyData) (xs : List V) (us : List Value), DnL H ds xs → PyData.canLayAll0 ds = true → Vals xs us → ∃ as, ReadsAll s.heap us ds as
 | [], xs, us, q, _, r => by
  cases (show xs = [] from q)
  cases r
  exact ⟨_, .nil⟩
 | d :: ds, _, us, ⟨x, t, rfl, q, z⟩, c, r => by
  cases r with
  | cons rx rt =>
   have c' : PyData.canLay0 d = true ∧ PyData.canLayAll0 ds = true := by simpa [PyData.canLayAll0] using c
   obtain ⟨a1, r1⟩ := Dn.reads I d x _ q c'.1 rx
   obtain ⟨a2, r2⟩ := DnL.reads I ds t _ z c'.2 rt
   exact ⟨_, .cons r1 r2⟩
end
theorem znn {X : Cx} (hu : X.A.units + 64 < cLine) : OpR X (compareOp .NotEq) (fun x y H Q => ∃ d e : PyData, Dn H d x ∧ Dn H e y ∧ SeqAt.shaped d = true ∧ SeqAt.shaped e = true ∧ Q (.bl (!PyData.eqv d e)) H) := by
 intro pins s σ H x y v u Q I rx ry h
 obtain ⟨d, e, hd, he, sd, se, q⟩ := h
 obtain ⟨as, ra⟩ := Dn.reads I d x v hd (SeqAt.canLay_of_shaped sd) rx
 obtain ⟨bs, rb⟩ := Dn.reads I e y u he (SeqAt.canLay_of_shaped se) ry
 exact ne_dataH ra rb sd se hu ⟨.bl _, H, I, rfl, q⟩
mutual
theorem zq5 : ∀ d : PyData, d.canLay0 = true → PyData.eqv d d = true
 | .none, _ => by simp [PyData.eqv]
 | .bool _, _ => by simp [PyData.eqv]
 | .int _, _ => by simp [PyData.eqv]
 | .str _, _ => by simp [PyData.eqv]
 | .list ds, c => by simpa [PyData.eqv] using zfc ds (by simpa [PyData.canLay0] using c)
 | .tuple ds, c => by simpa [PyData.eqv] using zfc ds (by simpa [PyData.canLay0] using c)
 | .dict _, c => by simp [PyData.canLay0] at c
theorem zfc : ∀ ds : List PyData, PyData.canLayAll0 ds = true → PyData.eqvAll ds ds = true
 | [], _ => by simp [PyData.eqvAll]
 | d :: ds, c => by
  have c' : PyData.canLay0 d = true ∧ PyData.canLayAll0 ds = true := by simpa [PyData.canLayAll0] using c
  simp [PyData.eqvAll, zq5 d c'.1, zfc ds c'.2]
end
end L2
set_option maxRecDepth 100000
set_option maxHeartbeats 4000000
namespace Wd
open PySem L2
def isW : PyData → Bool
 | .int _ => true
 | _ => false
def within (d : PyData) (lo hi : Int) : Bool := match d with
 | .int i => decide (lo ≤ i) && decide (i ≤ hi)
 | _ => false
def zil (d : PyData) : Bool := match d with
 | .tuple ds => decide (0 < ds.length)
 | _ => false
def zbu (many : Int) : List PyData → Int → Bool
 | [], _ => true
 | .int i :: ds, last => decide (last + 1 ≤ i) && decide (i ≤ many - 1) && zbu many ds i
 | _ :: _, _ => false
def zvw (many : Int) : PyData → PyData → Bool
 | .int up, .tuple ks => zbu many ks up
 | _, _ => false
def zup (h : PyData) : PyData → Bool
 | .tuple ks => within h 1 ks.length
 | _ => false
def zvt (l : PyData) : PyData → Bool
 | .int hi => within l 0 hi
 | _ => false
def zde (many : Int) (d : PyData) : Bool := match d with
 | .tuple [u, l, h, k] => within u 0 (many - 1) && (zil k && (zvw many u k && (zup h k && zvt l h)))
 | _ => false
def zny : PyData → PyData
 | .tuple (x :: _) => x
 | _ => .none
def zfj : PyData → Bool
 | .tuple [_, n] => isW n
 | _ => false
def zmo (many : Int) (d : PyData) : Bool := match d with
 | .tuple ds => decide (0 < ds.length) && ds.all zfj && zbu many (ds.map zny) (-1)
 | _ => false
def neI : PyData → PyData → Bool
 | .int i, .int j => !decide (i = j)
 | _, _ => false
def znc (many : Int) (s : Str) (x y : PyData) : Bool := if s = ("most" : Str) then isW x && zmo many y else if s = ("needs" : Str) ∨ s = ("bans" : Str) then within x 0 (many - 1) && (within y 0 (many - 1) && neI x y) else false
def zvd (many : Int) (x y : PyData) : PyData → Bool
 | .str s => znc many s x y
 | _ => false
def zgd (many : Int) (d : PyData) : Bool := match d with
 | .tuple [k, x, y] => zvd many x y k
 | _ => false
def toI : PyData → Int
 | .int i => i
 | _ => 0
def zje : PyData → List Int
 | .tuple [_, _, _, .tuple ks] => ks.map toI
 | _ => []
structure GoodB (many : Int) (bs : List PyData) : Prop where
 each : ∀ b ∈ bs, zde many b = true
 kids : (bs.flatMap zje).Perm ((List.range' 0 (many - 1).toNat).map fun i : Nat => (1 : Int) + i)
theorem zaj {H : Hp} {p : Addr} (h : H p = none) (o : HO) : Same H (upd H p o) := zg7 fun b u q => by rw [zao (zav q h)]; exact q
theorem small {n : Nat} (h : n ≤ 1000) : n ≤ sizeLine := Nat.le_of_lt (zc3 h)
theorem zdw {H : Hp} {i : Int} {v : V} (h : Dn H (.int i) v) : v = .int i := h
theorem zda {H : Hp} {ds : List PyData} {v : V} (h : Dn H (.tuple ds) v) : ∃ a xs, v = .ref a ∧ H a = some (.tup xs) ∧ DnL H ds xs := h
theorem zlz {d : PyData} (h : isW d = true) : ∃ i, d = .int i := by
 cases d <;> first | exact ⟨_, rfl⟩ | cases h
theorem sqT {K : PySem.W.Frag} {H : Hp} {a : Addr} {xs : List V} (h : H a = some (.tup xs)) : SqT K H a xs := .inl (.inl h)
theorem at0 {x : V} {r : List V} : atI (x :: r) 0 = some x := zd0 (j := 0) rfl
theorem at1 {x y : V} {r : List V} : atI (x :: y :: r) 1 = some y := zd0 (j := 1) rfl
theorem at2 {x y z : V} {r : List V} : atI (x :: y :: z :: r) 2 = some z := zd0 (j := 2) rfl
theorem at3 {x y z w : V} {r : List V} : atI (x :: y :: z :: w :: r) 3 = some w := zd0 (j := 3) rfl
theorem zd8 {d : PyData} {lo hi : Int} (h : within d lo hi = true) : ∃ i, d = .int i ∧ lo ≤ i ∧ i ≤ hi := by
 cases d with
 | int i =>
  have z : (decide (lo ≤ i) && decide (i ≤ hi)) = true := h
  simp only [Bool.and_eq_true, decide_eq_true_eq] at z
  exact ⟨i, rfl, z.1, z.2⟩
 | _ => cases h
theorem zm6 {d : PyData} (h : zil d = true) : ∃ ds, d = .tuple ds ∧ 0 < ds.length := by
 cases d with
 | tuple ds => exact ⟨ds, rfl, of_decide_eq_true h⟩
 | _ => cases h
theorem zm2 {H : Hp} : ∀ {ns : List Int} {xs : List V}, DnL H (ns.map PyData.int) xs → xs = ns.map V.int
 | [], xs, h => h
 | n :: r, _, ⟨x, t, rfl, hx, ht⟩ => by rw [zm2 ht, zdw hx]; rfl
theorem zg1 {H : Hp} : ∀ (ns : List Int), DnL H (ns.map PyData.int) (ns.map V.int)
 | [] => rfl
 | n :: r => ⟨_, _, rfl, rfl, zg1 r⟩
end Wd
set_option maxRecDepth 100000
set_option maxHeartbeats 4000000
namespace Ow
open PySem L2 Wd
structure WoodAt (H : Hp) (wd : Addr) (many : Int) (xs ys : List V) : Prop where
 ex : ∃ tb tc, H wd = some (.tup [.int many, .ref tb, .ref tc]) ∧ H tb = some (.tup xs) ∧ H tc = some (.tup ys)
def zug : Sp := fun vs H Q _ => ∃ (wd : Addr) (many : Int) (xs ys : List V), vs = [.ref wd] ∧ WoodAt H wd many xs ys ∧ Q (.int ((xs.length : Int) + (ys.length : Int))) H
def zsd : Sp := fun vs H Q _ => ∃ (wd : Addr) (many : Int) (xs ys : List V) (t : Nat) (v : V), vs = [.ref wd, .int t] ∧ WoodAt H wd many xs ys ∧ (xs ++ ys)[t]? = some v ∧ Q v H
theorem zk7 {α β : Type} {f : α → List β} {ds : List α} {i : Nat} {d : α} (h : ds[i]? = some d) : (ds.take (i + 1)).flatMap f = (ds.take i).flatMap f ++ f d := by
 obtain ⟨hi, e⟩ := List.getElem?_eq_some_iff.mp h
 rw [List.take_succ_eq_append_getElem hi, List.flatMap_append, e]
 simp
def zbs : Nat → PyData → Bool
 | _, .int _ => true
 | _, .str s => PyData.strOk s
 | n + 1, .tuple ds => decide (ds.length ≤ 1000) && ds.all (zbs n)
 | _, _ => false
theorem zrb {many one x : Int} (h1 : 1 < many) (h9 : many ≤ 9) (o0 : 0 ≤ one) (o1 : one < many) (x0 : 0 ≤ x) (x1 : x < many - 1) : 0 ≤ (one + 1 + x) % many ∧ (one + 1 + x) % many < many ∧ one ≠ (one + 1 + x) % many := by
 have e : many = 2 ∨ many = 3 ∨ many = 4 ∨ many = 5 ∨ many = 6 ∨ many = 7 ∨ many = 8 ∨ many = 9 := by omega
 rcases e with rfl | rfl | rfl | rfl | rfl | rfl | rfl | rfl <;> omega
theorem znl : PyData.strOk ("most" : Str) = true := by decide +kernel
theorem zh8 : PyData.strOk ("needs" : Str) = true := by decide +kernel
theorem zn3 : PyData.strOk ("bans" : Str) = true := by decide +kernel
structure zin (H : Hp) (i : Nat) (ps : List PyData) (xs : List V) : Prop where
 dn : DnL H ps xs
 ok : ps.all zfj = true
 flat : ps.all (zbs 1) = true
 ris : zbu (i : Int) (ps.map zny) (-1) = true
 few : ps.length ≤ i
theorem zec {m m' : Int} (h : m ≤ m') : ∀ {ks : List PyData} {u : Int}, zbu m ks u = true → zbu m' ks u = true
 | [], _, _ => rfl
 | .int i :: ks, u, z => by
  have z' : (decide (u + 1 ≤ i) && decide (i ≤ m - 1) && zbu m ks i) = true := z
  show (decide (u + 1 ≤ i) && decide (i ≤ m' - 1) && zbu m' ks i) = true
  simp only [Bool.and_eq_true, decide_eq_true_eq] at z' ⊢
  exact ⟨⟨z'.1.1, by omega⟩, zec h z'.2⟩
 | .none :: _, _, z => by cases z
 | .bool _ :: _, _, z => by cases z
 | .str _ :: _, _, z => by cases z
 | .list _ :: _, _, z => by cases z
 | .tuple _ :: _, _, z => by cases z
 | .dict _ :: _, _, z => by cases z
theorem zfo {m j : Int} (h : j < m) : ∀ {ks : List PyData} {u : Int}, zbu j ks u = true → u < j → zbu m (ks ++ [.int j]) u = true
 | [], u, _, hu => by
  show (decide (u + 1 ≤ j) && decide (j ≤ m - 1) && true) = true
  rw [decide_eq_true (by omega), decide_eq_true (by omega)]
  rfl
 | .int i :: ks, u, z, hu => by
  have z' : (decide (u + 1 ≤ i) && decide (i ≤ j - 1) && zbu j ks i) = true := z
  show (decide (u + 1 ≤ i) && decide (i ≤ m - 1) && zbu m (ks ++ [.int j]) i) = true
  simp only [Bool.and_eq_true, decide_eq_true_eq] at z' ⊢
  exact ⟨⟨z'.1.1, by omega⟩, zfo h z'.2 (by omega)⟩
 | .none :: _, _, z, _ => by cases z
 | .bool _ :: _, _, z, _ => by cases z
 | .str _ :: _, _, z, _ => by cases z
 | .list _ :: _, _, z, _ => by cases z
 | .tuple _ :: _, _, z, _ => by cases z
 | .dict _ :: _, _, z, _ => by cases z
theorem DnL.keepT {H H' : Hp} {f : PyData → Bool} (k : ∀ d v, f d = true → Dn H d v → Dn H' d v) : ∀ (ds : List PyData) (xs : List V), ds.all f = true → DnL H ds xs → DnL H' ds xs
 | [], _, _, q => q
 | d :: ds, _, c, ⟨x, r, e, q, z⟩ => by
  rw [List.all_cons, Bool.and_eq_true] at c
  exact ⟨x, r, e, k d x c.1 q, DnL.keepT k ds r c.2 z⟩
theorem Dn.keepT {H H' : Hp} (h : ∀ b xs, H b = some (.tup xs) → H' b = some (.tup xs)) : ∀ (n : Nat) (d : PyData) (v : V), zbs n d = true → Dn H d v → Dn H' d v
 | _, .int _, _, _, q => q
 | _, .str _, _, _, q => q
 | n + 1, .tuple ds, _, c, ⟨p, xs, e, q, z⟩ => ⟨p, xs, e, h _ _ q, DnL.keepT (Dn.keepT h n) ds xs ((Bool.and_eq_true _ _).mp c).2 z⟩
 | 0, .tuple ds, _, c, _ => by cases c
 | 0, .none, _, c, _ => by cases c
 | n + 1, .none, _, c, _ => by cases c
 | 0, .bool _, _, c, _ => by cases c
 | n + 1, .bool _, _, c, _ => by cases c
 | 0, .list _, _, c, _ => by cases c
 | n + 1, .list _, _, c, _ => by cases c
 | 0, .dict _, _, c, _ => by cases c
 | n + 1, .dict _, _, c, _ => by cases c
theorem zm5 {H : Hp} {p : Addr} {xs ys : List V} (h : H p = some (.lst xs)) : ∀ b zs, H b = some (.tup zs) → upd H p (.lst ys) b = some (.tup zs) := fun b zs q => by
 rw [zao (zmn q h (by intro z; cases z))]
 exact q
structure Grp where
 t : Addr
 up : Int
 l : Addr
 kids : List Int
structure GAt (H0 H : Hp) (g : Addr) (gs : List Grp) : Prop where
 at_ : H g = some (.lst (gs.map fun x => V.ref x.t))
 new : H0 g = none
 tup : ∀ x ∈ gs, H x.t = some (.tup [.int x.up, .ref x.l])
 lst : ∀ x ∈ gs, H x.l = some (.lst (x.kids.map V.int)) ∧ H0 x.l = none ∧ g ≠ x.l
 nd : (gs.map (·.l)).Nodup
structure GOk (k : Int) (gs : List Grp) : Prop where
 each : ∀ x ∈ gs, 0 ≤ x.up ∧ x.kids ≠ [] ∧ zbu k (x.kids.map PyData.int) x.up = true
 perm : (gs.flatMap (·.kids)).Perm ((List.range' 0 (k - 1).toNat).map fun i : Nat => (1 : Int) + i)
theorem GOk.few {k : Int} {gs : List Grp} (G : GOk k gs) : gs.length ≤ (k - 1).toNat := by
 have e := G.perm.length_eq
 rw [List.length_map, List.length_range'] at e
 rw [← e]
 have go : ∀ l : List Grp, (∀ x ∈ l, x.kids ≠ []) → l.length ≤ (l.flatMap (·.kids)).length := by
  intro l
  induction l with
  | nil => intro _; exact Nat.le_refl _
  | cons x r ih =>
   intro h
   rw [List.flatMap_cons, List.length_append, List.length_cons]
   have h1 := List.length_pos_iff.mpr (h x List.mem_cons_self)
   have h2 := ih fun y hy => h y (List.mem_cons_of_mem _ hy)
   omega
 exact go gs fun x hx => (G.each x hx).2.1
theorem zi4 (k : Nat) : ((List.range' 0 k).map fun i : Nat => (1 : Int) + i) ++ [((k : Int) + 1)] = (List.range' 0 (k + 1)).map fun i : Nat => (1 : Int) + i := by
 rw [List.range'_concat, List.map_append]
 simp
 omega
theorem GOk.new {k : Nat} {gs : List Grp} {t l : Addr} {u : Int} (G : GOk ((k : Int) + 1) gs) (u0 : 0 ≤ u) (u1 : u < (k : Int) + 1) : GOk ((k : Int) + 2) (gs ++ [⟨t, u, l, [(k : Int) + 1]⟩]) where
 each := fun x hx => by
  rcases List.mem_append.mp hx with z | z
  ·obtain ⟨a, b, c⟩ := G.each x z
   exact ⟨a, b, zec (by omega) c⟩
  ·rw [List.mem_singleton.mp z]
   refine ⟨u0, by simp, ?_⟩
   show (decide (u + 1 ≤ (k : Int) + 1) && decide ((k : Int) + 1 ≤ (k : Int) + 2 - 1) && true) = true
   rw [decide_eq_true (by omega), decide_eq_true (by omega)]
   rfl
 perm := by
  rw [List.flatMap_append]
  have e : ((k : Int) + 2 - 1).toNat = k + 1 := by omega
  have e' : ((k : Int) + 1 - 1).toNat = k := by omega
  have p := G.perm
  rw [e'] at p
  rw [e, ← zi4]
  exact p.append (by simp)
theorem GOk.put {k : Nat} {pre post : List Grp} {x : Grp} (G : GOk ((k : Int) + 1) (pre ++ x :: post)) : GOk ((k : Int) + 2) (pre ++ ⟨x.t, x.up, x.l, x.kids ++ [(k : Int) + 1]⟩ :: post) where
 each := fun y hy => by
  have old : ∀ z ∈ pre ++ x :: post, 0 ≤ z.up ∧ z.kids ≠ [] ∧ zbu ((k : Int) + 2) (z.kids.map PyData.int) z.up = true := fun z hz => by
   obtain ⟨a, b, c⟩ := G.each z hz
   exact ⟨a, b, zec (by omega) c⟩
  rcases List.mem_append.mp hy with z | z
  ·exact old y (List.mem_append_left _ z)
  ·rcases List.mem_cons.mp z with z | z
   ·subst z
    obtain ⟨a, b, c⟩ := G.each x (by simp)
    refine ⟨a, by simp, ?_⟩
    show zbu ((k : Int) + 2) ((x.kids ++ [(k : Int) + 1]).map PyData.int) x.up = true
    rw [List.map_append]
    refine zfo (by omega) c ?_
    cases hk : x.kids with
    | nil => exact absurd hk b
    | cons n r =>
     rw [hk] at c
     have c' : (decide (x.up + 1 ≤ n) && decide (n ≤ (k : Int) + 1 - 1) && zbu ((k : Int) + 1) (r.map PyData.int) n) = true := c
     simp only [Bool.and_eq_true, decide_eq_true_eq] at c'
     omega
   ·exact old y (by simp [z])
 perm := by
  have e : ((k : Int) + 2 - 1).toNat = k + 1 := by omega
  have e' : ((k : Int) + 1 - 1).toNat = k := by omega
  have p := G.perm
  rw [e'] at p
  rw [e, ← zi4]
  refine List.Perm.trans ?_ (p.append (List.Perm.refl [((k : Int) + 1)]))
  rw [List.flatMap_append, List.flatMap_append, List.flatMap_cons, List.flatMap_cons, List.append_assoc, List.append_assoc, List.append_assoc]
  exact (List.Perm.refl _).append ((List.Perm.refl _).append List.perm_append_comm)
theorem GAt.put {H0 H : Hp} {g : Addr} {pre post : List Grp} {x : Grp} {k : Int} (G : GAt H0 H g (pre ++ x :: post)) : GAt H0 (upd H x.l (.lst (x.kids.map V.int ++ [.int k]))) g (pre ++ ⟨x.t, x.up, x.l, x.kids ++ [k]⟩ :: post) := by
 have hx : x ∈ pre ++ x :: post := by simp
 obtain ⟨a, b, c⟩ := G.lst x hx
 have nd := G.nd
 rw [List.map_append, List.map_cons] at nd
 obtain ⟨_, n2, n3⟩ := List.nodup_append.mp nd
 have oth : ∀ y, y ∈ pre ∨ y ∈ post → y.l ≠ x.l := fun y hy e => by
  rcases hy with hy | hy
  ·exact n3 y.l (List.mem_map.mpr ⟨y, hy, rfl⟩) x.l (by simp) e
  ·exact (List.nodup_cons.mp n2).1 (by rw [← e]; exact List.mem_map.mpr ⟨y, hy, rfl⟩)
 have mem : ∀ y ∈ pre ++ (⟨x.t, x.up, x.l, x.kids ++ [k]⟩ : Grp) :: post, (y ∈ pre ∨ y ∈ post) ∨ y = ⟨x.t, x.up, x.l, x.kids ++ [k]⟩ := fun y hy => by
  rcases List.mem_append.mp hy with z | z
  ·exact .inl (.inl z)
  ·rcases List.mem_cons.mp z with z | z
   ·exact .inr z
   ·exact .inl (.inr z)
 have old : ∀ y, y ∈ pre ∨ y ∈ post → y ∈ pre ++ x :: post := fun y hy => by
  rcases hy with z | z <;> simp [z]
 refine ⟨?_, G.new, fun y hy => ?_, fun y hy => ?_, ?_⟩
 ·rw [zao c, G.at_, List.map_append, List.map_append, List.map_cons, List.map_cons]
 ·rcases mem y hy with z | rfl
  ·rw [zao (zmn (G.tup y (old y z)) a (by intro q; cases q))]
   exact G.tup y (old y z)
  ·show upd H x.l _ x.t = _
   rw [zao (zmn (G.tup x hx) a (by intro q; cases q))]
   exact G.tup x hx
 ·rcases mem y hy with z | rfl
  ·obtain ⟨a', b', c'⟩ := G.lst y (old y z)
   refine ⟨?_, b', c'⟩
   rw [zao (oth y z)]
   exact a'
  ·refine ⟨?_, b, c⟩
   show upd H x.l _ x.l = _
   rw [zae, List.map_append]
   rfl
 ·have e : (pre ++ (⟨x.t, x.up, x.l, x.kids ++ [k]⟩ : Grp) :: post).map (·.l) = (pre ++ x :: post).map (·.l) := by
   rw [List.map_append, List.map_append, List.map_cons, List.map_cons]
  rw [e]
  exact G.nd
theorem GAt.same {H0 H H' : Hp} {g : Addr} {gs : List Grp} (G : GAt H0 H g gs) (s : Same H H') : GAt H0 H' g gs :=
 ⟨s _ _ G.at_, G.new, fun x hx => s _ _ (G.tup x hx), fun x hx => ⟨s _ _ (G.lst x hx).1, (G.lst x hx).2⟩, G.nd⟩
def zgq (u lo hi : Int) (kids : List Int) : PyData := .tuple [.int u, .int lo, .int hi, .tuple (kids.map PyData.int)]
theorem zn8 {m u lo hi : Int} {kids : List Int} (u0 : 0 ≤ u) (ne : kids ≠ []) (r : zbu m (kids.map PyData.int) u = true) (l0 : 0 ≤ lo) (l1 : lo ≤ hi) (h0 : 1 ≤ hi) (h1 : hi ≤ kids.length) : zde m (zgq u lo hi kids) = true := by
 have u1 : u ≤ m - 1 := by
  cases hk : kids with
  | nil => exact absurd hk ne
  | cons n t =>
   rw [hk] at r
   have c' : (decide (u + 1 ≤ n) && decide (n ≤ m - 1) && zbu m (t.map PyData.int) n) = true := r
   simp only [Bool.and_eq_true, decide_eq_true_eq] at c'
   omega
 show (within (.int u) 0 (m - 1) && (zil (.tuple (kids.map PyData.int)) && (zbu m (kids.map PyData.int) u && (within (.int hi) 1 ((kids.map PyData.int).length : Nat) && within (.int lo) 0 hi)))) = true
 have e1 : within (.int u) 0 (m - 1) = true := by
  show (decide (0 ≤ u) && decide (u ≤ m - 1)) = true
  rw [decide_eq_true u0, decide_eq_true u1]
  rfl
 have e2 : zil (.tuple (kids.map PyData.int)) = true := by
  refine decide_eq_true ?_
  rw [List.length_map]
  exact List.length_pos_iff.mpr ne
 have e3 : within (.int hi) 1 ((kids.map PyData.int).length : Nat) = true := by
  show (decide (1 ≤ hi) && decide (hi ≤ ((kids.map PyData.int).length : Nat))) = true
  rw [List.length_map, decide_eq_true h0, decide_eq_true h1]
  rfl
 have e4 : within (.int lo) 0 hi = true := by
  show (decide (0 ≤ lo) && decide (lo ≤ hi)) = true
  rw [decide_eq_true l0, decide_eq_true l1]
  rfl
 rw [e1, e2, r, e3, e4]
 rfl
theorem zoj (kids : List Int) : (kids.map PyData.int).all (zbs 1) = true := by
 rw [List.all_eq_true]
 intro x hx
 obtain ⟨i, _, rfl⟩ := List.mem_map.mp hx
 rfl
theorem zjn (u lo hi : Int) (kids : List Int) (h : kids.length ≤ 1000) : zbs 3 (zgq u lo hi kids) = true := by
 show (true && (true && (true && (true && ((decide ((kids.map PyData.int).length ≤ 1000) && (kids.map PyData.int).all (zbs 1)) && true))))) = true
 rw [zoj, List.length_map, decide_eq_true h]
 rfl
theorem zfb (u lo hi : Int) (kids : List Int) : zje (zgq u lo hi kids) = kids := by
 show (kids.map PyData.int).map toI = kids
 rw [List.map_map]
 have : (toI ∘ PyData.int) = id := rfl
 rw [this, List.map_id]
end Ow
namespace Wd
inductive Tie where
 | bough (u : Nat) (lo hi : Int) (ks : List Nat)
 | needs (a b : Nat)
 | bans (a b : Nat)
 | most (top : Int) (ps : List (Nat × Int))
def cnt (ks : List Nat) (s : Nat) : Nat := (ks.filter fun k => s.testBit k).length
def zfg (ps : List (Nat × Int)) (f : Nat × Int → Bool) : Int := ((ps.filter f).map (·.2)).sum
def Tie.keep : Tie → Nat → Bool
 | .bough u lo hi ks, s => if s.testBit u = true then decide (lo ≤ (cnt ks s : Int)) && decide ((cnt ks s : Int) ≤ hi) else decide (cnt ks s = 0)
 | .needs a b, s => !s.testBit a || s.testBit b
 | .bans a b, s => !s.testBit a || !s.testBit b
 | .most top ps, s => decide (zfg ps (fun p => s.testBit p.1) ≤ top)
structure Tie.BoughOk (m u : Nat) (lo hi : Int) (ks : List Nat) : Prop where
 um : u < m
 ks0 : ks ≠ []
 up : ∀ k ∈ ks, u < k ∧ k < m
 ris : ks.Pairwise (· < ·)
 few : ks.length ≤ m
 lo0 : 0 ≤ lo
 lohi : lo ≤ hi
 hi1 : 1 ≤ hi
 hik : hi ≤ ks.length
theorem Tie.BoughOk.nd {m u : Nat} {lo hi : Int} {ks : List Nat} (h : Tie.BoughOk m u lo hi ks) : ks.Nodup := h.ris.imp fun a => Nat.ne_of_lt a
def Tie.Ok (m : Nat) : Tie → Prop
 | .bough u lo hi ks => Tie.BoughOk m u lo hi ks
 | .needs a b => a < m ∧ b < m ∧ a ≠ b
 | .bans a b => a < m ∧ b < m ∧ a ≠ b
 | .most _ ps => ps ≠ [] ∧ (∀ p ∈ ps, p.1 < m) ∧ (ps.map (·.1)).Pairwise (· < ·) ∧ ps.length ≤ m
def InS (y n s : Nat) : Prop := (∀ k, y.testBit k = true → s.testBit k = true) ∧ ∀ k, n.testBit k = true → s.testBit k = false
def zet (ps : List (Nat × Int)) (y n : Nat) : Int := zfg ps fun p => y.testBit p.1 || (decide (p.2 < 0) && !n.testBit p.1)
def zek (ps : List (Nat × Int)) (y n : Nat) : Int := zfg ps fun p => y.testBit p.1 || (decide (0 < p.2) && !n.testBit p.1)
def Tie.sb : Tie → Nat → Nat → Bool
 | .needs a b, y, n => y.testBit a && n.testBit b
 | .bans a b, y, n => y.testBit a && y.testBit b
 | .most top ps, y, n => decide (top < zet ps y n)
 | .bough u lo hi ks, y, n => !(!n.testBit u && (decide ((cnt ks y : Int) ≤ hi) && decide (lo ≤ (ks.length : Int) - cnt ks n))) && !(!y.testBit u && decide (cnt ks y = 0))
def Tie.sk : Tie → Nat → Nat → Bool
 | .needs a b, y, n => n.testBit a || y.testBit b
 | .bans a b, y, n => n.testBit a || n.testBit b
 | .most top ps, y, n => decide (zek ps y n ≤ top)
 | .bough u lo hi ks, y, n => (n.testBit u || (decide (lo ≤ (cnt ks y : Int)) && decide ((ks.length : Int) - cnt ks n ≤ hi))) && (y.testBit u || decide ((ks.length : Int) - cnt ks n = 0))
theorem zs4 {u : Nat} {lo hi : Int} {ks : List Nat} {s : Nat} (h : s.testBit u = true) : (Tie.bough u lo hi ks).keep s = (decide (lo ≤ (cnt ks s : Int)) && decide ((cnt ks s : Int) ≤ hi)) := by
 simp only [Tie.keep, h, if_true]
theorem zsv {u : Nat} {lo hi : Int} {ks : List Nat} {s : Nat} (h : ¬ s.testBit u = true) : (Tie.bough u lo hi ks).keep s = decide (cnt ks s = 0) := by
 simp only [Tie.keep, if_neg h]
theorem zkj (p : Nat × Int) (r : List (Nat × Int)) (f : Nat × Int → Bool) : zfg (p :: r) f = (if f p = true then p.2 else 0) + zfg r f := by
 unfold zfg
 by_cases h : f p = true
 ·rw [List.filter_cons_of_pos h, if_pos h]; simp
 ·rw [List.filter_cons_of_neg h, if_neg h]; simp
theorem zlt {f g : Nat × Int → Bool} : ∀ {ps : List (Nat × Int)}, (∀ p ∈ ps, (if f p = true then p.2 else 0) ≤ (if g p = true then p.2 else 0)) → zfg ps f ≤ zfg ps g
 | [], _ => Int.le_refl _
 | p :: r, h => by
  rw [zkj, zkj]
  have h1 := h p List.mem_cons_self
  have h2 := zlt (ps := r) fun q hq => h q (List.mem_cons_of_mem _ hq)
  omega
theorem zle {f g : Nat × Int → Bool} {ps : List (Nat × Int)} (h : ∀ p ∈ ps, f p = g p) : zfg ps f = zfg ps g := by
 unfold zfg
 rw [List.filter_congr h]
theorem zdf (k : Nat) (r : List Nat) (s : Nat) : cnt (k :: r) s = (if s.testBit k = true then 1 else 0) + cnt r s := by
 unfold cnt
 by_cases h : s.testBit k = true
 ·rw [List.filter_cons_of_pos (p := fun k => s.testBit k) h, if_pos h, List.length_cons]; omega
 ·rw [List.filter_cons_of_neg (p := fun k => s.testBit k) h, if_neg h]; omega
theorem zf2 {ks : List Nat} {s t : Nat} (h : ∀ k ∈ ks, s.testBit k = t.testBit k) : cnt ks s = cnt ks t := by
 unfold cnt
 rw [List.filter_congr h]
theorem zjc {s t : Nat} : ∀ {ks : List Nat}, (∀ k ∈ ks, s.testBit k = true → t.testBit k = true) → cnt ks s ≤ cnt ks t
 | [], _ => Nat.le_refl _
 | k :: r, h => by
  rw [zdf, zdf]
  have h2 := zjc (ks := r) fun q hq => h q (List.mem_cons_of_mem _ hq)
  have h1 := h k List.mem_cons_self
  by_cases c : s.testBit k = true
  ·rw [if_pos c, if_pos (h1 c)]; omega
  ·rw [if_neg c]; omega
theorem zfs {s n : Nat} : ∀ {ks : List Nat}, (∀ k ∈ ks, n.testBit k = true → s.testBit k = false) → cnt ks s + cnt ks n ≤ ks.length
 | [], _ => Nat.le_refl _
 | k :: r, h => by
  rw [zdf, zdf, List.length_cons]
  have h2 := zfs (ks := r) fun q hq => h q (List.mem_cons_of_mem _ hq)
  have h1 := h k List.mem_cons_self
  by_cases c : n.testBit k = true
  ·rw [h1 c, if_pos c]; simp; omega
  ·rw [if_neg c]; split <;> omega
def zb9 : List Nat → Nat
 | [] => 0
 | k :: r => zb9 r ||| 2 ^ k
theorem zhr (j : Nat) : ∀ l : List Nat, (zb9 l).testBit j = decide (j ∈ l)
 | [] => by simp [zb9]
 | k :: r => by
  rw [zb9, Nat.testBit_or, zhr j r, Nat.testBit_two_pow]
  by_cases h : k = j
  ·subst h; simp
  ·have h' : j ≠ k := fun z => h z.symm
   simp [h, h']
theorem zkq {ps : List (Nat × Int)} (h : (ps.map (·.1)).Nodup) {p q : Nat × Int} (hp : p ∈ ps) (hq : q ∈ ps) (e : p.1 = q.1) : p = q := by
 induction ps with
 | nil => cases hp
 | cons x r ih =>
  rw [List.map_cons, List.nodup_cons] at h
  rcases List.mem_cons.mp hp with e1 | hp
  ·rcases List.mem_cons.mp hq with e2 | hq
   ·rw [e1, e2]
   ·exact absurd (show x.1 ∈ r.map (·.1) from List.mem_map.mpr ⟨q, hq, by rw [← e1, e]⟩) h.1
  ·rcases List.mem_cons.mp hq with e2 | hq
   ·exact absurd (show x.1 ∈ r.map (·.1) from List.mem_map.mpr ⟨p, hp, by rw [← e2, e]⟩) h.1
   ·exact ih h.2 hp hq
theorem zix {m : Nat} {t : Tie} (ok : t.Ok m) {s s' : Nat} (h : ∀ k, k < m → s.testBit k = s'.testBit k) : t.keep s = t.keep s' := by
 cases t with
 | bough u lo hi ks =>
  have e : cnt ks s = cnt ks s' := zf2 fun k hk => h k (ok.up k hk).2
  simp only [Tie.keep]
  rw [e, h u ok.um]
 | needs a b => simp only [Tie.keep]; rw [h a ok.1, h b ok.2.1]
 | bans a b => simp only [Tie.keep]; rw [h a ok.1, h b ok.2.1]
 | most top ps =>
  simp only [Tie.keep]
  rw [zle fun p hp => h p.1 (ok.2.1 p hp)]
theorem zdg {y n : Nat} {l : List Nat} (d : ∀ k, y.testBit k = true → n.testBit k = false) (h : ∀ k ∈ l, n.testBit k = false) : InS y n (y ||| zb9 l) := by
 refine ⟨fun k hk => ?_, fun k hk => ?_⟩
 ·rw [Nat.testBit_or, hk, Bool.true_or]
 ·rw [Nat.testBit_or, zhr]
  have h1 : y.testBit k = false := by
   cases e : y.testBit k with
   | false => rfl
   | true => rw [d k e] at hk; cases hk
  have h2 : ¬ k ∈ l := fun z => by rw [h k z] at hk; cases hk
  rw [h1, decide_eq_false h2]; rfl
theorem zbo (y : Nat) (l : List Nat) (k : Nat) : (y ||| zb9 l).testBit k = (y.testBit k || decide (k ∈ l)) := by
 rw [Nat.testBit_or, zhr]
theorem zf1 {y : Nat} : ∀ {ks : List Nat}, ks.Nodup → ∀ c : Nat, cnt ks y ≤ c → ∀ n : Nat, (∀ k, y.testBit k = true → n.testBit k = false) → c + cnt ks n ≤ ks.length →
  ∃ l : List Nat, (∀ k ∈ l, k ∈ ks ∧ n.testBit k = false) ∧ cnt ks (y ||| zb9 l) = c
 | [], _, c, h1, n, _, h2 => ⟨[], (fun _ z => nomatch z), by simp [cnt] at h2 ⊢; omega⟩
 | k :: r, nd, c, h1, n, d, h2 => by
  obtain ⟨nk, nr⟩ := List.nodup_cons.mp nd
  rw [zdf] at h1 h2
  rw [List.length_cons] at h2
  by_cases hy : y.testBit k = true
  ·rw [if_pos hy] at h1
   have hn := d k hy
   rw [hn] at h2
   obtain ⟨l, hl, e⟩ := zf1 nr (c - 1) (by omega) n d (by simp at h2; omega)
   refine ⟨l, fun j hj => ⟨List.mem_cons_of_mem _ (hl j hj).1, (hl j hj).2⟩, ?_⟩
   rw [zdf, e, zbo, hy, Bool.true_or, if_pos rfl]
   omega
  ·rw [if_neg hy] at h1
   by_cases hn : n.testBit k = true
   ·rw [if_pos hn] at h2
    obtain ⟨l, hl, e⟩ := zf1 nr c (by omega) n d (by omega)
    refine ⟨l, fun j hj => ⟨List.mem_cons_of_mem _ (hl j hj).1, (hl j hj).2⟩, ?_⟩
    have : ¬ k ∈ l := fun z => nk (hl k z).1
    rw [zdf, e, zbo, Bool.eq_false_iff.mpr hy, decide_eq_false this]
    simp
   ·rw [if_neg hn] at h2
    by_cases full : c + cnt r n ≤ r.length
    ·obtain ⟨l, hl, e⟩ := zf1 nr c (by omega) n d full
     refine ⟨l, fun j hj => ⟨List.mem_cons_of_mem _ (hl j hj).1, (hl j hj).2⟩, ?_⟩
     have : ¬ k ∈ l := fun z => nk (hl k z).1
     rw [zdf, e, zbo, Bool.eq_false_iff.mpr hy, decide_eq_false this]
     simp
    ·have hc : cnt r y + cnt r n ≤ r.length := zfs fun j _ hj => by
      cases e : y.testBit j with
      | false => rfl
      | true => rw [d j e] at hj; cases hj
     obtain ⟨l, hl, e⟩ := zf1 nr (c - 1) (by omega) n d (by omega)
     refine ⟨k :: l, fun j hj => ?_, ?_⟩
     ·rcases List.mem_cons.mp hj with rfl | z
      ·exact ⟨List.mem_cons_self, Bool.eq_false_iff.mpr hn⟩
      ·exact ⟨List.mem_cons_of_mem _ (hl j z).1, (hl j z).2⟩
     ·have e2 : cnt r (y ||| zb9 (k :: l)) = cnt r (y ||| zb9 l) := zf2 fun j hj => by
       have : j ≠ k := fun z => nk (z ▸ hj)
       rw [zbo, zbo]
       simp [this]
      rw [zdf, e2, e, zbo, decide_eq_true List.mem_cons_self, Bool.or_true, if_pos rfl]
      omega
theorem zrg {m : Nat} {t : Tie} (ok : t.Ok m) {y n : Nat} (d : ∀ k, y.testBit k = true → n.testBit k = false) : t.sb y n = true ↔ ∀ s, InS y n s → t.keep s = false := by
 have dn : ∀ k, n.testBit k = true → y.testBit k = false := fun k hk => by
  cases e : y.testBit k with
  | false => rfl
  | true => rw [d k e] at hk; cases hk
 cases t with
 | needs a b =>
  constructor
  ·intro h s hs
   have h' : (y.testBit a && n.testBit b) = true := h
   rw [Bool.and_eq_true] at h'
   show (!s.testBit a || s.testBit b) = false
   rw [hs.1 a h'.1, hs.2 b h'.2]; rfl
  ·intro h
   show (y.testBit a && n.testBit b) = true
   cases e1 : y.testBit a with
   | false =>
    have hh := h y ⟨fun _ z => z, dn⟩
    have h2 : (!y.testBit a || y.testBit b) = false := hh
    rw [e1] at h2; cases h2
   | true =>
    cases e2 : n.testBit b with
    | true => rfl
    | false =>
     have h2 : (!(y ||| zb9 [b]).testBit a || (y ||| zb9 [b]).testBit b) = false := h _ (zdg d fun k hk => by rw [List.mem_singleton.mp hk]; exact e2)
     rw [zbo y [b] b, decide_eq_true (List.mem_singleton.mpr rfl), Bool.or_true, Bool.or_true] at h2
     cases h2
 | bans a b =>
  constructor
  ·intro h s hs
   have h' : (y.testBit a && y.testBit b) = true := h
   rw [Bool.and_eq_true] at h'
   show (!s.testBit a || !s.testBit b) = false
   rw [hs.1 a h'.1, hs.1 b h'.2]; rfl
  ·intro h
   have h2 : (!y.testBit a || !y.testBit b) = false := h y ⟨fun _ z => z, dn⟩
   show (y.testBit a && y.testBit b) = true
   cases e1 : y.testBit a <;> cases e2 : y.testBit b <;> rw [e1, e2] at h2 <;> simp_all
 | most top ps =>
  constructor
  ·intro h s hs
   have h' : top < zet ps y n := of_decide_eq_true h
   refine decide_eq_false fun z => ?_
   have le : zet ps y n ≤ zfg ps (fun p => s.testBit p.1) := zlt fun p _ => by
    cases e1 : y.testBit p.1 with
    | true => rw [hs.1 _ e1]; simp
    | false =>
     cases e2 : n.testBit p.1 with
     | true => rw [hs.2 _ e2]; simp
     | false =>
      by_cases c : p.2 < 0
      ·simp [c]; split <;> omega
      ·simp [c]; split <;> omega
   omega
  ·intro h
   refine decide_eq_true ?_
   let l := (ps.filter fun p => decide (p.2 < 0) && !n.testBit p.1).map (·.1)
   have hl : ∀ k ∈ l, n.testBit k = false := fun k hk => by
    obtain ⟨p, hp, rfl⟩ := List.mem_map.mp hk
    have := (List.mem_filter.mp hp).2
    simp at this
    exact this.2
   have h2 : decide (zfg ps (fun p => (y ||| zb9 l).testBit p.1) ≤ top) = false := h _ (zdg d hl)
   have e : zfg ps (fun p => (y ||| zb9 l).testBit p.1) = zet ps y n := zle fun p hp => by
    show (y ||| zb9 l).testBit p.1 = (y.testBit p.1 || (decide (p.2 < 0) && !n.testBit p.1))
    rw [zbo]
    congr 1
    by_cases c : (decide (p.2 < 0) && !n.testBit p.1) = true
    ·rw [c]
     exact decide_eq_true (List.mem_map.mpr ⟨p, List.mem_filter.mpr ⟨hp, c⟩, rfl⟩)
    ·rw [Bool.eq_false_iff.mpr c]
     refine decide_eq_false fun z => ?_
     obtain ⟨q, hq, e⟩ := List.mem_map.mp z
     have hq' := List.mem_filter.mp hq
     have : q = p := zkq (ok.2.2.1.imp fun a => Nat.ne_of_lt a) hq'.1 hp e
     rw [this] at hq'
     exact c hq'.2
   rw [e] at h2
   have := of_decide_eq_false h2
   omega
 | bough u lo hi ks =>
  have c2 : cnt ks y + cnt ks n ≤ ks.length := zfs fun j _ hj => dn j hj
  have uk : ¬ u ∈ ks := fun z => Nat.lt_irrefl _ (ok.up u z).1
  constructor
  ·intro h s hs
   have h' : (!(!n.testBit u && (decide ((cnt ks y : Int) ≤ hi) && decide (lo ≤ (ks.length : Int) - cnt ks n))) && !(!y.testBit u && decide (cnt ks y = 0))) = true := h
   have g1 : cnt ks y ≤ cnt ks s := zjc fun k _ hk => hs.1 k hk
   have g2 : cnt ks s + cnt ks n ≤ ks.length := zfs fun k _ hk => hs.2 k hk
   show (if s.testBit u = true then decide (lo ≤ (cnt ks s : Int)) && decide ((cnt ks s : Int) ≤ hi) else decide (cnt ks s = 0)) = false
   rw [Bool.and_eq_true] at h'
   by_cases su : s.testBit u = true
   ·rw [if_pos su]
    have nu : n.testBit u = false := by
     cases e : n.testBit u with
     | false => rfl
     | true => rw [hs.2 u e] at su; cases su
    have h1 := h'.1
    rw [nu] at h1
    simp at h1
    by_cases z : (cnt ks y : Int) ≤ hi
    ·rw [decide_eq_false (show ¬ lo ≤ (cnt ks s : Int) by omega), Bool.false_and]
    ·rw [decide_eq_false (show ¬ (cnt ks s : Int) ≤ hi by omega), Bool.and_false]
   ·rw [if_neg su]
    have yu : y.testBit u = false := by
     cases e : y.testBit u with
     | false => rfl
     | true => exact absurd (hs.1 u e) su
    have h2 := h'.2
    rw [yu] at h2
    simp at h2
    exact decide_eq_false (by omega)
  ·intro h
   show (!(!n.testBit u && (decide ((cnt ks y : Int) ≤ hi) && decide (lo ≤ (ks.length : Int) - cnt ks n))) && !(!y.testBit u && decide (cnt ks y = 0))) = true
   rw [Bool.and_eq_true]
   constructor
   ·cases e : (!n.testBit u && (decide ((cnt ks y : Int) ≤ hi) && decide (lo ≤ (ks.length : Int) - cnt ks n))) with
    | false => rfl
    | true =>
     exfalso
     simp only [Bool.and_eq_true, decide_eq_true_eq, Bool.not_eq_true'] at e
     obtain ⟨nu, e1, e2⟩ := e
     have hl0 := ok.lo0
     have hlh := ok.lohi
     obtain ⟨l, hl, ec⟩ := zf1 (Tie.BoughOk.nd ok) (max (cnt ks y) lo.toNat) (Nat.le_max_left _ _) n d (by omega)
     have hk := h (y ||| zb9 (u :: l)) (zdg d fun k hk => by
      rcases List.mem_cons.mp hk with rfl | z
      ·exact nu
      ·exact (hl k z).2)
     have hb : (y ||| zb9 (u :: l)).testBit u = true := by rw [zbo, decide_eq_true List.mem_cons_self, Bool.or_true]
     have ec2 : cnt ks (y ||| zb9 (u :: l)) = max (cnt ks y) lo.toNat := by
      rw [← ec]
      refine zf2 fun j hj => ?_
      have : j ≠ u := fun z => uk (z ▸ hj)
      rw [zbo, zbo]
      simp [this]
     simp only [Tie.keep, hb, if_true, ec2] at hk
     rw [decide_eq_true (by omega), decide_eq_true (by omega)] at hk
     cases hk
   ·cases e : (!y.testBit u && decide (cnt ks y = 0)) with
    | false => rfl
    | true =>
     exfalso
     simp only [Bool.and_eq_true, decide_eq_true_eq, Bool.not_eq_true'] at e
     have hk := h y ⟨fun _ z => z, dn⟩
     simp [Tie.keep, e.1, e.2] at hk
theorem zt6 {m : Nat} {t : Tie} (ok : t.Ok m) {y n : Nat} (d : ∀ k, y.testBit k = true → n.testBit k = false) : t.sk y n = true ↔ ∀ s, InS y n s → t.keep s = true := by
 have dn : ∀ k, n.testBit k = true → y.testBit k = false := fun k hk => by
  cases e : y.testBit k with
  | false => rfl
  | true => rw [d k e] at hk; cases hk
 have selfS : InS y n y := ⟨fun _ z => z, dn⟩
 cases t with
 | needs a b =>
  constructor
  ·intro h s hs
   have h' : (n.testBit a || y.testBit b) = true := h
   show (!s.testBit a || s.testBit b) = true
   rcases Bool.or_eq_true _ _ ▸ h' with z | z
   ·rw [hs.2 a z]; rfl
   ·rw [hs.1 b z, Bool.or_true]
  ·intro h
   show (n.testBit a || y.testBit b) = true
   cases e1 : n.testBit a with
   | true => rfl
   | false =>
    have h2 : (!(y ||| zb9 [a]).testBit a || (y ||| zb9 [a]).testBit b) = true := h _ (zdg d fun k hk => by rw [List.mem_singleton.mp hk]; exact e1)
    have hab : b ≠ a := fun z => ok.2.2 z.symm
    rw [zbo, zbo, decide_eq_true (List.mem_singleton.mpr rfl), decide_eq_false (by simp [hab]), Bool.or_true, Bool.or_false] at h2
    simpa using h2
 | bans a b =>
  constructor
  ·intro h s hs
   have h' : (n.testBit a || n.testBit b) = true := h
   show (!s.testBit a || !s.testBit b) = true
   rcases Bool.or_eq_true _ _ ▸ h' with z | z
   ·rw [hs.2 a z]; rfl
   ·rw [hs.2 b z]; simp
  ·intro h
   show (n.testBit a || n.testBit b) = true
   cases e1 : n.testBit a with
   | true => rfl
   | false =>
    cases e2 : n.testBit b with
    | true => rfl
    | false =>
     have h2 : (!(y ||| zb9 [a, b]).testBit a || !(y ||| zb9 [a, b]).testBit b) = true := h _ (zdg d fun k hk => by
      rcases List.mem_cons.mp hk with rfl | hk
      ·exact e1
      ·rw [List.mem_singleton.mp hk]; exact e2)
     rw [zbo, zbo] at h2
     simp at h2
 | most top ps =>
  constructor
  ·intro h s hs
   have h' : zek ps y n ≤ top := of_decide_eq_true h
   refine decide_eq_true ?_
   have le : zfg ps (fun p => s.testBit p.1) ≤ zek ps y n := zlt fun p _ => by
    cases e1 : y.testBit p.1 with
    | true => rw [hs.1 _ e1]; simp
    | false =>
     cases e2 : n.testBit p.1 with
     | true => rw [hs.2 _ e2]; simp
     | false =>
      by_cases c : 0 < p.2
      ·simp [c]; split <;> omega
      ·simp [c]; split <;> omega
   omega
  ·intro h
   refine decide_eq_true ?_
   let l := (ps.filter fun p => decide (0 < p.2) && !n.testBit p.1).map (·.1)
   have hl : ∀ k ∈ l, n.testBit k = false := fun k hk => by
    obtain ⟨p, hp, rfl⟩ := List.mem_map.mp hk
    have := (List.mem_filter.mp hp).2
    simp at this
    exact this.2
   have h2 : decide (zfg ps (fun p => (y ||| zb9 l).testBit p.1) ≤ top) = true := h _ (zdg d hl)
   have e : zfg ps (fun p => (y ||| zb9 l).testBit p.1) = zek ps y n := zle fun p hp => by
    show (y ||| zb9 l).testBit p.1 = (y.testBit p.1 || (decide (0 < p.2) && !n.testBit p.1))
    rw [zbo]
    congr 1
    by_cases c : (decide (0 < p.2) && !n.testBit p.1) = true
    ·rw [c]
     exact decide_eq_true (List.mem_map.mpr ⟨p, List.mem_filter.mpr ⟨hp, c⟩, rfl⟩)
    ·rw [Bool.eq_false_iff.mpr c]
     refine decide_eq_false fun z => ?_
     obtain ⟨q, hq, e⟩ := List.mem_map.mp z
     have hq' := List.mem_filter.mp hq
     have : q = p := zkq (ok.2.2.1.imp fun a => Nat.ne_of_lt a) hq'.1 hp e
     rw [this] at hq'
     exact c hq'.2
   rw [e] at h2
   exact of_decide_eq_true h2
 | bough u lo hi ks =>
  have c2 : cnt ks y + cnt ks n ≤ ks.length := zfs fun j _ hj => dn j hj
  have uk : ¬ u ∈ ks := fun z => Nat.lt_irrefl _ (ok.up u z).1
  have keepUp : ∀ s, s.testBit u = true → Tie.keep (.bough u lo hi ks) s = (decide (lo ≤ (cnt ks s : Int)) && decide ((cnt ks s : Int) ≤ hi)) := fun s hs => by
   simp only [Tie.keep, hs, if_true]
  have keepNo : ∀ s, s.testBit u = false → Tie.keep (.bough u lo hi ks) s = decide (cnt ks s = 0) := fun s hs => by
   simp [Tie.keep, hs]
  constructor
  ·intro h s hs
   have h' : ((n.testBit u || (decide (lo ≤ (cnt ks y : Int)) && decide ((ks.length : Int) - cnt ks n ≤ hi))) && (y.testBit u || decide ((ks.length : Int) - cnt ks n = 0))) = true := h
   have g1 : cnt ks y ≤ cnt ks s := zjc fun k _ hk => hs.1 k hk
   have g2 : cnt ks s + cnt ks n ≤ ks.length := zfs fun k _ hk => hs.2 k hk
   rw [Bool.and_eq_true] at h'
   cases su : s.testBit u with
   | true =>
    rw [keepUp s su]
    have nu : n.testBit u = false := by
     cases e : n.testBit u with
     | false => rfl
     | true => rw [hs.2 u e] at su; cases su
    have h1 := h'.1
    rw [nu, Bool.false_or, Bool.and_eq_true, decide_eq_true_eq, decide_eq_true_eq] at h1
    rw [decide_eq_true (show lo ≤ (cnt ks s : Int) by omega), decide_eq_true (by omega)]; rfl
   | false =>
    rw [keepNo s su]
    have yu : y.testBit u = false := by
     cases e : y.testBit u with
     | false => rfl
     | true => rw [hs.1 u e] at su; cases su
    have h2 := h'.2
    rw [yu, Bool.false_or, decide_eq_true_eq] at h2
    exact decide_eq_true (by omega)
  ·intro h
   show ((n.testBit u || (decide (lo ≤ (cnt ks y : Int)) && decide ((ks.length : Int) - cnt ks n ≤ hi))) && (y.testBit u || decide ((ks.length : Int) - cnt ks n = 0))) = true
   obtain ⟨l, hl, ec⟩ := zf1 (Tie.BoughOk.nd ok) (ks.length - cnt ks n) (by omega) n d (by omega)
   have lu : ¬ u ∈ l := fun z => uk (hl u z).1
   have same : ∀ l' : List Nat, cnt ks (y ||| zb9 (u :: l')) = cnt ks (y ||| zb9 l') := fun l' => zf2 fun j hj => by
    have : j ≠ u := fun z => uk (z ▸ hj)
    rw [zbo, zbo]
    simp [this]
   have one : ∀ l' : List Nat, (y ||| zb9 (u :: l')).testBit u = true := fun l' => by rw [zbo, decide_eq_true List.mem_cons_self, Bool.or_true]
   rw [Bool.and_eq_true]
   constructor
   ·cases nu : n.testBit u with
    | true => rfl
    | false =>
     rw [Bool.false_or, Bool.and_eq_true, decide_eq_true_eq, decide_eq_true_eq]
     have k1 := h (y ||| zb9 (u :: [])) (zdg d fun k hk => by rw [List.mem_singleton.mp hk]; exact nu)
     have k2 := h (y ||| zb9 (u :: l)) (zdg d fun k hk => by
      rcases List.mem_cons.mp hk with rfl | z
      ·exact nu
      ·exact (hl k z).2)
     rw [keepUp _ (one _), same] at k1 k2
     have z0 : (y ||| zb9 []) = y := by simp [zb9]
     rw [z0] at k1
     rw [ec] at k2
     simp only [Bool.and_eq_true, decide_eq_true_eq] at k1 k2
     omega
   ·cases yu : y.testBit u with
    | true => rfl
    | false =>
     rw [Bool.false_or, decide_eq_true_eq]
     have k1 := h (y ||| zb9 l) (zdg d fun k hk => (hl k hk).2)
     rw [keepNo _ (by rw [zbo, yu, decide_eq_false lu]; rfl), ec, decide_eq_true_eq] at k1
     omega
end Wd
set_option maxRecDepth 100000
set_option maxHeartbeats 4000000
namespace Wd
open PySem L2
def zmg (p : Nat × Int) : PyData := .tuple [.int (p.1 : Int), .int p.2]
def Tie.toD : Tie → PyData
 | .bough u lo hi ks => .tuple [.int (u : Int), .int lo, .int hi, .tuple (ks.map fun k : Nat => PyData.int (k : Int))]
 | .needs a b => .tuple [.str ("needs" : Str), .int (a : Int), .int (b : Int)]
 | .bans a b => .tuple [.str ("bans" : Str), .int (a : Int), .int (b : Int)]
 | .most top ps => .tuple [.str ("most" : Str), .int top, .tuple (ps.map zmg)]
theorem zfp {m : Nat} : ∀ {ks : List PyData} {last : Int}, -1 ≤ last → last < m → zbu m ks last = true →
  ∃ ns : List Nat, ks = ns.map (fun k : Nat => PyData.int (k : Int)) ∧ ns.Pairwise (· < ·) ∧ (∀ k ∈ ns, last < (k : Int) ∧ k < m) ∧ (ns.length : Int) + last + 1 ≤ m
 | [], last, h0, h1, _ => ⟨[], rfl, List.Pairwise.nil, (fun _ z => nomatch z), by simp; omega⟩
 | .int i :: ks, last, h0, h1, h => by
  have z : (decide (last + 1 ≤ i) && decide (i ≤ (m : Int) - 1) && zbu m ks i) = true := h
  simp only [Bool.and_eq_true, decide_eq_true_eq] at z
  obtain ⟨ns, e, pw, ab, ln⟩ := zfp (by omega) (by omega) z.2
  obtain ⟨j, rfl⟩ : ∃ j : Nat, i = (j : Int) := ⟨i.toNat, by omega⟩
  refine ⟨j :: ns, by rw [e]; rfl, List.Pairwise.cons (fun k hk => ?_) pw, fun k hk => ?_, ?_⟩
  ·have := (ab k hk).1; omega
  ·rcases List.mem_cons.mp hk with rfl | hk
   ·omega
   ·have := ab k hk; omega
  ·rw [List.length_cons]; omega
 | .none :: _, _, _, _, h => by cases h
 | .bool _ :: _, _, _, _, h => by cases h
 | .str _ :: _, _, _, _, h => by cases h
 | .list _ :: _, _, _, _, h => by cases h
 | .tuple _ :: _, _, _, _, h => by cases h
 | .dict _ :: _, _, _, _, h => by cases h
theorem zgz {m : Nat} {d : PyData} (h : zde m d = true) : ∃ u lo hi ks, d = (Tie.bough u lo hi ks).toD ∧ Tie.BoughOk m u lo hi ks := by
 unfold zde at h
 split at h
 next u l hd k =>
  simp only [Bool.and_eq_true] at h
  obtain ⟨hu, hk, hr, hh, hl⟩ := h
  obtain ⟨ui, rfl, u0, u1⟩ := zd8 hu
  obtain ⟨kd, rfl, k0⟩ := zm6 hk
  obtain ⟨hi, rfl, h0, h1⟩ := zd8 (show within hd 1 kd.length = true from hh)
  obtain ⟨lo, rfl, l0, l1⟩ := zd8 (show within l 0 hi = true from hl)
  obtain ⟨un, rfl⟩ : ∃ j : Nat, ui = (j : Int) := ⟨ui.toNat, by omega⟩
  obtain ⟨ns, rfl, pw, ab, ln⟩ := zfp (by omega) (by omega) (show zbu m kd un = true from hr)
  rw [List.length_map] at k0 h1
  exact ⟨un, lo, hi, ns, rfl, ⟨by omega, fun z => by rw [z] at k0; simp at k0, fun k hk => by have := ab k hk; omega, pw, by omega, l0, l1, h0, h1⟩⟩
 next => cases h
theorem ziv {m : Nat} : ∀ {ds : List PyData} {ns : List Nat}, ds.all zfj = true → ds.map zny = ns.map (fun k : Nat => PyData.int (k : Int)) → ∃ ps : List (Nat × Int), ds = ps.map zmg ∧ ps.map (·.1) = ns
 | [], [], _, _ => ⟨[], rfl, rfl⟩
 | [], _ :: _, _, e => by cases e
 | _ :: _, [], _, e => by cases e
 | d :: ds, n :: ns, h, e => by
  rw [List.all_cons, Bool.and_eq_true] at h
  rw [List.map_cons, List.map_cons] at e
  injection e with e1 e2
  obtain ⟨ps, rfl, rfl⟩ := ziv (m := m) h.2 e2
  have h1 := h.1
  unfold zfj at h1
  split at h1
  next x y =>
   obtain ⟨i, rfl⟩ := zlz h1
   refine ⟨(n, i) :: ps, ?_, rfl⟩
   have e3 : x = PyData.int (n : Int) := e1
   rw [e3]
   rfl
  next => cases h1
theorem zlv {m : Nat} {d : PyData} (h : zgd m d = true) : ∃ t : Tie, d = t.toD ∧ t.Ok m ∧ ∀ u lo hi ks, t ≠ .bough u lo hi ks := by
 unfold zgd at h
 split at h
 next k x y =>
  unfold zvd at h
  split at h
  next s =>
   unfold znc at h
   split at h
   next hs =>
    rw [Bool.and_eq_true] at h
    obtain ⟨top, rfl⟩ := zlz h.1
    have h2 := h.2
    unfold zmo at h2
    split at h2
    next ds =>
     simp only [Bool.and_eq_true, decide_eq_true_eq] at h2
     obtain ⟨⟨d0, dp⟩, dr⟩ := h2
     obtain ⟨ns, e, pw, ab, ln⟩ := zfp (by omega) (by omega) dr
     obtain ⟨ps, rfl, rfl⟩ := ziv (m := m) dp e
     rw [List.length_map] at d0 ln
     refine ⟨.most top ps, by rw [hs]; rfl, ⟨fun z => by rw [z] at d0; simp at d0, fun p hp => (ab p.1 (List.mem_map.mpr ⟨p, hp, rfl⟩)).2, pw, by omega⟩, by intro _ _ _ _ z; cases z⟩
    next => cases h2
   next hs =>
    split at h
    next hn =>
     simp only [Bool.and_eq_true] at h
     obtain ⟨ha, hb, hne⟩ := h
     obtain ⟨a, rfl, a0, a1⟩ := zd8 ha
     obtain ⟨b, rfl, b0, b1⟩ := zd8 hb
     have ne : ¬ a = b := by
      have z : (!decide (a = b)) = true := hne
      simpa using z
     obtain ⟨an, rfl⟩ : ∃ j : Nat, a = (j : Int) := ⟨a.toNat, by omega⟩
     obtain ⟨bn, rfl⟩ : ∃ j : Nat, b = (j : Int) := ⟨b.toNat, by omega⟩
     rcases hn with rfl | rfl
     ·exact ⟨.needs an bn, rfl, ⟨by omega, by omega, by omega⟩, by intro _ _ _ _ z; cases z⟩
     ·exact ⟨.bans an bn, rfl, ⟨by omega, by omega, by omega⟩, by intro _ _ _ _ z; cases z⟩
    next => cases h
  next => cases h
 next => cases h
theorem zuv (ks : List Nat) : (ks.map fun k : Nat => PyData.int (k : Int)) = (ks.map fun k : Nat => (k : Int)).map PyData.int := by rw [List.map_map]; rfl
theorem zj9 (ks : List Nat) : (ks.map fun k : Nat => (k : Int)).map V.int = ks.map fun k : Nat => V.int (k : Int) := by rw [List.map_map]; rfl
theorem zd4 {H : Hp} {u : Nat} {lo hi : Int} {ks : List Nat} {v : V} (h : Dn H (Tie.bough u lo hi ks).toD v) : ∃ p pk, v = .ref p ∧ H p = some (.tup [.int (u : Int), .int lo, .int hi, .ref pk]) ∧ H pk = some (.tup (ks.map fun k : Nat => V.int (k : Int))) := by
 obtain ⟨p, xs, rfl, hp, xu, r1, rfl, hu, xl, r2, rfl, hlo, xh, r3, rfl, hh, xk, r4, rfl, hk, hnil⟩ := zda h
 cases (show r4 = [] from hnil)
 cases zdw hu
 cases zdw hlo
 cases zdw hh
 obtain ⟨pk, ys, rfl, hpk, hks⟩ := zda hk
 rw [zuv] at hks
 rw [zm2 hks, zj9] at hpk
 exact ⟨p, pk, rfl, hp, hpk⟩
theorem zfy {H : Hp} {w : Str} {a b : Int} {v : V} (h : Dn H (.tuple [.str w, .int a, .int b]) v) : ∃ p, v = .ref p ∧ H p = some (.tup [.str w, .int a, .int b]) := by
 obtain ⟨p, xs, rfl, hp, xu, r1, rfl, hu, xl, r2, rfl, hlo, xh, r3, rfl, hh, hnil⟩ := zda h
 cases (show r3 = [] from hnil)
 cases (show xu = .str w from hu)
 cases zdw hlo
 cases zdw hh
 exact ⟨p, rfl, hp⟩
theorem zll {H : Hp} {top : Int} {ps : List (Nat × Int)} {v : V} (h : Dn H (Tie.most top ps).toD v) : ∃ p q xs, v = .ref p ∧ H p = some (.tup [.str ("most" : Str), .int top, .ref q]) ∧ H q = some (.tup xs) ∧ DnL H (ps.map zmg) xs := by
 obtain ⟨p, xs, rfl, hp, xu, r1, rfl, hu, xl, r2, rfl, hlo, xh, r3, rfl, hh, hnil⟩ := zda h
 cases (show r3 = [] from hnil)
 cases (show xu = .str ("most" : Str) from hu)
 cases zdw hlo
 obtain ⟨q, ys, rfl, hq, hks⟩ := zda hh
 exact ⟨p, q, ys, rfl, hp, hq, hks⟩
theorem zl3 {H : Hp} {ps : List (Nat × Int)} {xs : List V} (h : DnL H (ps.map zmg) xs) {i : Nat} {x : V} (hx : xs[i]? = some x) : ∃ p r, ps[i]? = some p ∧ x = .ref r ∧ H r = some (.tup [.int (p.1 : Int), .int p.2]) := by
 obtain ⟨d, hd, hx'⟩ := h.get hx
 rw [List.getElem?_map] at hd
 obtain ⟨p, hp, rfl⟩ := Option.map_eq_some_iff.mp hd
 obtain ⟨r, ys, rfl, hr, xa, r1, rfl, ha, xb, r2, rfl, hb, hnil⟩ := zda (show Dn H (.tuple [.int (p.1 : Int), .int p.2]) x from hx')
 cases (show r2 = [] from hnil)
 cases zdw ha
 cases zdw hb
 exact ⟨p, r, hp, rfl, hr⟩
def zlw (n k : Int) : Bool := decide (0 ≤ k) && decide (n / 2 ^ k.toNat % 2 = 1)
theorem za6 (s u : Nat) : zlw (s : Int) (u : Int) = s.testBit u := by
 unfold zlw
 rw [decide_eq_true (by omega), Bool.true_and, Nat.testBit_eq_decide_div_mod_eq, Int.toNat_natCast]
 have e : ((s : Int) / 2 ^ u % 2 = 1) ↔ (s / 2 ^ u % 2 = 1) := by
  have e3 : (2 : Int) ^ u = ((2 ^ u : Nat) : Int) := by rw [Int.natCast_pow]; rfl
  rw [e3]
  omega
 by_cases z : s / 2 ^ u % 2 = 1
 ·rw [decide_eq_true z, decide_eq_true (e.mpr z)]
 ·rw [decide_eq_false z, decide_eq_false (fun y => z (e.mp y))]
theorem zu7 (n : Int) (k : Nat) : Builtin.bitAnd (n / 2 ^ k) 1 = n / 2 ^ k % 2 := PySem.W.kbt_mask (n / 2 ^ k) 1
theorem zsj (s k : Nat) : Builtin.bitAnd ((s : Int) / 2 ^ ((k : Nat) : Int).toNat) 1 = if s.testBit k = true then 1 else 0 := by
 rw [zu7, Int.toNat_natCast, Nat.testBit_eq_decide_div_mod_eq]
 have e3 : (2 : Int) ^ k = ((2 ^ k : Nat) : Int) := by rw [Int.natCast_pow]; rfl
 rw [e3]
 by_cases z : s / 2 ^ k % 2 = 1
 ·rw [decide_eq_true z, if_pos rfl]
  omega
 ·rw [decide_eq_false z, if_neg (by decide)]
  omega
theorem zrz (s k : Nat) : decide (V.int (Builtin.bitAnd ((s : Int) / 2 ^ ((k : Nat) : Int).toNat) 1) = V.int 1) = s.testBit k := by
 rw [zsj]
 cases s.testBit k <;> rfl
end Wd
set_option maxRecDepth 100000
set_option maxHeartbeats 4000000
namespace L2
open PySem PySem.Spec PyProof.Rows
theorem zwd {X : Cx} {st : List Stmt} {t : TS} (h : PSs X st t) : ∃ t', PSs X st t' ∧ ∀ D σ H, t D σ H → t' D σ H := ⟨t, h, fun _ _ _ x => x⟩
section
variable {X : Cx} {o e : Expr} {es : List Expr} {to : TE} {t : TA} {name : Str} {apos cpos : Pos} {T id : String} {r : V → List V → Hp → VK → Prop}
theorem zhp {K : PySem.W.Frag} (pa : PlainAttrs T) (slot : Slot T name id) (hty : typeOf (.builtin id) = pure (.type "method_descriptor")) (hm : MtR X id r) (ho : PE X o to) (ha : PA X (e :: es) t) (hK : X.K = K := by rfl)
  (hbase : attributeBase o name X.env (eval o X.env) = eval o X.env := by rfl)
  (hfew : ((backTo cpos (starEach (e :: es) X.env)).all (fun x => !x.1) && (backToKw cpos (keywordEach [] X.env)).all (fun x => x.1.isSome) && decide ((e :: es).length + ([] : List Keyword).length + (if ([] : List Keyword).isEmpty then 0 else 1) < 30)) = true := by rfl)
  (hline : (apos.endLine == cpos.line) = true := by rfl) (hs : starEach (e :: es) X.env = (false, eval e X.env) :: starEach es X.env := by rfl) (hplain : (backTo cpos (starEach es X.env)).any (·.1) = false := by rfl) :
  PE X (.Call (.Attribute o name apos) (e :: es) [] cpos) (tBM K T r to t) := hK ▸ zuo pa slot hty hm ho ha hbase hfew hline hs hplain
end
end L2
set_option maxRecDepth 100000
set_option maxHeartbeats 4000000
namespace L2
open PySem PySem.Spec PyProof.Rows
section
variable {X : Cx}
theorem pgT {K : PySem.W.Frag} {pos : Pos} {es : List Expr} {k : Nat} {t : TGs} {n : Nat} (hc : X.calm = true) (h : PGs X es t) (hn : (assignEach es X.env).length = n := by rfl) (hst : (assignEach es X.env).findIdx? (·.1) = none := by rfl) (hK : X.K = K := by rfl) : PG X (.Tuple es k pos) (zu1 K n t) := hK ▸ zt3 hc h hn hst
theorem zpr : zeq X (.type "range") (fun xs H Q => ∃ j : Int, xs = [.int j] ∧ ∀ p, H p = none → Q (.ref p) (upd H p (.rng 0 j))) := by
 intro pins s σ H xs us Q I r h
 obtain ⟨j, rfl, q⟩ := h
 obtain ⟨u, rfl, ⟨t, rfl⟩⟩ := zga r
 refine call_range_1 ⟨.ref s.heap.objs.size, _, I.laid (fun b o e => Heap.get?_push_of_some _ e) (Nat.le_refl _) (show ObjOk X.prog X.w _ _ _ (.rng 0 j) from ⟨_, _, _, Heap.get?_push_size _ rfl⟩), rfl, q _ (I.hok.fresh (Nat.le_refl _))⟩
end
end L2
namespace Wd
open PySem L2
def zte : Sp := fun vs H Q _ => ∃ (t : Tie) (m n : Nat) (v : V), vs = [v, .int n] ∧ Dn H t.toD v ∧ t.Ok m ∧ m ≤ 1000 ∧ ∀ H', Same H H' → Q (.bl (t.keep n)) H'
def zo1 (K : PySem.W.Frag) : Sp := fun vs H Q _ => ∃ (p : Addr) (ns : List Int), vs = [.ref p] ∧ SqL K H p (ns.map V.int) ∧ ns.length ≤ 63 ∧ ∀ H', Q (.bl true) H'
theorem zjk (k : Nat) : decide (V.int (k : Int) = V.int 0) = decide (k = 0) := by
 rw [zfw]
 by_cases z : k = 0
 ·rw [z]; rfl
 ·rw [decide_eq_false z]
  simpa using z
theorem zqa (g : Int) : decide (V.int g = V.int 0) = decide (g = 0) := by
 rw [zfw]
 by_cases z : g = 0
 ·rw [z]; rfl
 ·rw [decide_eq_false z]
  simpa using z
def zq3 (f : Tie → Nat → Nat → Bool) : Sp := fun vs H Q _ => ∃ (t : Tie) (m y n : Nat) (v : V), vs = [v, .int y, .int n] ∧ Dn H t.toD v ∧ t.Ok m ∧ m ≤ 1000 ∧ ∀ H', Same H H' → Q (.bl (f t y n)) H'
def zor (f : Tie → Nat → Nat → Bool) : Sp := fun vs H Q _ => ∃ (u : Nat) (lo hi : Int) (ks : List Nat) (m y n : Nat) (v : V), vs = [v, .int y, .int n] ∧ Dn H (Tie.bough u lo hi ks).toD v ∧ Tie.BoughOk m u lo hi ks ∧ m ≤ 1000 ∧ ∀ H', Same H H' → Q (.bl (f (Tie.bough u lo hi ks) y n)) H'
def ztn (f : List (Nat × Int) → Nat → Nat → Int) : Sp := fun vs H Q _ => ∃ (q : Addr) (xs : List V) (ps : List (Nat × Int)) (y n : Nat), vs = [.ref q, .int y, .int n] ∧ H q = some (.tup xs) ∧ DnL H (ps.map zmg) xs ∧ ps.length ≤ 1000 ∧ ∀ H', Same H H' → Q (.int (f ps y n)) H'
theorem zhy {P : Tie → Prop} : ∀ {l : List PyData}, (∀ d ∈ l, ∃ t : Tie, d = t.toD ∧ P t) → ∃ ts : List Tie, l = ts.map Tie.toD ∧ ∀ t ∈ ts, P t
 | [], _ => ⟨[], rfl, (fun _ z => nomatch z)⟩
 | d :: r, h => by
  obtain ⟨t, e, p⟩ := h d List.mem_cons_self
  obtain ⟨ts, e2, p2⟩ := zhy fun x hx => h x (List.mem_cons_of_mem _ hx)
  refine ⟨t :: ts, by rw [e, e2]; rfl, fun x hx => ?_⟩
  rcases List.mem_cons.mp hx with rfl | z
  ·exact p
  ·exact p2 x z
theorem zp3 {m : Nat} {d : PyData} (h : zde m d = true) : ∃ t : Tie, d = t.toD ∧ t.Ok m := by
 obtain ⟨u, lo, hi, ks, e, ok⟩ := zgz h
 exact ⟨.bough u lo hi ks, e, ok⟩
theorem zj6 {m : Nat} {d : PyData} (h : zgd m d = true) : ∃ t : Tie, d = t.toD ∧ t.Ok m := by
 obtain ⟨t, e, ok, _⟩ := zlv h
 exact ⟨t, e, ok⟩
theorem zd5 {c A B : Prop} [Decidable c] (hc : c) (h : A) : if decide c = true then A else B := by
 rw [decide_eq_true hc]
 exact zok h
theorem zb5 {c A B : Prop} [Decidable c] (hc : ¬ c) (h : B) : if decide c = true then A else B := by
 rw [decide_eq_false hc]
 exact zhk h
theorem zng {c A B : Prop} [Decidable c] (hc : ¬ c) (h : A) : if (!decide c) = true then A else B := by
 rw [decide_eq_false hc]
 exact zok h
theorem zj3 {b : Bool} {A B : Prop} (hc : b = true) (h : A) : if b = true then A else B := by
 rw [if_pos hc]; exact h
theorem zhc {b : Bool} {A B : Prop} (hc : b = false) (h : B) : if b = true then A else B := by
 rw [hc]; exact zhk h
theorem zkg {x y : Str} (h : ¬ x = y) : ¬ V.str x = V.str y := fun z => by injection z with z; exact h z
theorem zgh : ¬ V.str ("bans" : Str) = V.str ("needs" : Str) := zkg (by decide +kernel)
theorem zgj : ¬ V.str ("most" : Str) = V.str ("needs" : Str) := zkg (by decide +kernel)
theorem zhv : ¬ V.str ("most" : Str) = V.str ("bans" : Str) := zkg (by decide +kernel)
theorem int_str {i : Int} {x : Str} : ¬ V.int i = V.str x := fun z => by cases z
end Wd
set_option maxRecDepth 100000
set_option maxHeartbeats 4000000
namespace Wd
open PySem L2 Ow
structure WoodT (H : Hp) (wd : Addr) (m : Nat) (ts : List Tie) : Prop where
 ex : ∃ xs ys, WoodAt H wd m xs ys ∧ DnL H (ts.map Tie.toD) (xs ++ ys)
 ok : ∀ t ∈ ts, t.Ok m
 few : ts.length ≤ 900
 m9 : m ≤ 900
theorem WoodAt.same {H H' : Hp} {wd : Addr} {m : Int} {xs ys : List V} (s : Same H H') (h : WoodAt H wd m xs ys) : WoodAt H' wd m xs ys := by
 obtain ⟨tb, tc, h1, h2, h3⟩ := h.ex
 exact ⟨tb, tc, s _ _ h1, s _ _ h2, s _ _ h3⟩
theorem WoodT.same {H H' : Hp} {wd : Addr} {m : Nat} {ts : List Tie} (s : Same H H') (h : WoodT H wd m ts) : WoodT H' wd m ts := by
 obtain ⟨xs, ys, h1, h2⟩ := h.ex
 exact ⟨⟨xs, ys, WoodAt.same s h1, DnL.same s _ _ h2⟩, h.ok, h.few, h.m9⟩
def zm3 : Option Nat → V
 | none => .non
 | some i => .int (i : Int)
def firstB (ts : List Tie) (n : Nat) : Option Nat := ts.findIdx? fun t => !t.keep n
def zbt (ts : List Tie) (n : Nat) : Bool := n.testBit 0 && ts.all fun t => t.keep n
theorem zms {ts : List Tie} {n i : Nat} {t : Tie} (h : ts[i]? = some t) (hk : t.keep n = false) (hp : ∀ j x, j < i → ts[j]? = some x → x.keep n = true) : firstB ts n = some i := by
 unfold firstB
 rw [List.findIdx?_eq_some_iff_getElem]
 obtain ⟨hi, e⟩ := List.getElem?_eq_some_iff.mp h
 refine ⟨hi, by rw [e, hk]; rfl, fun j hj => ?_⟩
 rw [hp j _ hj (List.getElem?_eq_getElem (by omega))]
 simp
theorem zma {ts : List Tie} {n : Nat} (hp : ∀ j x, j < ts.length → ts[j]? = some x → x.keep n = true) : firstB ts n = none := by
 unfold firstB
 rw [List.findIdx?_eq_none_iff]
 intro x hx
 obtain ⟨j, hj, rfl⟩ := List.getElem_of_mem hx
 rw [hp j _ hj (List.getElem?_eq_getElem hj)]
 rfl
theorem zh5 (ts : List Tie) (n : Nat) : zbt ts n = (n.testBit 0 && decide (firstB ts n = none)) := by
 unfold zbt firstB
 congr 1
 rw [Bool.eq_iff_iff, List.all_eq_true, decide_eq_true_eq, List.findIdx?_eq_none_iff]
 refine ⟨fun h x hx => by rw [h x hx]; rfl, fun h x hx => ?_⟩
 have := h x hx
 simpa using this
theorem zrl (o : Option Nat) : decide (zm3 o = V.non) = decide (o = none) := by
 cases o <;> rfl
def zsz : Sp := fun vs H Q _ => ∃ (wd : Addr) (m : Nat) (ts : List Tie), vs = [.ref wd] ∧ WoodT H wd m ts ∧ ∀ (l : Addr) (H' : Hp), Same H H' → H l = none → H' l = some (.lst ((List.range ts.length).map fun i : Nat => V.int (i : Int))) → Q (.ref l) H'
def zrd : Sp := fun vs H Q _ => ∃ (wd : Addr) (m : Nat) (ts : List Tie) (n : Nat), vs = [.ref wd, .int n] ∧ WoodT H wd m ts ∧ ∀ H', Same H H' → Q (zm3 (firstB ts n)) H'
def zsx : Sp := fun vs H Q _ => ∃ (wd : Addr) (m : Nat) (ts : List Tie) (n : Nat), vs = [.ref wd, .int n] ∧ WoodT H wd m ts ∧ ∀ H', Same H H' → Q (.bl (zbt ts n)) H'
theorem zpq {n i : Nat} {x : V} (h : ((List.range n).map fun i : Nat => V.int (i : Int))[i]? = some x) : i < n ∧ x = .int (i : Int) := by
 rw [List.getElem?_map] at h
 obtain ⟨j, hj, rfl⟩ := Option.map_eq_some_iff.mp h
 obtain ⟨hi, e⟩ := List.getElem?_eq_some_iff.mp hj
 rw [List.length_range] at hi
 rw [List.getElem_range] at e
 exact ⟨hi, by rw [e]⟩
end Wd
namespace Wd
theorem zl4 : ∀ (k a b : Nat), (∀ j, a.testBit j = true → b.testBit j = false) → (a + b).testBit k = (a.testBit k || b.testBit k)
 | k, a, b, h => by
  have h0 := h 0
  rw [Nat.testBit_zero, Nat.testBit_zero] at h0
  have p : a % 2 + b % 2 ≤ 1 := by
   by_cases z : a % 2 = 1
   ·have := h0 (decide_eq_true z)
    have := of_decide_eq_false this
    omega
   ·omega
  cases k with
  | zero =>
   rw [Nat.testBit_zero, Nat.testBit_zero, Nat.testBit_zero]
   by_cases z : a % 2 = 1
   ·rw [decide_eq_true z, decide_eq_true (by omega), Bool.true_or]
   ·rw [decide_eq_false z, Bool.false_or]
    by_cases y : b % 2 = 1
    ·rw [decide_eq_true y, decide_eq_true (by omega)]
    ·rw [decide_eq_false y, decide_eq_false (by omega)]
  | succ k =>
   rw [Nat.testBit_add_one, Nat.testBit_add_one, Nat.testBit_add_one]
   have e : (a + b) / 2 = a / 2 + b / 2 := by omega
   rw [e]
   refine zl4 k (a / 2) (b / 2) fun j hj => ?_
   have := h (j + 1)
   rw [Nat.testBit_add_one, Nat.testBit_add_one] at this
   exact this hj
theorem zub {a b : Nat} (h : ∀ j, a.testBit j = true → b.testBit j = false) : a + b = a ||| b :=
 Nat.eq_of_testBit_eq fun k => by rw [zl4 k a b h, Nat.testBit_or]
theorem zl5 : ∀ (k y a : Nat), (∀ j, a.testBit j = true → y.testBit j = true) → (y - a).testBit k = (y.testBit k && !a.testBit k)
 | k, y, a, h => by
  have le : a ≤ y := by
   have e : a = a &&& y := Nat.eq_of_testBit_eq fun j => by
    rw [Nat.testBit_and]
    cases e : a.testBit j with
    | false => rfl
    | true => rw [h j e]; rfl
   rw [e]
   exact Nat.and_le_right
  have h0 := h 0
  rw [Nat.testBit_zero, Nat.testBit_zero] at h0
  have p : a % 2 ≤ y % 2 := by
   by_cases z : a % 2 = 1
   ·have := of_decide_eq_true (h0 (decide_eq_true z))
    omega
   ·omega
  cases k with
  | zero =>
   rw [Nat.testBit_zero, Nat.testBit_zero, Nat.testBit_zero]
   by_cases z : a % 2 = 1
   ·rw [decide_eq_true z, decide_eq_false (by omega)]; simp
   ·rw [decide_eq_false z]
    by_cases x : y % 2 = 1
    ·rw [decide_eq_true x, decide_eq_true (by omega)]; rfl
    ·rw [decide_eq_false x, decide_eq_false (by omega)]; rfl
  | succ k =>
   rw [Nat.testBit_add_one, Nat.testBit_add_one, Nat.testBit_add_one]
   have e : (y - a) / 2 = y / 2 - a / 2 := by omega
   rw [e]
   refine zl5 k (y / 2) (a / 2) fun j hj => ?_
   have := h (j + 1)
   rw [Nat.testBit_add_one, Nat.testBit_add_one] at this
   exact this hj
theorem zpv (a b : Nat) : a ||| b = a + (b - (a &&& b)) := by
 have hb : ∀ j, (b - (a &&& b)).testBit j = (b.testBit j && !(a &&& b).testBit j) := fun j => zl5 j b (a &&& b) fun i hi => by
  rw [Nat.testBit_and, Bool.and_eq_true] at hi
  exact hi.2
 rw [zub fun j hj => by rw [hb, Nat.testBit_and, hj]; cases b.testBit j <;> rfl]
 refine Nat.eq_of_testBit_eq fun j => ?_
 rw [Nat.testBit_or, Nat.testBit_or, hb, Nat.testBit_and]
 cases a.testBit j <;> cases b.testBit j <;> rfl
theorem zg5 (p : Nat → Bool) (i : Nat) : (List.range (i + 1)).filter p = (List.range i).filter p ++ (if p i = true then [i] else []) := by
 rw [List.range_succ, List.filter_append]
 congr 1
 by_cases h : p i = true <;> simp [h]
theorem zc0 (y k j : Nat) : (y ||| 2 ^ k).testBit j = (y.testBit j || decide (k = j)) := by rw [Nat.testBit_or, Nat.testBit_two_pow]
theorem inS_split {y n k s : Nat} : InS y n s ↔ InS (y ||| 2 ^ k) n s ∨ InS y (n ||| 2 ^ k) s := by
 constructor
 ·rintro ⟨h1, h2⟩
  cases e : s.testBit k with
  | true =>
   refine .inl ⟨fun j hj => ?_, h2⟩
   rw [zc0, Bool.or_eq_true, decide_eq_true_eq] at hj
   rcases hj with z | rfl
   ·exact h1 j z
   ·exact e
  | false =>
   refine .inr ⟨h1, fun j hj => ?_⟩
   rw [zc0, Bool.or_eq_true, decide_eq_true_eq] at hj
   rcases hj with z | rfl
   ·exact h2 j z
   ·exact e
 ·rintro (⟨h1, h2⟩ | ⟨h1, h2⟩)
  ·exact ⟨fun j hj => h1 j (by rw [zc0, hj, Bool.true_or]), h2⟩
  ·exact ⟨h1, fun j hj => h2 j (by rw [zc0, hj, Bool.true_or])⟩
theorem zqm {y n k : Nat} (d : ∀ j, y.testBit j = true → n.testBit j = false) (hn : n.testBit k = false) : ∀ j, (y ||| 2 ^ k).testBit j = true → n.testBit j = false := fun j hj => by
 rw [zc0, Bool.or_eq_true, decide_eq_true_eq] at hj
 rcases hj with z | rfl
 ·exact d j z
 ·exact hn
theorem zrm {y n k : Nat} (d : ∀ j, y.testBit j = true → n.testBit j = false) (hy : y.testBit k = false) : ∀ j, y.testBit j = true → (n ||| 2 ^ k).testBit j = false := fun j hj => by
 rw [zc0, d j hj, Bool.false_or]
 exact decide_eq_false fun z => by rw [← z, hy] at hj; cases hj
theorem zfh {y n : Nat} (d : ∀ j, y.testBit j = true → n.testBit j = false) : InS y n y := ⟨fun _ z => z, fun k hk => by
 cases e : y.testBit k with
 | false => rfl
 | true => rw [d k e] at hk; cases hk⟩
theorem zja {m y n s : Nat} (full : ∀ k, k < m → (y ||| n).testBit k = true) (hs : InS y n s) (d : ∀ j, y.testBit j = true → n.testBit j = false) : ∀ k, k < m → s.testBit k = y.testBit k := fun k hk => by
 have h := full k hk
 rw [Nat.testBit_or, Bool.or_eq_true] at h
 rcases h with z | z
 ·rw [z, hs.1 k z]
 ·rw [hs.2 k z, (zfh d).2 k z]
theorem zoo {m : Nat} {t : Tie} (ok : t.Ok m) {y n : Nat} (d : ∀ j, y.testBit j = true → n.testBit j = false) (full : ∀ k, k < m → (y ||| n).testBit k = true) : t.sb y n = !t.keep y := by
 rw [Bool.eq_iff_iff, zrg ok d, Bool.not_eq_true']
 constructor
 ·intro h
  exact h y (zfh d)
 ·intro h s hs
  rw [zix ok (zja full hs d)]
  exact h
theorem zss {m : Nat} {t : Tie} (ok : t.Ok m) {y n : Nat} (d : ∀ j, y.testBit j = true → n.testBit j = false) (full : ∀ k, k < m → (y ||| n).testBit k = true) : t.sk y n = t.keep y := by
 rw [Bool.eq_iff_iff, zt6 ok d]
 constructor
 ·intro h
  exact h y (zfh d)
 ·intro h s hs
  rw [zix ok (zja full hs d)]
  exact h
end Wd
set_option maxRecDepth 100000
set_option maxHeartbeats 4000000
namespace L2
open PySem
theorem ziw {X : Cx} (hu : X.A.units + 64 < cLine) : OpR X (compareOp .Eq) (fun x y H Q => ∃ (a b : Addr) (ns ms : List Int), x = .ref a ∧ y = .ref b ∧ SqL X.K H a (ns.map V.int) ∧ SqL X.K H b (ms.map V.int) ∧ Q (.bl (decide (ns = ms))) H) := by
 intro pins s σ H x y v u Q I rx ry h
 obtain ⟨a, b, ns, ms, rfl, rfl, ha, hb, q⟩ := h
 cases rx
 cases ry
 obtain ⟨xs, rv, p, _⟩ := I.list ha
 obtain ⟨ys, rv', p', _⟩ := I.list hb
 exact PySem.W.ke_eq_ints p.isList p'.isList (zd3 rv) (zd3 rv') hu ⟨.bl _, H, I, rfl, q⟩
theorem zkn {k : Nat} {σ0 : St} {H : Hp} {g : TG} {tc : TT} {te : TE} {Q : VK} (Pv : Nat → List V → St → Hp → Prop) (h0 : Pv 0 [] σ0 H) (hz : ∀ i ys σ H, i ≤ k → Pv i ys σ H → ys.length ≤ sizeLine)
  (hs : ∀ i ys σ H, i < k → Pv i ys σ H → g (.int (i : Int)) σ H fun σ3 H3 => tc σ3 H3 fun b H4 => if b = true then te σ3 H4 fun v H5 => Pv (i + 1) (ys ++ [v]) σ3 H5 else Pv (i + 1) ys σ3 H4)
  (hd : ∀ ys σ H, Pv k ys σ H → ∀ p, H p = none → Q (.ref p) (upd H p (.lst ys))) :
  zrw (Itr 0 k) g tc te σ0 H Q :=
 zq4 (lo := 0) Pv h0 hz (fun i ys σ H hi p => by rw [Int.zero_add]; exact hs i ys σ H hi p) hd
theorem znt {n : Nat} {g : TG} {tb : TS} {D : zjg} {σ : St} {H : Hp} (Pv : Nat → St → Hp → Prop) (h0 : Pv 0 σ H)
  (hs : ∀ i σ H, i < n → Pv i σ H → g (.int (i : Int)) σ H fun σ2 H2 => tb { D with nx := Pv (i + 1), ct := Pv (i + 1), bk := D.nx } σ2 H2) (hd : ∀ σ H, Pv n σ H → D.nx σ H) :
  ∃ W : Nat → Nat → St → Hp → Prop, (∃ m, W 0 m σ H) ∧ ∀ i m σ H, W i m σ H →
   ((Itr 0 n).stop i H ∧ D.nx σ H) ∨ ((Itr 0 n).go i H ∧ ∃ N : St → Hp → Prop, (∀ σ' H', N σ' H' → ∃ m', m' < m ∧ W (i + 1) m' σ' H') ∧ ∀ x H', (Itr 0 n).yld i H x H' → g x σ H' fun σ2 H2 => tb { D with nx := N, ct := N, bk := D.nx } σ2 H2) :=
 zhm (lo := 0) Pv h0 (fun i σ H hi p => by rw [Int.zero_add]; exact hs i σ H hi p) hd
end L2
namespace Wd
open PySem L2 Ow
theorem zop (a b : Nat) : Builtin.bitOr (a : Int) (b : Int) = ((a ||| b : Nat) : Int) := by
 have le : a &&& b ≤ b := Nat.and_le_right
 rw [PyProof.Rows.bitOr_and, PyProof.Rows.bitAnd_pp (by omega) (by omega), Int.toNat_natCast, Int.toNat_natCast, zpv]
 omega
theorem zvz (k : Nat) : 1 * (2 : Int) ^ ((k : Nat) : Int).toNat = ((2 ^ k : Nat) : Int) := by
 rw [Int.one_mul, Int.toNat_natCast, Int.natCast_pow]
 rfl
def zta (l : List Stmt) (i : Nat) : List Stmt :=
 match l[i]? with
 | some (Stmt.For _ _ b _ _) => b
 | _ => []
end Wd
set_option maxRecDepth 100000
set_option maxHeartbeats 4000000
namespace L2
open PySem PySem.Spec PyProof.Rows
section
variable {X : Cx} {tg : Expr}
end
end L2
namespace Wd
open PySem L2
end Wd
set_option maxRecDepth 100000
set_option maxHeartbeats 4000000
namespace Wd
open PySem L2 Ow
def KpX (pen : Addr) (H H' : Hp) (b : Addr) : HO → Prop
 | .tbl _ => (∃ ps, H' b = some (.tbl ps)) ∧ (zed H b → (∃ ys, H pen = some (.lst ys)) → zed H' b ∧ ∃ ys, H' pen = some (.lst ys))
 | o => H' b = some o
def SameX (pen : Addr) (H H' : Hp) : Prop := ∀ b o, b ≠ pen → H b = some o → KpX pen H H' b o
theorem KpX.some {pen : Addr} {H H' : Hp} {b : Addr} {o : HO} (k : KpX pen H H' b o) : ∃ u, H' b = some u := by
 cases o
 case tbl ps => exact ⟨_, k.1.choose_spec⟩
 all_goals exact ⟨_, k⟩
theorem SameX.refl (pen : Addr) (H : Hp) : SameX pen H H := fun _ o _ h => by
 cases o
 case tbl ps => exact ⟨⟨_, h⟩, fun a b => ⟨a, b⟩⟩
 all_goals exact h
theorem SameX.trans {pen : Addr} {H H1 H2 : Hp} (a : SameX pen H H1) (b : SameX pen H1 H2) : SameX pen H H2 := fun c o n h => by
 have z := a c o n h
 cases o
 case tbl ps =>
  obtain ⟨⟨qs, hq⟩, k⟩ := z
  obtain ⟨q2, k2⟩ := b c _ n hq
  exact ⟨q2, fun t y => k2 (k t y).1 (k t y).2⟩
 all_goals exact b c _ n z
theorem Same.x {pen : Addr} {H H' : Hp} (s : Same H H') : SameX pen H H' := fun b o _ h => by
 have z := s b o h
 cases o
 case tbl ps => exact ⟨z.1, fun t ⟨ys, y⟩ => ⟨z.2 t, ys, s pen _ y⟩⟩
 all_goals exact z
theorem za2 {pen : Addr} {H : Hp} (o : HO) (ho : ∃ ys, o = .lst ys := by exact ⟨_, rfl⟩) : SameX pen H (upd H pen o) := fun b u n h => by
 cases u
 case tbl ps =>
  refine ⟨⟨ps, by rw [zao n]; exact h⟩, ?_⟩
  rintro ⟨qs, hq, tr, hp⟩ ⟨ys, hy⟩
  obtain ⟨zs, rfl⟩ := ho
  refine ⟨⟨qs, by rw [zao n]; exact hq, tr, fun pos => ?_⟩, ⟨zs, zae⟩⟩
  rcases hp pos with z | ⟨c, z1, z2⟩
  ·exact .inl z
  ·refine .inr ⟨c, z1, ?_⟩
   rw [zao fun z => by rw [z, hy] at z2; cases z2]
   exact z2
 all_goals (show upd H pen o b = _; rw [zao n]; exact h)
theorem SameX.put {pen : Addr} {H H1 : Hp} {p : Addr} {xs : List V} {o : HO} (s : SameX pen H H1) (n : H p = none) (np : p ≠ pen) (e : H1 p = some (.lst xs)) : SameX pen H (upd H1 p o) := fun b u nb hb => by
 have ne : b ≠ p := zav hb n
 have z := s b u nb hb
 cases u
 case tbl ps =>
  refine ⟨⟨z.1.choose, by rw [zao ne]; exact z.1.choose_spec⟩, fun t y => ?_⟩
  obtain ⟨⟨qs, hq, tr, hp⟩, ys, hy⟩ := z.2 t y
  refine ⟨⟨qs, by rw [zao ne]; exact hq, tr, fun pos => ?_⟩, ys, by rw [zao (Ne.symm np)]; exact hy⟩
  rcases hp pos with y | ⟨c, y1, y2⟩
  ·exact .inl y
  ·refine .inr ⟨c, y1, ?_⟩
   rw [zao fun z => by rw [z, e] at y2; cases y2]
   exact y2
 all_goals (show upd H1 p o b = _; rw [zao ne]; exact z)
theorem SameX.tab {pen P : Addr} {H H' : Hp} {ys : List V} (s : SameX pen H H') (hp : H pen = some (.lst ys)) (t : zed H P) : zed H' P := by
 obtain ⟨ps, h, _⟩ := id t
 exact ((s P _ (fun z => by rw [z, hp] at h; cases h) h).2 t ⟨ys, hp⟩).1
theorem SameX.free {pen l : Addr} {H H' : Hp} (s : SameX pen H H') (hp : ∃ o, H' pen = some o) (h : H' l = none) : H l = none := by
 cases q : H l with
 | none => rfl
 | some o =>
  obtain ⟨o', e⟩ := hp
  have n : l ≠ pen := fun z => by rw [z, e] at h; cases h
  obtain ⟨u, z⟩ := (s l o n q).some
  rw [z] at h
  cases h
structure Pen (K : PySem.W.Frag) (H : Hp) (pen sp : Addr) (ns : List Int) (k : Int) : Prop where
 at_ : H pen = some (.lst [.ref sp, .int k])
 len : ns.length ≤ 63
 scr : ∀ H', SameX pen H H' → SqL K H' sp (ns.map V.int)
theorem Pen.to {K : PySem.W.Frag} {H H' : Hp} {pen sp : Addr} {ns : List Int} {k k' : Int} (p : Pen K H pen sp ns k) (s : SameX pen H H') (e : H' pen = some (.lst [.ref sp, .int k'])) : Pen K H' pen sp ns k' :=
 ⟨e, p.len, fun H2 s2 => p.scr H2 (s.trans s2)⟩
theorem Dn.pen {H : Hp} {p : Addr} {xs ys : List V} (h : H p = some (.lst xs)) {n : Nat} {d : PyData} {v : V} (f : zbs n d = true) (q : Dn H d v) : Dn (upd H p (.lst ys)) d v := Dn.keepT (zm5 h) n d v f q
theorem DnL.pen {H : Hp} {p : Addr} {xs ys : List V} (h : H p = some (.lst xs)) {n : Nat} {ds : List PyData} {vs : List V} (f : ds.all (zbs n) = true) (q : DnL H ds vs) : DnL (upd H p (.lst ys)) ds vs := DnL.keepT (Dn.keepT (zm5 h) n) ds vs f q
def zea (H H' : Hp) : Prop := ∀ b xs, H b = some (.tup xs) → H' b = some (.tup xs)
theorem SameX.tup {pen : Addr} {H H' : Hp} {ys : List V} (e : H pen = some (.lst ys)) (s : SameX pen H H') : zea H H' := fun b xs h => s b _ (fun z => by rw [z, e] at h; cases h) h
theorem DnL.tupS {H H' : Hp} (t : zea H H') {n : Nat} {ds : List PyData} {vs : List V} (f : ds.all (zbs n) = true) (q : DnL H ds vs) : DnL H' ds vs := DnL.keepT (Dn.keepT t n) ds vs f q
def ztx (K : PySem.W.Frag) : Sp := fun vs H Q _ => ∃ (pen sp : Addr) (ns : List Int) (most k : Int), vs = [.ref pen, .int most] ∧ Pen K H pen sp ns k ∧ 0 ≤ k ∧ k ≤ 1000000 ∧ 0 < most ∧ ∀ c : Int, 0 ≤ c → c < most → Q (.int c) (L2.upd H pen (.lst [.ref sp, .int (k + 1)]))
theorem DnL.drop {H : Hp} : ∀ {ds : List PyData} {xs : List V} (t : Nat), DnL H ds xs → DnL H (ds.drop t) (xs.drop t)
 | _, _, 0, h => h
 | [], xs, t + 1, h => by rw [(show xs = [] from h)]; exact rfl
 | d :: ds, _, t + 1, ⟨x, r, e, q, z⟩ => by rw [e]; exact DnL.drop t z
theorem DnL.take {H : Hp} : ∀ {ds : List PyData} {xs : List V} (t : Nat), DnL H ds xs → DnL H (ds.take t) (xs.take t)
 | _, _, 0, h => by rw [List.take_zero, List.take_zero]; exact rfl
 | [], xs, t + 1, h => by rw [(show xs = [] from h)]; exact rfl
 | d :: ds, _, t + 1, ⟨x, r, e, q, z⟩ => by rw [e]; exact ⟨x, _, rfl, q, DnL.take t z⟩
structure WoodX (H : Hp) (wd : Addr) (m : Nat) (bs cs : List PyData) : Prop where
 ex : ∃ xs ys, WoodAt H wd m xs ys ∧ DnL H bs xs ∧ DnL H cs ys
 gb : GoodB m bs
 gc : ∀ c ∈ cs, zgd m c = true
 b8 : bs.length ≤ 9
 c8 : cs.length ≤ 20
 fb : bs.all (zbs 3) = true
 fc : cs.all (zbs 3) = true
 m1 : 1 ≤ m
 m9 : m ≤ 9
theorem WoodX.tupS {H H' : Hp} {wd : Addr} {m : Nat} {bs cs : List PyData} (t : zea H H') (h : WoodX H wd m bs cs) : WoodX H' wd m bs cs := by
 obtain ⟨xs, ys, ⟨tb, tc, h1, h2, h3⟩, db, dc⟩ := h.ex
 exact ⟨⟨xs, ys, ⟨tb, tc, t _ _ h1, t _ _ h2, t _ _ h3⟩, DnL.tupS t h.fb db, DnL.tupS t h.fc dc⟩, h.gb, h.gc, h.b8, h.c8, h.fb, h.fc, h.m1, h.m9⟩
theorem Same.tup {H H' : Hp} (s : Same H H') : zea H H' := fun b xs h => s b _ h
theorem WoodX.ties {H : Hp} {wd : Addr} {m : Nat} {bs cs : List PyData} (h : WoodX H wd m bs cs) : ∃ ts : List Tie, bs ++ cs = ts.map Tie.toD ∧ (∀ t ∈ ts, t.Ok m) ∧ ts.length ≤ 29 ∧ ∀ H', zea H H' → WoodT H' wd m ts := by
 obtain ⟨ts, ets, okt⟩ := zhy (P := fun t => t.Ok m) (l := bs ++ cs) fun x hx => by
  rcases List.mem_append.mp hx with z | z
  ·exact zp3 (h.gb.each x z)
  ·exact zj6 (h.gc x z)
 have lt : ts.length = bs.length + cs.length := by rw [← List.length_append, ets, List.length_map]
 have b8 := h.b8
 have c8 := h.c8
 have m9 := h.m9
 refine ⟨ts, ets, okt, by omega, fun H' t => ?_⟩
 obtain ⟨xs, ys, WA, db, dc⟩ := (h.tupS t).ex
 exact ⟨⟨xs, ys, WA, by rw [← ets]; exact db.append dc⟩, okt, by omega, by omega⟩
def zsq (K : PySem.W.Frag) : Sp := fun vs H Q _ => ∃ (pen sp : Addr) (ns : List Int) (m : Nat) (most k : Int), vs = [.ref pen, .int m, .int most] ∧ Pen K H pen sp ns k ∧ 0 ≤ k ∧ k ≤ 800000 ∧ 1 ≤ m ∧ m ≤ 9 ∧ 0 ≤ most ∧ most ≤ 8 ∧
 ∀ (wd : Addr) (bs cs : List PyData) (k' : Int) (H' : Hp), SameX pen H H' → H' pen = some (.lst [.ref sp, .int k']) → k ≤ k' → k' ≤ k + 300 → WoodX H' wd m bs cs → (cs.length : Int) ≤ most → Q (.ref wd) H'
theorem _root_.Ow.GAt.add2 {H0 H : Hp} {g l t : Addr} {gs : List Grp} {u k : Int} (G : GAt H0 H g gs) (hf : H0 l = none) (hl : H l = none) (ht : upd H l (.lst [.int k]) t = none) :
  GAt H0 (upd (upd (upd H l (.lst [.int k])) t (.tup [.int u, .ref l])) g (.lst ((gs.map fun x => V.ref x.t) ++ [.ref t]))) g (gs ++ [⟨t, u, l, [k]⟩]) := by
 have ngl : g ≠ l := zav G.at_ hl
 have s1 := zaj hl (.lst [.int k])
 have s2 := s1.trans (zaj ht (.tup [.int u, .ref l]))
 have ntl : t ≠ l := fun z => by rw [z, zae] at ht; cases ht
 have ngt : g ≠ t := zav (s1 _ _ G.at_) ht
 refine ⟨?_, G.new, fun x hx => ?_, fun x hx => ?_, ?_⟩
 ·rw [zae, List.map_append]
  rfl
 ·rcases List.mem_append.mp hx with z | z
  ·rw [zao (zmn (G.tup x z) G.at_ (by intro q; cases q))]
   exact s2 _ _ (G.tup x z)
  ·rw [List.mem_singleton.mp z]
   show L2.upd _ g _ t = _
   rw [zao (Ne.symm ngt), zae]
 ·rcases List.mem_append.mp hx with z | z
  ·obtain ⟨a, b, c⟩ := G.lst x z
   refine ⟨?_, b, c⟩
   rw [zao (Ne.symm c)]
   exact s2 _ _ a
  ·rw [List.mem_singleton.mp z]
   refine ⟨?_, hf, ngl⟩
   show L2.upd _ g _ l = _
   rw [zao (Ne.symm ngl), zao (Ne.symm ntl), zae]
   rfl
 ·rw [List.map_append]
  refine List.nodup_append.mpr ⟨G.nd, by simp, fun x hx y hy => ?_⟩
  obtain ⟨z, hz, rfl⟩ := List.mem_map.mp hx
  have e : y = l := by simpa using hy
  rw [e]
  exact zav (G.lst z hz).1 hl
theorem _root_.Ow.GAt.pen {H0 H : Hp} {g pen : Addr} {gs : List Grp} {xs ys : List V} (G : GAt H0 H g gs) (h0 : ∃ o, H0 pen = some o) (h : H pen = some (.lst xs)) : GAt H0 (L2.upd H pen (.lst ys)) g gs := by
 obtain ⟨o, e0⟩ := h0
 refine ⟨?_, G.new, fun x hx => ?_, fun x hx => ?_, G.nd⟩
 ·rw [zao (fun z => by rw [← z, G.new] at e0; cases e0)]
  exact G.at_
 ·rw [zao (zmn (G.tup x hx) h (by intro q; cases q))]
  exact G.tup x hx
 ·obtain ⟨a, b, c⟩ := G.lst x hx
  refine ⟨?_, b, c⟩
  rw [zao (fun z => by rw [← z, b] at e0; cases e0)]
  exact a
end Wd
namespace Wd
def zgf (ts : List Tie) (i s : Nat) : Bool := match ts[i]? with
 | some t => t.keep s
 | none => true
def zid (ts : List Tie) (i y n : Nat) : Bool := match ts[i]? with
 | some t => t.sb y n
 | none => false
def zba (ts : List Tie) (il : List Nat) (y n : Nat) : Option Nat := il.find? fun i => zid ts i y n
def zay (m y n : Nat) : List Nat := (List.range m).filter fun k => !(y ||| n).testBit k
theorem mem_open {m y n k : Nat} : k ∈ zay m y n ↔ k < m ∧ y.testBit k = false ∧ n.testBit k = false := by
 unfold zay
 rw [List.mem_filter, List.mem_range, Bool.not_eq_true', Nat.testBit_or, Bool.or_eq_false_iff]
theorem zri (m y n k : Nat) : zay m (y ||| 2 ^ k) n = (zay m y n).filter fun j => !decide (k = j) := by
 unfold zay
 rw [List.filter_filter]
 refine List.filter_congr fun j _ => ?_
 rw [Nat.testBit_or, zc0, Nat.testBit_or]
 cases y.testBit j <;> cases n.testBit j <;> cases decide (k = j) <;> rfl
theorem zn0 (m y n k : Nat) : zay m y (n ||| 2 ^ k) = (zay m y n).filter fun j => !decide (k = j) := by
 unfold zay
 rw [List.filter_filter]
 refine List.filter_congr fun j _ => ?_
 rw [Nat.testBit_or, zc0, Nat.testBit_or]
 cases y.testBit j <;> cases n.testBit j <;> cases decide (k = j) <;> rfl
theorem zh6 {l : List Nat} {k : Nat} (h : k ∈ l) : (l.filter fun j => !decide (k = j)).length < l.length := by
 refine Nat.lt_of_le_of_ne (List.length_filter_le _ _) fun e => ?_
 have := List.length_filter_eq_length_iff.mp e k h
 simp at this
theorem zdn {m y n k : Nat} (h : k ∈ zay m y n) : (zay m (y ||| 2 ^ k) n).length < (zay m y n).length := by
 rw [zri]; exact zh6 h
theorem zdl {m y n k : Nat} (h : k ∈ zay m y n) : (zay m y (n ||| 2 ^ k)).length < (zay m y n).length := by
 rw [zn0]; exact zh6 h
theorem zgu (m y n : Nat) : (zay m y n).length ≤ m := by
 refine Nat.le_trans (List.length_filter_le _ _) ?_
 rw [List.length_range]
 exact Nat.le_refl _
theorem zod {m y k : Nat} (h : y < 2 ^ m) (hk : k < m) : y ||| 2 ^ k < 2 ^ m := by
 refine Nat.lt_pow_two_of_testBit _ fun i hi => ?_
 rw [zc0, Nat.testBit_lt_two_pow (Nat.lt_of_lt_of_le h (Nat.pow_le_pow_right (by decide) hi)), Bool.false_or]
 exact decide_eq_false (by omega)
theorem znw {x y : Nat} (k : Nat) (hx : x.testBit k = false) (hy : y.testBit k = true) (h : ∀ j, k < j → x.testBit j = y.testBit j) : x < y := by
 have e : x / 2 ^ (k + 1) = y / 2 ^ (k + 1) := Nat.eq_of_testBit_eq fun j => by
  rw [← Nat.testBit_add, ← Nat.testBit_add]
  exact h _ (by omega)
 have r1 : x % 2 ^ (k + 1) < 2 ^ k := Nat.lt_pow_two_of_testBit _ fun i hi => by
  rw [Nat.testBit_mod_two_pow]
  by_cases z : i = k
  ·rw [z, hx, Bool.and_false]
  ·rw [decide_eq_false (by omega), Bool.false_and]
 have r2 : 2 ^ k ≤ y % 2 ^ (k + 1) := Nat.ge_two_pow_of_testBit (by
  rw [Nat.testBit_mod_two_pow, hy, decide_eq_true (by omega)]; rfl)
 have d1 := Nat.div_add_mod x (2 ^ (k + 1))
 have d2 := Nat.div_add_mod y (2 ^ (k + 1))
 rw [e] at d1
 omega
theorem zno {m a b : Nat} (ha : a < 2 ^ m) (hb : b < 2 ^ m) (h : ∀ k, k < m → a.testBit k = b.testBit k) : a = b := by
 refine Nat.eq_of_testBit_eq fun k => ?_
 by_cases z : k < m
 ·exact h k z
 ·have : 2 ^ m ≤ 2 ^ k := Nat.pow_le_pow_right (by decide) (by omega)
  rw [Nat.testBit_lt_two_pow (by omega), Nat.testBit_lt_two_pow (by omega)]
def zee (ts : List Tie) (il : List Nat) (s : Nat) : Bool := il.all fun i => zgf ts i s
structure Stand (m y n : Nat) : Prop where
 dj : ∀ k, y.testBit k = true → n.testBit k = false
 ym : y < 2 ^ m
 nm : n < 2 ^ m
theorem Stand.one {m y n k : Nat} (S : Stand m y n) (h : k ∈ zay m y n) : Stand m (y ||| 2 ^ k) n := by
 obtain ⟨km, ky, kn⟩ := mem_open.mp h
 exact ⟨zqm S.dj kn, zod S.ym km, S.nm⟩
theorem Stand.other {m y n k : Nat} (S : Stand m y n) (h : k ∈ zay m y n) : Stand m y (n ||| 2 ^ k) := by
 obtain ⟨km, ky, kn⟩ := mem_open.mp h
 exact ⟨zrm S.dj ky, S.ym, zod S.nm km⟩
theorem zkm {m : Nat} {ts : List Tie} (ok : ∀ t ∈ ts, t.Ok m) {i y n s : Nat} (dj : ∀ k, y.testBit k = true → n.testBit k = false) (h : zid ts i y n = true) (hs : InS y n s) : zgf ts i s = false := by
 unfold zid at h
 unfold zgf
 cases e : ts[i]? with
 | none => rw [e] at h; cases h
 | some t =>
  rw [e] at h
  exact (zrg (ok t (List.mem_of_getElem? e)) dj).mp h s hs
theorem zks {m : Nat} {ts : List Tie} (ok : ∀ t ∈ ts, t.Ok m) {i y n : Nat} (dj : ∀ k, y.testBit k = true → n.testBit k = false) (full : zay m y n = []) (h : zid ts i y n = false) : zgf ts i y = true := by
 have hf : ∀ k, k < m → (y ||| n).testBit k = true := fun k hk => by
  cases e : (y ||| n).testBit k with
  | true => rfl
  | false =>
   rw [Nat.testBit_or, Bool.or_eq_false_iff] at e
   have := mem_open.mpr ⟨hk, e.1, e.2⟩
   rw [full] at this
   cases this
 unfold zid at h
 unfold zgf
 cases e : ts[i]? with
 | none => rfl
 | some t =>
  rw [e] at h
  have h' : t.sb y n = false := h
  rw [zoo (ok t (List.mem_of_getElem? e)) dj hf] at h'
  show t.keep y = true
  simpa using h'
theorem zjo {m y n s : Nat} (S : Stand m y n) (full : zay m y n = []) (hs : InS y n s) (sm : s < 2 ^ m) : s = y := by
 refine zno sm S.ym fun k hk => ?_
 refine zja (m := m) (fun j hj => ?_) hs S.dj k hk
 cases e : (y ||| n).testBit j with
 | true => rfl
 | false =>
  rw [Nat.testBit_or, Bool.or_eq_false_iff] at e
  have := mem_open.mpr ⟨hj, e.1, e.2⟩
  rw [full] at this
  cases this
def zc1 (ts : List Tie) (il : List Nat) (m : Nat) : Nat → Nat → Nat → Option Nat
 | f, y, n => if (zba ts il y n).isSome = true then none else match (zay m y n).getLast?, f with
  | none, _ => some y
  | some _, 0 => none
  | some k, f + 1 => match zc1 ts il m f y (n ||| 2 ^ k) with
   | some s => some s
   | none => zc1 ts il m f (y ||| 2 ^ k) n
def zp8 (ts : List Tie) (il : List Nat) (m y n : Nat) : Option Nat → Prop
 | some s => s < 2 ^ m ∧ InS y n s ∧ zee ts il s = true ∧ ∀ s', s' < 2 ^ m → InS y n s' → zee ts il s' = true → s ≤ s'
 | none => ∀ s', s' < 2 ^ m → InS y n s' → zee ts il s' = false
theorem zg0 {ts : List Tie} {il : List Nat} {y n i : Nat} (h : zba ts il y n = some i) : i ∈ il ∧ zid ts i y n = true :=
 ⟨List.mem_of_find?_eq_some h, List.find?_some (p := fun i => zid ts i y n) h⟩
theorem zew {ts : List Tie} {il : List Nat} {y n : Nat} (h : zba ts il y n = none) : ∀ i ∈ il, zid ts i y n = false := fun i hi => by
 have := List.find?_eq_none.mp h i hi
 simpa using this
theorem zkd {m y n k : Nat} (h : (zay m y n).getLast? = some k) : k ∈ zay m y n ∧ ∀ j ∈ zay m y n, j ≤ k := by
 have hp : (zay m y n).Pairwise (· < ·) := List.pairwise_lt_range.filter _
 refine ⟨List.mem_of_getLast? h, fun j hj => ?_⟩
 obtain ⟨l, e⟩ := List.getLast?_eq_some_iff.mp h
 rw [e] at hp hj
 rcases List.mem_append.mp hj with z | z
 ·exact Nat.le_of_lt ((List.pairwise_append.mp hp).2.2 j z k (List.mem_singleton.mpr rfl))
 ·exact Nat.le_of_eq (List.mem_singleton.mp z)
theorem zfd {m : Nat} {ts : List Tie} {il : List Nat} (ok : ∀ t ∈ ts, t.Ok m) : ∀ (f y n : Nat), (zay m y n).length ≤ f → Stand m y n → zp8 ts il m y n (zc1 ts il m f y n)
 | f, y, n, hf, S => by
  unfold zc1
  cases hb : zba ts il y n with
  | some i =>
   obtain ⟨hi, hsb⟩ := zg0 hb
   intro s' sm hs
   cases e : zee ts il s' with
   | false => rfl
   | true =>
    have := (List.all_eq_true.mp e) i hi
    rw [zkm ok S.dj hsb hs] at this
    cases this
  | none =>
   have hn := zew hb
   simp only [Option.isSome_none, Bool.false_eq_true, if_false]
   cases hl : (zay m y n).getLast? with
   | none =>
    have full : zay m y n = [] := List.getLast?_eq_none_iff.mp hl
    refine ⟨S.ym, zfh S.dj, List.all_eq_true.mpr fun i hi => zks ok S.dj full (hn i hi), fun s' sm hs _ => ?_⟩
    rw [zjo S full hs sm]
    exact Nat.le_refl _
   | some k =>
    obtain ⟨hk, hmax⟩ := zkd hl
    cases f with
    | zero => rw [List.eq_nil_of_length_eq_zero (Nat.le_zero.mp hf)] at hk; cases hk
    | succ f =>
     have l1 := zdn hk
     have l2 := zdl hk
     have i1 := zfd (il := il) ok f y (n ||| 2 ^ k) (by omega) (S.other hk)
     have i2 := zfd (il := il) ok f (y ||| 2 ^ k) n (by omega) (S.one hk)
     dsimp only
     cases h1 : zc1 ts il m f y (n ||| 2 ^ k) with
     | some s =>
      rw [h1] at i1
      obtain ⟨a1, a2, a3, a4⟩ := i1
      refine ⟨a1, inS_split.mpr (.inr a2), a3, fun s' sm hs hk' => ?_⟩
      rcases (inS_split (k := k)).mp hs with z | z
      ·have kt : s'.testBit k = true := z.1 k (by rw [zc0, decide_eq_true rfl, Bool.or_true])
       have kf : s.testBit k = false := a2.2 k (by rw [zc0, decide_eq_true rfl, Bool.or_true])
       refine Nat.le_of_lt (znw k kf kt fun j hj => ?_)
       by_cases jm : j < m
       ·have hno : ¬ j ∈ zay m y n := fun z => by have := hmax j z; omega
        have hyn : y.testBit j = true ∨ n.testBit j = true := by
         cases ey : y.testBit j with
         | true => exact .inl rfl
         | false =>
          cases en : n.testBit j with
          | true => exact .inr rfl
          | false => exact absurd (mem_open.mpr ⟨jm, ey, en⟩) hno
        have hs0 := inS_split.mpr (.inr a2)
        rcases hyn with e | e
        ·rw [hs0.1 j e, hs.1 j e]
        ·rw [hs0.2 j e, hs.2 j e]
       ·have : 2 ^ m ≤ 2 ^ j := Nat.pow_le_pow_right (by decide) (by omega)
        rw [Nat.testBit_lt_two_pow (by omega), Nat.testBit_lt_two_pow (by omega)]
      ·exact a4 s' sm z hk'
     | none =>
      rw [h1] at i1
      show zp8 ts il m y n (zc1 ts il m f (y ||| 2 ^ k) n)
      cases h2 : zc1 ts il m f (y ||| 2 ^ k) n with
      | some s =>
       rw [h2] at i2
       obtain ⟨a1, a2, a3, a4⟩ := i2
       refine ⟨a1, inS_split.mpr (.inl a2), a3, fun s' sm hs hk' => ?_⟩
       rcases (inS_split (k := k)).mp hs with z | z
       ·exact a4 s' sm z hk'
       ·rw [i1 s' sm z] at hk'
        cases hk'
      | none =>
       rw [h2] at i2
       intro s' sm hs
       rcases (inS_split (k := k)).mp hs with z | z
       ·exact i2 s' sm z
       ·exact i1 s' sm z
theorem zni {ts : List Tie} {il : List Nat} {m f y n k : Nat} (hb : zba ts il y n = none) (ho : (zay m y n).getLast? = some k) : zc1 ts il m (f + 1) y n = (match zc1 ts il m f y (n ||| 2 ^ k) with | some s => some s | none => zc1 ts il m f (y ||| 2 ^ k) n) := by
 conv => lhs; unfold zc1
 simp only [hb, ho, Option.isSome_none, Bool.false_eq_true, if_false]
theorem zn5 {ts : List Tie} {il : List Nat} {m f y n : Nat} (hb : zba ts il y n = none) (ho : zay m y n = []) : zc1 ts il m f y n = some y := by
 unfold zc1
 simp [hb, ho]
theorem zld {ts : List Tie} {il : List Nat} {m f y n i : Nat} (hb : zba ts il y n = some i) : zc1 ts il m f y n = none := by
 unfold zc1
 simp [hb]
inductive CT where
 | broken (t : Nat)
 | ware
 | split (k : Nat) (one other : CT)
def zb1 (ts : List Tie) (il : List Nat) (m : Nat) : Nat → Nat → Nat → CT
 | f, y, n => match zba ts il y n with
  | some t => .broken t
  | none => match zay m y n, f with
   | [], _ => .ware
   | _ :: _, 0 => .ware
   | k :: _, f + 1 => .split k (zb1 ts il m f (y ||| 2 ^ k) n) (zb1 ts il m f y (n ||| 2 ^ k))
theorem zgv {ts : List Tie} {il r : List Nat} {m f y n k : Nat} (hb : zba ts il y n = none) (ho : zay m y n = k :: r) : zb1 ts il m (f + 1) y n = .split k (zb1 ts il m f (y ||| 2 ^ k) n) (zb1 ts il m f y (n ||| 2 ^ k)) := by
 conv => lhs; unfold zb1
 simp only [hb, ho]
theorem zic {ts : List Tie} {il : List Nat} {m f y n : Nat} (hb : zba ts il y n = none) (ho : zay m y n = []) : zb1 ts il m f y n = .ware := by
 unfold zb1
 simp [hb, ho]
theorem zgb {ts : List Tie} {il : List Nat} {m f y n i : Nat} (hb : zba ts il y n = some i) : zb1 ts il m f y n = .broken i := by
 unfold zb1
 simp [hb]
def CT.leaves : CT → Nat → List Nat
 | .broken _, _ => []
 | .ware, y => [y]
 | .split k a b, y => a.leaves (y ||| 2 ^ k) ++ b.leaves y
def CT.depth : CT → Nat
 | .broken _ => 0
 | .ware => 0
 | .split _ a b => max a.depth b.depth + 1
def CT.small : CT → Prop
 | .broken _ => True
 | .ware => True
 | .split k a b => k ≤ 1000 ∧ a.small ∧ b.small
theorem ze0 {ts : List Tie} {il : List Nat} {m : Nat} (hm : m ≤ 1000) : ∀ (f y n : Nat), (zb1 ts il m f y n).small
 | f, y, n => by
  unfold zb1
  cases zba ts il y n with
  | some t => trivial
  | none =>
   dsimp only
   cases hl : zay m y n with
   | nil => trivial
   | cons k r =>
    cases f with
    | zero => trivial
    | succ f =>
     have hk : k ∈ zay m y n := by rw [hl]; exact List.mem_cons_self
     have := (mem_open.mp hk).1
     exact ⟨by omega, ze0 hm f (y ||| 2 ^ k) n, ze0 hm f y (n ||| 2 ^ k)⟩
theorem ze4 : ∀ (t : CT) (y : Nat), (t.leaves y).length ≤ 2 ^ t.depth
 | .broken _, _ => Nat.zero_le _
 | .ware, _ => Nat.le_refl _
 | .split k a b, y => by
  rw [CT.leaves, List.length_append, CT.depth, Nat.pow_succ]
  have h1 := ze4 a (y ||| 2 ^ k)
  have h2 := ze4 b y
  have h3 : 2 ^ a.depth ≤ 2 ^ (max a.depth b.depth) := Nat.pow_le_pow_right (by decide) (Nat.le_max_left _ _)
  have h4 : 2 ^ b.depth ≤ 2 ^ (max a.depth b.depth) := Nat.pow_le_pow_right (by decide) (Nat.le_max_right _ _)
  omega
theorem ze1 {ts : List Tie} {il : List Nat} {m : Nat} : ∀ (f y n : Nat), (zb1 ts il m f y n).depth ≤ f
 | f, y, n => by
  unfold zb1
  cases zba ts il y n with
  | some t => exact Nat.zero_le _
  | none =>
   dsimp only
   cases zay m y n with
   | nil => exact Nat.zero_le _
   | cons k r =>
    cases f with
    | zero => exact Nat.zero_le _
    | succ f =>
     show max _ _ + 1 ≤ f + 1
     have h1 := ze1 (ts := ts) (il := il) (m := m) f (y ||| 2 ^ k) n
     have h2 := ze1 (ts := ts) (il := il) (m := m) f y (n ||| 2 ^ k)
     omega
theorem zd7 {m : Nat} {ts : List Tie} {il : List Nat} (ok : ∀ t ∈ ts, t.Ok m) : ∀ (f y n : Nat), (zay m y n).length ≤ f → Stand m y n → ∀ s, s ∈ (zb1 ts il m f y n).leaves y ↔ (s < 2 ^ m ∧ InS y n s ∧ zee ts il s = true)
 | f, y, n, hf, S, s => by
  unfold zb1
  cases hb : zba ts il y n with
  | some i =>
   obtain ⟨hi, hsb⟩ := zg0 hb
   constructor
   ·intro h; cases h
   ·rintro ⟨sm, hs, hk⟩
    have := (List.all_eq_true.mp hk) i hi
    rw [zkm ok S.dj hsb hs] at this
    cases this
  | none =>
   have hn := zew hb
   dsimp only
   cases hl : zay m y n with
   | nil =>
    show s ∈ [y] ↔ _
    rw [List.mem_singleton]
    constructor
    ·rintro rfl
     exact ⟨S.ym, zfh S.dj, List.all_eq_true.mpr fun i hi => zks ok S.dj hl (hn i hi)⟩
    ·rintro ⟨sm, hs, _⟩
     exact zjo S hl hs sm
   | cons k r =>
    have hk : k ∈ zay m y n := by rw [hl]; exact List.mem_cons_self
    cases f with
    | zero => rw [hl] at hf; simp at hf
    | succ f =>
     have l1 := zdn hk
     have l2 := zdl hk
     show s ∈ (zb1 ts il m f (y ||| 2 ^ k) n).leaves (y ||| 2 ^ k) ++ (zb1 ts il m f y (n ||| 2 ^ k)).leaves y ↔ _
     rw [List.mem_append, zd7 ok f (y ||| 2 ^ k) n (by omega) (S.one hk), zd7 ok f y (n ||| 2 ^ k) (by omega) (S.other hk)]
     constructor
     ·rintro (⟨a, b, c⟩ | ⟨a, b, c⟩)
      ·exact ⟨a, inS_split.mpr (.inl b), c⟩
      ·exact ⟨a, inS_split.mpr (.inr b), c⟩
     ·rintro ⟨a, b, c⟩
      rcases (inS_split (k := k)).mp b with b | b
      ·exact .inl ⟨a, b, c⟩
      ·exact .inr ⟨a, b, c⟩
end Wd
set_option maxRecDepth 100000
set_option maxHeartbeats 4000000
namespace L2
open PySem PySem.Spec PyProof.Rows
section
variable {X : Cx}
theorem zrk {prog : Program} {w : World} {A : Around} {E : Value → Shared → Prop} {s : Shared} {t b : Addr} {ws : List Value} {Q : Value → Shared → Prop} (ht : IsTup s.heap t ([] : List Value).toArray) (hb : IsTup s.heap b ws.toArray) (h : Q (.ref b) s) :
  wpAny (model prog w) A (binaryOp .Add (.ref t) (.ref b)) Q E s := by
 obtain ⟨⟨cls, dd, data, sl⟩, ho, hc, n, hd⟩ := id ht
 obtain ⟨⟨cls2, dd2, data2, sl2⟩, ho2, hc2, n2, hd2⟩ := id hb
 simp only at hc hd hc2 hd2
 subst hc hd hc2 hd2
 exact concat_meets ⟨_, ho, rfl⟩ ⟨_, ho2, rfl⟩ noFill_tuple_add seq_tuple_add PySem.F.slot_tuple_add PySem.F.entry_tuple_add (PySem.F.args_tuple_add_2 _ _)
  (tuple_addW0 t b ([] : List Value).toArray ws.toArray n n2 dd dd2 sl sl2 (by simp)) ⟨ho, ho2, h⟩
theorem zd6 : OpR X (binaryOp .Add) (fun x y H Q => ∃ a b xs ys, x = .ref a ∧ y = .ref b ∧ H a = some (.tup xs) ∧ H b = some (.tup ys) ∧ xs.length + ys.length ≤ sizeLine ∧ ∀ c H', Same H H' → H' c = some (.tup (xs ++ ys)) → Q (.ref c) H') := by
 intro pins s σ H x y v u Q I rx ry h
 obtain ⟨a, b, xs, ys, rfl, rfl, ha, hb, hz, q⟩ := h
 by_cases hx : xs = []
 ·subst hx
  cases rx
  cases ry
  obtain ⟨its, r1, p1, _⟩ := I.tuple (.inl (.inl ha))
  obtain ⟨its2, r2, p2, _⟩ := I.tuple (.inl (.inl hb))
  cases r1
  exact zrk p1 p2 ⟨.ref b, H, I, rfl, q b H (Same.refl H) hb⟩
 ·refine zsl pins s σ H _ _ v u Q I rx ry ⟨a, b, xs, ys, rfl, rfl, .inl (.inl ha), .inl (.inl hb), hx, hz, fun e => ?_, fun _ p hp => ?_⟩
  ·refine q a H (Same.refl H) ?_
   rw [e, List.append_nil]
   exact ha
  ·exact q p _ (zg7 fun b o e => by rw [zao (zav e hp)]; exact e) zae
end
end L2
namespace Wd
open PySem L2 Ow
def CT.toD : CT → PyData
 | .broken t => .tuple [.str ("broken" : Str), .int (t : Int)]
 | .ware => .tuple [.str ("ware" : Str)]
 | .split k a b => .tuple [.str ("split" : Str), .int (k : Int), a.toD, b.toD]
theorem zpx {H : Hp} {t : Nat} {v : V} (h : Dn H (CT.broken t).toD v) : ∃ p, v = .ref p ∧ H p = some (.tup [.str ("broken" : Str), .int (t : Int)]) := by
 obtain ⟨p, xs, rfl, hp, xu, r1, rfl, hu, xl, r2, rfl, hlo, hnil⟩ := zda h
 cases (show r2 = [] from hnil)
 cases (show xu = .str ("broken" : Str) from hu)
 cases zdw hlo
 exact ⟨p, rfl, hp⟩
theorem zsf {H : Hp} {v : V} (h : Dn H CT.ware.toD v) : ∃ p, v = .ref p ∧ H p = some (.tup [.str ("ware" : Str)]) := by
 obtain ⟨p, xs, rfl, hp, xu, r1, rfl, hu, hnil⟩ := zda h
 cases (show r1 = [] from hnil)
 cases (show xu = .str ("ware" : Str) from hu)
 exact ⟨p, rfl, hp⟩
theorem zq0 {H : Hp} {k : Nat} {a b : CT} {v : V} (h : Dn H (CT.split k a b).toD v) : ∃ p va vb, v = .ref p ∧ H p = some (.tup [.str ("split" : Str), .int (k : Int), va, vb]) ∧ Dn H a.toD va ∧ Dn H b.toD vb := by
 obtain ⟨p, xs, rfl, hp, xu, r1, rfl, hu, xl, r2, rfl, hlo, va, r3, rfl, ha, vb, r4, rfl, hb, hnil⟩ := zda h
 cases (show r4 = [] from hnil)
 cases (show xu = .str ("split" : Str) from hu)
 cases zdw hlo
 exact ⟨p, va, vb, rfl, hp, ha, hb⟩
theorem zmy : ¬ V.str ("broken" : Str) = V.str ("ware" : Str) := zkg (by decide +kernel)
theorem zlf : ¬ V.str ("broken" : Str) = V.str ("split" : Str) := zkg (by decide +kernel)
theorem zn2 : ¬ V.str ("split" : Str) = V.str ("ware" : Str) := zkg (by decide +kernel)
abbrev zb2 (l : List Nat) : List V := l.map fun k : Nat => V.int (k : Int)
theorem zse (l : List Nat) (k : Nat) : atI (zb2 (l ++ [k])) (-1) = some (.int (k : Int)) := by
 unfold atI ixN
 have e : (zb2 (l ++ [k])).length = l.length + 1 := by rw [List.length_map, List.length_append, List.length_singleton]
 rw [e, if_neg (by decide), if_pos (by omega)]
 show (zb2 (l ++ [k]))[((-1 : Int) + ((l.length + 1 : Nat) : Int)).toNat]? = _
 have e2 : ((-1 : Int) + ((l.length + 1 : Nat) : Int)).toNat = l.length := by omega
 rw [e2, zb2, List.getElem?_map, List.getElem?_append_right (Nat.le_refl _), Nat.sub_self]
 rfl
def zsm : Sp := fun vs H Q _ => ∃ n k : Nat, vs = [.int n, .int k] ∧ k ≤ 1000 ∧ Q (.int ((n ||| 2 ^ k : Nat) : Int)) H
def zts : Sp := fun vs H Q _ => ∃ m y n : Nat, vs = [.int m, .int y, .int n] ∧ m ≤ 900 ∧ ∀ (l : Addr) (H' : Hp), Same H H' → H l = none → H' l = some (.lst (zb2 (zay m y n))) → Q (.ref l) H'
def zpc : Sp := fun vs H Q _ => ∃ (wd : Addr) (m : Nat) (ts : List Tie) (tl : Addr) (il : List Nat) (y n : Nat), vs = [.ref wd, .ref tl, .int y, .int n] ∧ WoodT H wd m ts ∧ H tl = some (.lst (zb2 il)) ∧ (∀ i ∈ il, i < ts.length) ∧ ∀ H', Same H H' → Q (zm3 (zba ts il y n)) H'
def zrn (f : Nat) : Sp := fun vs H Q _ => ∃ (wd : Addr) (m : Nat) (ts : List Tie) (tl : Addr) (il : List Nat) (y n : Nat), vs = [.ref wd, .ref tl, .int y, .int n] ∧ WoodT H wd m ts ∧ H tl = some (.lst (zb2 il)) ∧ (∀ i ∈ il, i < ts.length) ∧ (zay m y n).length ≤ f ∧ ∀ (v : V) (H' : Hp), Same H H' → Dn H' (zb1 ts il m f y n).toD v → Q v H'
def zkx (f : Nat) : Sp := fun vs H Q _ => ∃ (wd : Addr) (m : Nat) (ts : List Tie) (tl : Addr) (il : List Nat) (y n : Nat), vs = [.ref wd, .ref tl, .int y, .int n] ∧ WoodT H wd m ts ∧ H tl = some (.lst (zb2 il)) ∧ (∀ i ∈ il, i < ts.length) ∧ (zay m y n).length ≤ f ∧ ∀ H', Same H H' → Q (zm3 (zc1 ts il m f y n)) H'
def zf8 (ts : List Tie) : List Nat := List.range ts.length
theorem zh7 (ts : List Tie) (s : Nat) : zee ts (zf8 ts) s = ts.all fun t => t.keep s := by
 unfold zee zf8
 rw [Bool.eq_iff_iff, List.all_eq_true, List.all_eq_true]
 constructor
 ·intro h t ht
  obtain ⟨i, hi, rfl⟩ := List.getElem_of_mem ht
  have := h i (List.mem_range.mpr hi)
  unfold zgf at this
  rw [List.getElem?_eq_getElem hi] at this
  exact this
 ·intro h i hi
  unfold zgf
  rw [List.getElem?_eq_getElem (List.mem_range.mp hi)]
  exact h _ (List.getElem_mem _)
def zs9 : Sp := fun vs H Q _ => ∃ (wd : Addr) (m : Nat) (ts : List Tie) (y n : Nat), vs = [.ref wd, .int y, .int n] ∧ WoodT H wd m ts ∧ m ≤ 9 ∧ ∀ (v : V) (H' : Hp), Same H H' → Dn H' (zb1 ts (zf8 ts) m 9 y n).toD v → Q v H'
def zir (f : Nat) : Sp := fun vs H Q _ => ∃ (y : Nat) (t : CT) (v : V), vs = [.int y, v] ∧ Dn H t.toD v ∧ t.depth ≤ f ∧ f ≤ 9 ∧ CT.small t ∧ ∀ (l : Addr) (H' : Hp), Same H H' → H l = none → H' l = some (.lst (zb2 (t.leaves y))) → Q (.ref l) H'
def zq2 : Sp := fun vs H Q _ => ∃ (wd : Addr) (m : Nat) (ts : List Tie) (y n : Nat), vs = [.ref wd, .int y, .int n] ∧ WoodT H wd m ts ∧ m ≤ 9 ∧ 1 ≤ m ∧ Stand m y n ∧ ∀ H' o, Same H H' → (match o with | none => ∀ s, s < 2 ^ m → InS y n s → zbt ts s = false | some s => s < 2 ^ m ∧ InS y n s ∧ zbt ts s = true ∧ ∀ s', s' < 2 ^ m → InS y n s' → zbt ts s' = true → s ≤ s') → Q (zm3 o) H'
end Wd
set_option maxRecDepth 100000
set_option maxHeartbeats 4000000
namespace L2
open PySem PySem.Spec PyProof.Rows
section
variable {X : Cx}
theorem zpe (hu : X.A.units + 64 < cLine) : OpR X (compareOp .Eq) (fun x y H Q => ∃ (a b : Addr) (xs : List V), x = .ref a ∧ y = .ref b ∧ H a = some (.lst xs) ∧ H b = some (.lst []) ∧ Q (.bl (decide (xs = []))) H) := by
 intro pins s σ H x y v u Q I rx ry h
 obtain ⟨a, b, xs, rfl, rfl, ha, hb, q⟩ := h
 by_cases hx : xs = []
 ·subst hx
  refine ziw hu pins s σ H _ _ v u Q I rx ry ⟨a, b, [], [], rfl, rfl, SqL.of ha, SqL.of hb, ?_⟩
  exact q
 ·cases rx
  cases ry
  obtain ⟨its, n, r1, e1, _⟩ := I.lst ha
  obtain ⟨its2, n2, r2, e2, _⟩ := I.lst hb
  cases r2
  have hl := r1.length
  rw [decide_eq_false hx] at q
  refine PySem.P.eq_list_lengths e1 e2 ?_ (by omega) ⟨.bl false, H, I, rfl, q⟩
  cases its with
  | nil => cases r1; exact absurd rfl hx
  | cons c r => simp
end
end L2
namespace Wd
open PySem L2 Ow
theorem zun {K : PySem.W.Frag} {H : Hp} {pen a : Addr} {xs : List V} {o : HO} (h : SqL K H a xs) (hp : H pen = none) : ∀ H', SameX pen (L2.upd H pen o) H' → SqL K H' a xs := fun H' s => by
 have keep : ∀ u, H a = some u → KpX pen (L2.upd H pen o) H' a u := fun u e => s a u (zav e hp) (by rw [zao (zav e hp)]; exact e)
 rcases h with (h | ⟨u, h⟩) | h
 ·exact .inl (.inl (keep _ h))
 ·exact .inl (.inr ⟨u, keep _ h⟩)
 ·exact .inr h
theorem zsp {K : PySem.W.Frag} {H : Hp} {pen sp : Addr} {ns : List Int} (h : SqL K H sp (ns.map V.int)) (hl : ns.length ≤ 63) (hp : H pen = none) : Pen K (L2.upd H pen (.lst [.ref sp, .int 0])) pen sp ns 0 := ⟨zae, hl, zun h hp⟩
end Wd
set_option maxRecDepth 100000
set_option maxHeartbeats 4000000
namespace L2
open PySem PySem.Spec PyProof.Rows
def zs5 : Option Stmt → Expr
 | some (Stmt.Return (some e) _) => e
 | _ => .Constant .none 0 ⟨0, 0, 0, 0⟩
section
variable {X : Cx} {tg iter elt : Expr} {cs : List Expr} {sc sc0 : Scope} {pos : Pos} {wi : TI} {g : TG} {tc : TT} {te : TE} {XN N' : List Str} {n : Nat} {kp : List Nat}
theorem piL {K : PySem.W.Frag} {l : Expr} {tl : TE} (hl : PE X l tl) (h : X.K = K := by rfl) : PI X tg l (ztg K tl) := h ▸ ztf hl
theorem piT {K : PySem.W.Frag} {l : Expr} {tl : TE} (hl : PE X l tl) (h : X.K = K := by rfl) : PI X tg l (zu0 K tl) := h ▸ zuj hl
end
end L2
set_option maxRecDepth 100000
set_option maxHeartbeats 4000000
namespace Wd
open PySem L2 Ow
end Wd
set_option maxRecDepth 100000
set_option maxHeartbeats 4000000
namespace Wd
open PySem L2 Ow
theorem zqf (k : Nat) (op : List Nat) : inV (.int (k : Int)) (zb2 op) = decide (k ∈ op) := by
 induction op with
 | nil => rfl
 | cons a r ih =>
  have e : inV (.int (k : Int)) (zb2 (a :: r)) = (eqV (.int (a : Int)) (.int (k : Int)) || inV (.int (k : Int)) (zb2 r)) := rfl
  rw [e, ih]
  have e2 : eqV (.int (a : Int)) (.int (k : Int)) = decide (k = a) := by
   show ((a : Int) == (k : Int)) = _
   by_cases z : k = a
   ·subst z; simp
   ·rw [decide_eq_false z]
    simpa using fun h => z (by omega)
  rw [e2]
  simp [List.mem_cons, Bool.decide_or]
theorem zpm (op : List Nat) : (zb2 op).all zg6 = true := by
 rw [List.all_eq_true]
 intro x hx
 obtain ⟨i, _, rfl⟩ := List.mem_map.mp hx
 rfl
end Wd
set_option maxRecDepth 100000
set_option maxHeartbeats 4000000
namespace L2
open PySem PySem.Spec PyProof.Rows
def zm0 (f : Addr) (qual : Str) (params : Arguments) (body : Expr) (scope : Scope) (cl : List (Str × Addr)) (c : Addr) : Heap → Prop :=
 fun h => ∃ (pm ctv : Value), h.get? f = some (PySem.W.kla_obj "<lambda>" qual params body scope cl pm c ctv)
structure zgm (mg : Str → Option Value) (base : Heap) (c P : Addr) : Prop where
 code : PySem.W.CodeHd base c P
 blt : ∃ bm ob, mg "__builtins__" = some (.ref bm) ∧ bm ≠ builtinsNs ∧ base.get? bm = some ob ∧ ob.cls = .type "module" ∧ ob.dict = some builtinsNs ∧ ob.data = .plain
theorem zoe {P : Program} {w : World} {H : Hp} {h : Heap} {a : Addr} {φ : Heap → Prop} (hH : H a = some (.ext φ)) (ok : HOk P w H h) : φ h := (ok a _ hH).1
section
variable {X : Cx} {params : Arguments} {body : Expr} {scope : Scope} {pos : Pos} {c P : Addr}
theorem zq7 (hc : X.env.code = .ref c) (B : zgm X.mg X.base c P) (hdef : defaultsOf params X.env = ([], [])) (hfr : ∀ y ∈ scope.names, y.2 = .free → ∃ c, X.env.cells.lookup y.1 = some c) :
  PE X (.Lambda params body scope pos) (fun σ H Q => zed H P ∧ ∀ (f c' : Addr) (H1 : Hp), H f = none → Same H H1 →
   H1 f = some (.ext (zm0 f (X.env.qual ++ "<lambda>") params body scope (zfi scope X.env) c')) → H1 c' = some (.ext (zgc c')) → Q (.ref f) H1) := by
 intro pins s σ H Q I hq
 obtain ⟨⟨ps, hP, tr, hps⟩, q⟩ := hq
 refine PySem.W.kla_eval hdef ?_
 have hP' : s.heap.get? P = some (PySem.W.tabObj ps) := I.hok P _ hP
 have hg : s.heap.Ns mainGlobals X.mg := I.mod.glob.keeps I.bk
 have C : PySem.W.CodeHd s.heap c P := B.code.keeps I.bk
 have hgP : mainGlobals ≠ P := fun z => by
  obtain ⟨o, es, ep, e, hd, _⟩ := hg
  rw [z, hP'] at e; cases e; cases hd
 have hb : s.heap.BuiltinsAt X.mg P := by
  obtain ⟨bm, ob, b1, b2, b3, b4, b5, b6⟩ := B.blt
  have b3' := I.bk _ _ b3
  refine ⟨bm, ob, b1, b2, fun z => ?_, fun z => ?_, b3', b4, b5, b6⟩
  ·obtain ⟨o, es, ep, e, hd, _⟩ := hg
   rw [z, e] at b3'; cases b3'; rw [hd] at b6; cases b6
  ·rw [z, hP'] at b3'; cases b3'; cases b4
 have hcl : closureFor scope X.env = pure (zfi scope X.env) := zo6 hfr
 rcases hps pos with hnf | ⟨c', hf, hc'⟩
 ·refine PySem.W.kla_makeFunction hcl I.ok.glob hg hc C hP' tr hnf hgP hb fun c' ctv h' tk hx hge hlt hrec htb => ?_
  have szP : P < s.heap.objs.size := Heap.lt_size hP'
  have hcn : H c' = none := I.hok.fresh hge
  have hfn : H h'.objs.size = none := I.hok.fresh (Nat.le_trans hge (Nat.le_of_lt hlt))
  have cf : c' ≠ h'.objs.size := Nat.ne_of_lt hlt
  have cP : c' ≠ P := Nat.ne_of_gt (Nat.lt_of_lt_of_le szP hge)
  have fP : h'.objs.size ≠ P := Nat.ne_of_gt (Nat.lt_of_lt_of_le szP (Nat.le_trans hge (Nat.le_of_lt hlt)))
  have keep : ∀ b o, b ≠ P → s.heap.get? b = some o → (h'.push (PySem.W.kla_obj "<lambda>" (X.env.qual ++ "<lambda>") params body scope (zfi scope X.env) ((X.mg "__name__").getD .none) c' ctv)).get? b = some o := fun b o hb e => Heap.get?_push_of_some _ (hx b o hb e)
  obtain ⟨c2, oc, vs, t, e2, hoc, hd, hv⟩ := hrec
  cases e2
  let H1 : Hp := upd (upd (upd H P (.tbl (ps ++ #[rawInt pos.line, rawInt pos.col, .ref c']))) c' (.ext (zgc c'))) h'.objs.size (.ext (zm0 h'.objs.size (X.env.qual ++ "<lambda>") params body scope (zfi scope X.env) c'))
  have H1f : H1 h'.objs.size = some (.ext (zm0 h'.objs.size (X.env.qual ++ "<lambda>") params body scope (zfi scope X.env) c')) := zae
  have H1c : H1 c' = some (.ext (zgc c')) := by show upd _ _ _ c' = _; rw [zao cf, zae]
  have H1P : H1 P = some (.tbl (ps ++ #[rawInt pos.line, rawInt pos.col, .ref c'])) := by show upd _ _ _ P = _; rw [zao (Ne.symm fP), zao (Ne.symm cP), zae]
  have H1o : ∀ b, b ≠ h'.objs.size → b ≠ c' → b ≠ P → H1 b = H b := fun b n1 n2 n3 => by show upd _ _ _ b = _; rw [zao n1, zao n2, zao n3]
  have old : ∀ b u, H b = some u → b ≠ h'.objs.size ∧ b ≠ c' := fun b u e => ⟨zav e hfn, zav e hcn⟩
  have oldE : ∀ b, H b = some (.ext (zgc b)) → H1 b = some (.ext (zgc b)) := fun b e => by rw [H1o b (old b _ e).1 (old b _ e).2 (fun z => by rw [z, hP] at e; cases e)]; exact e
  have tabs : zed H1 P := ⟨_, H1P, by rw [Array.toList_append]; exact TriplesOk_snoc _ _ _ _ tr, fun p' => by
   rw [Array.toList_append]
   rcases ziy (pos := p') (pos' := pos) (c := .ref c') ps.toList tr with z | z
   ·rcases hps p' with y | ⟨d, y1, y2⟩
    ·exact .inl (z.trans y)
    ·exact .inr ⟨d, z.trans y1, oldE d y2⟩
   ·exact .inr ⟨c', z, H1c⟩⟩
  have same : Same H H1 := fun b o e => by
   by_cases hbP : b = P
   ·subst hbP
    rw [hP] at e
    cases e
    exact ⟨⟨_, H1P⟩, fun _ => tabs⟩
   ·exact Kp.of e (by rw [H1o b (old b _ e).1 (old b _ e).2 hbP]; exact e) oldE
  have un : Un X.fs [] H H1 s.heap (h'.push (PySem.W.kla_obj "<lambda>" (X.env.qual ++ "<lambda>") params body scope (zfi scope X.env) ((X.mg "__name__").getD .none) c' ctv)) := by
   have np : ∀ b, H b = none → b ≠ P := fun b n z => by rw [z, hP] at n; cases n
   refine ⟨fun b o e n _ _ => keep b o (np b n) e, fun b o e n _ _ => ⟨o.slots, keep b o (np b n) e⟩, fun b o e n _ => ?_, fun b o e _ => ?_, fun b xs e => ?_, fun b o u e => ?_, fun b qs e => ?_⟩
   ·have l := Heap.lt_size e
    rw [H1o b (Nat.ne_of_lt (Nat.lt_trans (Nat.lt_of_lt_of_le l hge) hlt)) (Nat.ne_of_lt (Nat.lt_of_lt_of_le l hge)) (np b n)]
    exact n
   ·by_cases hbP : b = P
    ·subst hbP
     exact ⟨_, Heap.get?_push_of_some _ htb⟩
    ·exact ⟨o, keep b o hbP e⟩
   ·rw [H1o b (old b _ e).1 (old b _ e).2 (fun z => by rw [z, hP] at e; cases e)]
    exact e
   ·rw [H1o b (old b _ e).1 (old b _ e).2 (fun z => by rw [z, hP] at e; cases e)]
    exact e
   ·by_cases hbP : b = P
    ·subst hbP
     rw [hP] at e
     cases e
     exact ⟨_, H1P⟩
    ·exact ⟨#[], by rw [H1o b (old b _ e).1 (old b _ e).2 hbP, e]; simp⟩
  have hok : HOk X.prog X.w H1 (h'.push (PySem.W.kla_obj "<lambda>" (X.env.qual ++ "<lambda>") params body scope (zfi scope X.env) ((X.mg "__name__").getD .none) c' ctv)) := fun b u e => by
   by_cases h1 : b = h'.objs.size
   ·subst h1
    rw [H1f] at e
    cases e
    exact ⟨⟨_, _, Heap.get?_push_size _ rfl⟩, ⟨_, Heap.get?_push_size _ rfl⟩, fun h1 h2 ⟨pm, cv, z⟩ k => ⟨pm, cv, k _ z⟩⟩
   ·by_cases h2 : b = c'
    ·subst h2
     rw [H1c] at e
     cases e
     exact ⟨⟨oc, vs, _, t, Heap.get?_push_of_some _ hoc, hd, hv⟩, ⟨_, Heap.get?_push_of_some _ hoc⟩, fun h1 h2 ⟨o, v, qq, tt, z1, z2, z3⟩ k => ⟨o, v, qq, tt, k _ z1, z2, z3⟩⟩
    ·by_cases h3 : b = P
     ·subst h3
      rw [H1P] at e
      cases e
      exact Heap.get?_push_of_some _ htb
     ·rw [H1o b h1 h2 h3] at e
      refine (I.hok b u e).stay (fun b' o' hb' e' => ?_) (fun b' e' => ?_) fun b' xs e' => ?_
      ·refine keep b' o' ?_ e'
       rcases hb' with z | z
       ·rw [z]; exact h3
       ·intro z2; rw [z2, hP] at z; cases z
      ·rw [H1o b' (old b' _ e').1 (old b' _ e').2 (fun z => by rw [z, hP] at e'; cases e')]; exact e'
      ·rw [H1o b' (old b' _ e').1 (old b' _ e').2 (fun z => by rw [z, hP] at e'; cases e')]; exact e'
  exact ⟨.ref h'.objs.size, H1, I.un un hok, rfl, q _ c' H1 hfn same H1f H1c⟩
 ·refine PySem.W.kla_makeFunctionHit hcl I.ok.glob hg hc C hP' tr hf hb fun ctv h' tk hk hsz => ?_
  have hfn : H h'.objs.size = none := I.hok.fresh hsz
  have keep : ∀ b o, s.heap.get? b = some o → (h'.push { cls := .type "function", data := .func (PySem.W.kla_fn "<lambda>" (X.env.qual ++ "<lambda>") params body scope (zfi scope X.env) ((X.mg "__name__").getD .none) (.ref c') ctv) }).get? b = some o := fun b o e => Heap.get?_push_of_some _ (hk b o e)
  have same : Same H (upd H h'.objs.size (.ext (zm0 h'.objs.size (X.env.qual ++ "<lambda>") params body scope (zfi scope X.env) c'))) := zg7 fun b u e => by rw [zao (zav e hfn)]; exact e
  refine ⟨.ref h'.objs.size, _, I.un (Un.laid keep hsz hfn) (I.hok.laid keep hsz ?_), rfl, q _ c' _ hfn same zae (same c' _ hc')⟩
  exact ⟨⟨_, _, Heap.get?_push_size _ rfl⟩, ⟨_, Heap.get?_push_size _ rfl⟩, fun h1 h2 ⟨pm, cv, z⟩ k => ⟨pm, cv, k _ z⟩⟩
end
def zdz (h : Heap) (H : Hp) (st : List Env) : Heap := PySem.W.hideAll h (trk h H ++ frs st)
section
variable {X : Cx} {pins : List (Addr × Obj)} {σ : St} {H : Hp} {s : Shared}
theorem zjh {h : Heap} {H : Hp} {st : List Env} {b : Addr} {o : Obj} (e : (zdz h H st).get? b = some o) : h.get? b = some o ∧ H b = none ∧ b ∉ frs st := by
 have e' : h.get? b = some o := PySem.W.of_hideAll _ e
 refine ⟨e', ?_, fun z => ?_⟩
 ·cases q : H b with
  | none => rfl
  | some x =>
   have hm : b ∈ trk h H := List.mem_filter.mpr ⟨List.mem_range.mpr (Heap.lt_size e'), by simp [q]⟩
   have z : (zdz h H st).get? b = none := PySem.W.hideAll_none _ (List.mem_append_left _ hm)
   rw [z] at e; cases e
 ·have y : (zdz h H st).get? b = none := PySem.W.hideAll_none _ (List.mem_append_right _ z)
  rw [y] at e; cases e
theorem zh3 {h : Heap} {H : Hp} {st : List Env} {b : Addr} {o : Obj} (e : h.get? b = some o) (n : H b = none) (hf : b ∉ frs st) : (zdz h H st).get? b = some o :=
 PySem.W.hideAll_get _ e fun hm => by
  rcases List.mem_append.mp hm with z | z
  ·have q : (H b).isSome = true := (List.mem_filter.mp z).2
   rw [n] at q; simp at q
  ·exact hf z
theorem Inv.noStk (I : Inv X pins σ H s) {b : Addr} {o : Obj} (e : X.base.get? b = some o) : b ∉ frs X.stack := fun hb => by
 have := (I.stack.mem hb).1
 rw [e] at this; cases this
theorem Inv.now (I : Inv X pins σ H s) : Env0 X.prog X.w X.K X.mg (zdz s.heap H X.stack) X.A X.stack s H := by
 have up : ∀ b o, X.base.get? b = some o → (zdz s.heap H X.stack).get? b = some o := fun b o e => zh3 (I.bs b o e).1 (I.bs b o e).2 (I.noStk e)
 obtain ⟨mb, h1, h2⟩ := I.mod.blt
 refine ⟨I.ok.frames, ⟨I.mod.kin.keeps up, I.mod.glob.keeps up, ⟨mb, h1.keeps up, h2⟩, I.mod.nolimit.keeps up⟩, fun b o e => ⟨(zjh e).1, (zjh e).2.1⟩, Nat.le_of_eq (PySem.W.hideAll_size _ _), ?_, I.stkFree, I.hok, I.bare⟩
 have go : ∀ l : List Env, (∀ b ∈ frs l, b ∈ frs X.stack) → s.heap.FunFrames X.base l → s.heap.FunFrames (zdz s.heap H X.stack) l := by
  intro l
  induction l with
  | nil => intro _ _; trivial
  | cons env r ih =>
   intro hs hl
   obtain ⟨hk, ⟨L, o, hf, hn, ho, hd⟩, hr⟩ := hl
   have hL : L ∈ frs X.stack := hs L (by unfold frs; rw [List.filterMap_cons, hf]; exact List.mem_cons_self)
   refine ⟨hk, ⟨L, o, hf, ?_, ho, hd⟩, ih (fun b hb => hs b (by unfold frs; rw [List.filterMap_cons, hf]; exact List.mem_cons_of_mem _ hb)) hr⟩
   exact PySem.W.hideAll_none _ (List.mem_append_right _ hL)
 exact go X.stack (fun _ h => h) I.stack
theorem Inv.nowCell (I : Inv X pins σ H s) {x : Str} {c : Addr} {v : Option Value} (hf : X.fn x = true) (hc : X.env.cells.lookup x = some c) (h : s.heap.IsCell c v) : (zdz s.heap H X.stack).IsCell c v := by
 obtain ⟨o, ho, hd⟩ := h
 refine ⟨o, zh3 ho (I.freeC x c hc) fun z => ?_, hd⟩
 rcases List.mem_cons.mp (I.stkSub c z) with e | e
 ·exact I.cne x c hc e
 ·obtain ⟨_, ob, e2, _⟩ := I.ok.funs.mem e
  exact absurd (Nat.lt_of_lt_of_le (Heap.lt_size e2) (I.ok.cab x c hf hc)) (Nat.lt_irrefl _)
end
section
variable {X : Cx} {k : Nat} {f : Addr} {fd : FuncData} {ps : List Str} {x : Str} {p pos : Pos} {e : Expr} {es : List Expr} {t : TA}
def zoz (X : Cx) (σ : St) (base : Heap) : Prop := ∀ (i : Nat) (y : Str) (v : V), X.N[i]? = some y → σ[i]? = some (some v) → X.env.kindOf y = some .cell → ∃ c u, X.env.cells.lookup y = some c ∧ RelV v u ∧ base.IsCell c (some u)
theorem zmm (hr : Room k X.A) (hg : Gl X x) (hm : X.mg x = some (.ref f)) (hk : PySem.W.keepIn X.K (.ref f) = true) (hb : Binds X.K fd ps []) (hfn : ∀ y, X.fn y = true)
  (ha : PA X (e :: es) t) (hdb : (x == ("__debug__" : Str)) = false := by decide) (he : starEach (e :: es) X.env = (false, eval e X.env) :: starEach es X.env := by rfl) (hpl : (backTo pos (starEach es X.env)).any (·.1) = false := by rfl) :
  PE X (.Call (.Name x p) (e :: es) [] pos) (fun σ H Q => t σ H fun vs H1 => ∀ base : Heap, zoz X σ base → X.K.In base → base.Ns mainGlobals X.mg → ∃ sp : Sp, zbd X.prog X.w X.K X.mg base CX0 k f fd ps sp ∧ sp vs H1 Q E0) := by
 intro pins s σ H Q I h
 refine wpAny_Call_Name_kw (zk0 I hg hm ?_ hdb)
 refine PySem.W.callWith_K (h₀ := X.base) I.ok.mod.kin hk (thn (ha pos pins s σ H _ I h) fun us s1 ⟨vs, H1, I1, r, q⟩ => ⟨I1.kIn, ?_⟩) he hpl
 have e0 := I1.now
 have ci : zoz X σ (zdz s1.heap H1 X.stack) := fun i y v hN hv hk => by
  obtain ⟨m, hn, hl⟩ := I1.loc
  obtain ⟨u, ru, l⟩ := hl i y v hN hv (.inr (.inl hk))
  rcases l with ⟨hk', _⟩ | ⟨_, c, hc, hcell⟩
  ·rw [hk] at hk'; cases hk'
  ·exact ⟨c, u, hc, ru, I1.nowCell (hfn y) hc hcell⟩
 obtain ⟨sp, F, hs⟩ := q _ ci e0.mod.kin e0.mod.glob
 have hl : us.length = ps.length := by rw [← r.length]; exact F.len _ _ _ _ hs
 have hbb := hb s1 us I1.kIn (by rw [List.append_nil]; exact hl)
 rw [List.append_nil] at hbb
 refine wpAny_call (codeAny_mono (F.run X.A X.stack s1 H1 ⟨us, []⟩ us vs Q E0 hr e0 hbb r hs) fun r s' hq => ?_)
 cases r with
 | error e => exact hq.elim
 | ok fl =>
  cases fl with
  | ret u => exact I1.after hq
  | next => exact False.elim hq
  | brk => exact False.elim hq
  | cont => exact False.elim hq
theorem zrq {i : Nat} {φ : Heap → Prop} {sp : Sp} (F : zbd X.prog X.w X.K X.mg X.base CX0 k f fd ps sp) (hr : Room k X.A) (hN : X.N[i]? = some x) (hv : Vis X.env.scope x) (hb : Binds X.K fd ps [])
  (hφ : ∀ h : Heap, φ h → ∃ o fd', h.get? f = some o ∧ o.data = .func fd') (ha : PA X (e :: es) t)
  (hdb : (x == ("__debug__" : Str)) = false := by decide) (hcd : (x == ("__classdict__" : Str)) = false := by decide) (he : starEach (e :: es) X.env = (false, eval e X.env) :: starEach es X.env := by rfl) (hpl : (backTo pos (starEach es X.env)).any (·.1) = false := by rfl) :
  PE X (.Call (.Name x p) (e :: es) [] pos) (fun σ H Q => σ[i]? = some (some (.ref f)) ∧ t σ H fun vs H1 => H1 f = some (.ext φ) ∧ sp vs H1 Q E0) := by
 intro pins s σ H Q I h
 obtain ⟨hσ, h⟩ := h
 refine wpAny_Call_Name_kw (wpAny_mono (zqu hN hv hdb hcd pins s σ H (fun v H' => v = .ref f ∧ H' = H) I ⟨_, hσ, rfl, rfl⟩) (fun u s1 hu => ?_) fun _ _ z => z)
 obtain ⟨v, H', I', rv, e1, e2⟩ := hu
 subst e1
 subst e2
 obtain rfl : u = Value.ref f := rv
 have h2 : wpAny (model X.prog X.w) X.A (spliced (backTo pos (starEach (e :: es) X.env))) (fun vs s₁ => (∃ o fd', s₁.heap.get? f = some o ∧ o.data = .func fd') ∧ wpAny (model X.prog X.w) X.A (call (.ref f) ([] ++ vs)) (EP X pins σ Q) X.xe s₁) X.xe s1 := by
  refine thn (ha pos pins s1 σ _ _ I' h) fun us s2 ⟨vs, H1, I1, r, e3, q⟩ => ⟨hφ _ (zoe e3 I1.hok), ?_⟩
  have hq := zls (ds := []) (dvs := []) (E := E0) F hr hb .nil zal I1 r (by rw [List.append_nil]; exact q)
  exact hq
 rw [he] at h2
 show wpAny _ _ (callWith pos (.ref f) [] (backTo pos (starEach (e :: es) X.env)) []) _ _ s1
 rw [he]
 refine PySem.W.callWith_of (by show ((false || (backTo pos (starEach es X.env)).any (·.1)) || false) = false; rw [hpl]; rfl) (P := fun h => ∃ o fd', h.get? f = some o ∧ o.data = .func fd') (fun h ⟨o, fd', e1, e2⟩ => ?_) (Calls.evalArgs_plain h2)
 obtain ⟨oc, od, od', os⟩ := o
 cases e2
 exact ⟨.frame, .inl rfl, (PySem.W.Looks.ld (part := none) e1).andThen .now⟩
end
structure zme (ps fr : List Str) (sc : Scope) : Prop where
 kind : sc.kind = .function
 co : sc.isCoroutine = false
 gen : sc.isGenerator = false
 nd : ps.Nodup
 par : ∀ x ∈ ps, sc.names.lookup x = some .local
 fre : ∀ x ∈ fr, sc.names.lookup x = some .free
 nocell : ∀ y ∈ sc.names, y.2 ≠ .cell
theorem zjr {ps : List Str} {us : List Value} {i : Nat} {x : Str} {u : Value} (nd : ps.Nodup) (h1 : ps[i]? = some x) (h2 : us[i]? = some u) : (ps.zip us).reverse.lookup x = some u := by
 have hm : (x, u) ∈ (ps.zip us).reverse := List.mem_reverse.mpr (List.mem_of_getElem? (i := i) (by rw [List.getElem?_zip_eq_some]; exact ⟨h1, h2⟩))
 obtain ⟨c, hc⟩ := zff hm
 have h3 := List.mem_reverse.mp (PySem.mem_of_lookup hc)
 obtain ⟨j, hj⟩ := List.getElem?_of_mem h3
 rw [List.getElem?_zip_eq_some] at hj
 have hij : j = i := by
  obtain ⟨l1, e1⟩ := List.getElem?_eq_some_iff.mp h1
  obtain ⟨l2, e2⟩ := List.getElem?_eq_some_iff.mp hj.1
  rw [List.nodup_iff_pairwise_ne, List.pairwise_iff_getElem] at nd
  rcases Nat.lt_trichotomy j i with z | z | z
  ·exact absurd (e2.trans e1.symm) (nd j i l2 l1 z)
  ·exact z
  ·exact absurd (e1.trans e2.symm) (nd i j l1 l2 z)
 rw [hij, h2] at hj
 rw [hc, hj.2]
def zqi (P : Program) (w : World) (K : PySem.W.Frag) (mg : Str → Option Value) (base : Heap) (N : List Str) (q : Str) (scope : Scope) (f c : Addr) (cl : List (Str × Addr)) (A : Around) (outer : List Env) (s : Shared) (H : Hp) : Cx where
 prog := P
 w := w
 K := K
 mg := mg
 base := base
 A := A.deeper (PySem.W.envX q scope s.heap.objs.size f (.ref c) cl)
 N := N
 s₀ := s
 H₀ := H
 env := PySem.W.envX q scope s.heap.objs.size f (.ref c) cl
 outer := outer
 stack := PySem.W.envX q scope s.heap.objs.size f (.ref c) cl :: outer
 ex := []
 calm := true
 fn := fun _ => false
 pn := []
 xe := fun _ _ => False
theorem zr0 {prog : Program} {w : World} {A : Around} {R : Result → Shared → Prop} {s : Shared} {a : Addr} {args : Args} {o : Obj} {fd : FuncData} {body : Expr} {q : Str} (hroom : A.depth < recursionLimit)
  (ho : s.heap.get? a = some o)
  (hd' : o.data = .func fd) (hco : fd.scope.isCoroutine = false) (hgen : fd.scope.isGenerator = false) (hbody : fd.body = .expr body) (hcd : ∃ c oc vs t, fd.code = .ref c ∧ s.heap.get? c = some oc ∧ oc.data = .fields vs ∧ vs[1]? = some (.str q t))
  (h : wpAny (model prog w) A.in1 (bindArgs fd args) (fun binds s₁ =>
   wpAny (model prog w) A.in1 (newFunctionEnv fd.scope fd.globals fd.closure binds (q ++ ".<locals>.") (some a) fd.code none fd.builtins)
    (fun env s₂ => s₂.heap.NoLimit ∧ codeAny (model prog w) A (.expr body env) R s₂) (fun e s' => R (.error e) s') s₁) (fun e s' => R (.error e) s') s) :
  codeAny (model prog w) A (.call (.ref a) args) R s := by
 refine codeAny_of_tree ?_
 show wpAny _ A.in1 (callAny (.ref a) args) _ _ s
 simp only [callAny]
 refine wpAny_bind (wpAny_load ho ?_)
 obtain ⟨c, oc, vs, tq, hc, hoc, hdc, hq⟩ := hcd
 simp only [hd', callFunction, hco, hgen, hbody, hc]
 rw [hc] at h
 refine wpAny_bind (m := field (.ref c) 1) (wpAny_field hoc hdc hq (wpAny_bind (wpAny_pure ?_)))
 exact wpAny_bind (wpAny_mono h (fun binds s₁ h₁ => wpAny_bind (wpAny_mono h₁ (fun env s₂ h₂ => wpAny_bind (wpAny_enterFrame h₂.1 hroom
  (wpAny_pure (And.intro rfl h₂.2)))) fun _ _ h' => h')) fun _ _ h' => h')
theorem zua {P : Program} {w : World} {K : PySem.W.Frag} {mg : Str → Option Value} {base : Heap} {f c : Addr} {qual : Str} {params : Arguments} {body : Expr} {scope : Scope} {cl : List (Str × Addr)} {ps fr : List Str} {fv : List V} {k : Nat} {sp : Sp}
  (S : zme ps fr scope) (hcl : ∀ x cc, cl.lookup x = some cc → ∃ v, base.IsCell cc v) (inj : ∀ x y cc, cl.lookup x = some cc → cl.lookup y = some cc → x = y) (has : ∀ y ∈ scope.names, y.2 = .free → ∃ cc, cl.lookup y.1 = some cc)
  (hfv : ∀ (i : Nat) (x : Str) (v : V), fr[i]? = some x → fv[i]? = some v → ∃ cc u, cl.lookup x = some cc ∧ RelV v u ∧ base.IsCell cc (some u)) (hlen : fv.length = fr.length)
  (hsame : ∀ pm ctv args, bindArgs (PySem.W.kla_fn "<lambda>" qual params body scope cl pm (.ref c) ctv) args = bindArgs (PySem.W.kla_fn "<lambda>" qual params body scope cl .none (.ref c) .none) args)
  (len : ∀ vs H Q E, sp vs H Q E → vs.length = ps.length)
  (lam : ∀ vs H Q E, sp vs H Q E → H f = some (.ext (zm0 f qual params body scope cl c)) ∧ H c = some (.ext (zgc c)))
  (hbody : ∀ (q : Str) (A : Around) (outer : List Env) (s : Shared) (H : Hp) (vs : List V) (Q : VK) (E : XK), Room k (A.deeper (PySem.W.envX q scope s.heap.objs.size f (.ref c) cl)) → sp vs H Q E →
   ∃ t, PE (zqi P w K mg base (ps ++ fr) q scope f c cl A outer s H) body t ∧ t (vs.map some ++ fv.map some) H Q) :
  zbd P w K mg base CX0 (k + 1) f (PySem.W.kla_fn "<lambda>" qual params body scope cl .none (.ref c) .none) ps sp := by
 refine ⟨len, fun A outer s H args us vs Q E hr e0 hb r hsp => ?_⟩
 have hl := len _ _ _ _ hsp
 obtain ⟨hf, hc⟩ := lam _ _ _ _ hsp
 obtain ⟨pm, ctv, ho⟩ := zoe hf e0.hok
 obtain ⟨oc, vsc, q, t, hoc, hdc, hqc⟩ := zoe hc e0.hok
 have lim : s.heap.NoLimit := e0.mod.nolimit.keeps fun b o e => (e0.bs b o e).1
 have toS : ∀ {cc v}, base.IsCell cc v → s.heap.IsCell cc v ∧ H cc = none := fun {cc v} ⟨o, e, d⟩ => ⟨⟨o, (e0.bs _ _ e).1, d⟩, (e0.bs _ _ e).2⟩
 refine zr0 hr.depth ho rfl S.co S.gen rfl ⟨c, oc, vsc, t, rfl, hoc, hdc, hqc⟩ ?_
 rw [hsame]
 refine hb _ _ _ _ ?_
 have hloc : ∀ y ∈ ps.zip us, scope.names.lookup y.1 = some .local := fun ⟨n, v⟩ hy => S.par n (List.of_mem_zip hy).1
 refine wpAny_newFunctionEnv S.nocell hloc (fun h₁ hns hsb => ?_) S.kind
 have hk₁ : ∀ b o, s.heap.get? b = some o → h₁.get? b = some o := fun b o e => hsb.extBut b o (Nat.ne_of_lt (Heap.lt_size e)) (Heap.get?_push_of_some _ e)
 refine ⟨lim.keeps hk₁, ?_⟩
 obtain ⟨tt, ht, hq⟩ := hbody q A outer s H vs Q E (hr.deeper _) hsp
 have noA : ∀ b : Addr, b ∉ ([] : List Addr) := fun b z => by simp at z
 have kinds : ∀ x, (scope.names.lookup x = some .cell ∨ scope.names.lookup x = some .free) → ∃ cc, cl.lookup x = some cc := fun x hx => by
  rcases hx with z | z
  ·exact absurd rfl (S.nocell _ (PySem.mem_of_lookup z))
  ·exact has _ (PySem.mem_of_lookup z) rfl
 have I : Inv (zqi P w K mg base (ps ++ fr) q scope f c cl A outer s H) [] (vs.map some ++ fv.map some) H { s with heap := h₁, toks := s.toks + (ps.zip us).length } := by
  refine ⟨⟨e0.mod, S.kind, rfl, rfl, Nat.le_refl _, inj, kinds, fun x cc z => (by cases z), fun _ => hr.hd, Around.frames_deeper e0.frames, .inr ⟨rfl, rfl⟩, fun b z => absurd z (noA b), e0.bs, e0.bsz, fun b _ _ => noA b, fun b z => absurd z (noA b), e0.funs, e0.frf⟩,
   rfl, e0.bare, Un.kept hk₁, ⟨_, hns, fun i x v h1 h2 h3 => ?_⟩, fun x cc e => ?_, e0.hok.fresh (Nat.le_refl _), fun x cc e => ?_, fun p hp => absurd (show p ∈ ([] : List (Addr × Obj)) from hp) (by simp), e0.hok.kept hk₁, ?_⟩
  ·have h1' : (ps ++ fr)[i]? = some x := h1
   by_cases hi : i < ps.length
   ·rw [List.getElem?_append_left hi] at h1'
    rw [List.getElem?_append_left (by rw [List.length_map, hl]; exact hi), List.getElem?_map] at h2
    obtain ⟨v', hv, e⟩ := Option.map_eq_some_iff.mp h2
    cases e
    obtain ⟨u, hu, rv⟩ := r.get hv
    exact ⟨u, rv, .inl ⟨S.par x (List.mem_of_getElem? h1'), zjr S.nd h1' hu⟩⟩
   ·rw [List.getElem?_append_right (by omega)] at h1'
    rw [List.getElem?_append_right (by rw [List.length_map, hl]; omega), List.getElem?_map, List.length_map, hl] at h2
    obtain ⟨v', hv, e⟩ := Option.map_eq_some_iff.mp h2
    cases e
    obtain ⟨cc, u, e1, ru, ic⟩ := hfv _ _ _ h1' hv
    exact ⟨u, ru, .inr ⟨.inr (S.fre x (List.mem_of_getElem? h1')), cc, e1, (toS ic).1.keeps hk₁⟩⟩
  ·obtain ⟨v, ic⟩ := hcl x cc e
   exact ⟨v, (toS ic).1.keeps hk₁⟩
  ·obtain ⟨v, ic⟩ := hcl x cc e
   exact (toS ic).2
  ·show (vs.map some ++ fv.map some).length = (ps ++ fr).length
   rw [List.length_append, List.length_append, List.length_map, List.length_map, hl, hlen]
 refine PySem.W.kla_codeExpr (wpAny_mono (ht [] _ _ H _ I hq) (fun u s' hs => ?_) fun e s' hs => hs.elim)
 obtain ⟨v, H', J, rv, qq⟩ := hs
 exact ⟨v, H', J.os, J.bare, J.base, J.hok, rv, qq⟩
theorem Fun.okC {P : Program} {w : World} {K : PySem.W.Frag} {mg : Str → Option Value} {base : Heap} {x qual : Str} {st : Stmt} {f : Addr} {fd : FuncData} {N ps : List Str} {k : Nat} {sp : Sp} (F : Fun K x qual st f fd) (S : zat N ps (zab st)) (len : ∀ vs H Q E, sp vs H Q E → vs.length = ps.length)
  (hbody : ∀ (cdv : Value) (A : Around) (outer : List Env) (s : Shared) (H : Hp) (vs : List V) (Q : VK) (E : XK), fd.code = cdv → Room k (A.deeper (envOfC qual (zab st) s.heap.objs.size f cdv)) → sp vs H Q E →
   ∃ t, PSs (zdh CX0 P w K mg base N qual (zab st) f cdv A outer s H E).nox (zah st) t ∧ t { nx := fun _ H' => Q .non H', rt := Q } (zgw N vs) H) : zbd P w K mg base CX0 (k + 1) f fd ps sp := by
 obtain ⟨oc, od, kV, doc, pm, an, cdv, ct, osl, rfl, lk, hcd⟩ := F.ex
 refine zto lk hcd S len fun A outer s H vs Q E hr hsp => ?_
 obtain ⟨t, h, q⟩ := hbody cdv A outer s H vs Q E rfl hr hsp
 exact ⟨t, h.nox, q⟩
theorem zp2 {P : Program} {w : World} {K : PySem.W.Frag} {mg mb : Str → Option Value} {k : Nat} {fa a : Addr} {fd : FuncData} {x : Str} {sp : Sp} {s₁ : Shared} {vs : List Value} {ns : List Int} {tabs : List (Addr × Addr)}
  (KX : K.In s₁.heap) (hns : s₁.heap.Ns mainGlobals mg) (hb : s₁.heap.Ns builtinsNs mb) (hbb : ∀ x : Str, x ≠ "__name__" → mb x = bootBuiltins x) (hlim : s₁.heap.NoLimit) (hg : s₁.gens = #[])
  (hT : PySem.W.TabsAt tabs s₁.heap) (hK0 : PySem.W.noTabs K = true)
  (hbm : ∃ bm ob, mg "__builtins__" = some (.ref bm) ∧ bm ≠ builtinsNs ∧ s₁.heap.get? bm = some ob ∧ ob.cls = .type "module" ∧ ob.dict = some builtinsNs ∧ ob.data = .plain)
  (ha : s₁.heap.get? a = some { cls := .type "list", data := .seq vs.toArray }) (hi : IntsAre vs ns) (hl : ns.length ≤ sizeLine) (hr : Room k callerA)
  (F : ∀ base : Heap, K.In base → base.Ns mainGlobals mg → (∀ q ∈ tabs, zgm mg base q.1 q.2) → zbd P w K mg base CX0 k fa fd [x] sp) (hbind : ∀ (s : Shared) (u : Value), BindsTo s fd ⟨[u], []⟩ [(x, u)])
  (hsp : ∀ H : Hp, (∀ q ∈ tabs, zed H q.2) → SqL K H a (ns.map V.int) → sp [.ref a] H (fun v _ => v = .bl true) fun _ _ _ => False) :
  codeAny (model P w) callerA (.call (.ref fa) ⟨[.ref a], []⟩) (fun r s' => r = .ok (.ret (.bool true)) ∧ OldK s₁.heap s'.heap ∧ s'.os = s₁.os ∧ AllBare s'.gens) s₁ := by
 have rv := zhq hi
 have lenV := hi.length
 have hPa : ∀ q ∈ tabs, q.2 ≠ a := fun q hq z => by
  have e := (hT q hq).2
  rw [z, ha] at e; cases e
 have hKP : ∀ q ∈ tabs, K.lookup q.2 = none := fun q hq => by
  cases e : K.lookup q.2 with
  | none => rfl
  | some o =>
   have e1 := KX _ _ e
   rw [(hT q hq).2] at e1
   cases e1
   have h2 := List.all_eq_true.mp hK0 (q.2, _) (PySem.W.mem_of_lookupK e)
   exact absurd (show false = true from h2) Bool.false_ne_true
 have core : ∀ H : Hp, (∀ b, H b = none ∨ (∃ o xs, H b = some (.frz o (.lst xs)) ∧ b = a ∧ K.lookup a = none) ∨ (H b = some (.tbl #[]) ∧ b ∈ tabs.map (·.2))) → (∀ q ∈ tabs, H q.2 = some (.tbl #[])) → SqL K H a (ns.map V.int) → HOk P w H s₁.heap →
   codeAny (model P w) callerA (.call (.ref fa) ⟨[.ref a], []⟩) (fun r s' => r = .ok (.ret (.bool true)) ∧ OldK s₁.heap s'.heap ∧ s'.os = s₁.os ∧ AllBare s'.gens) s₁ := by
  intro H hO hTb hS hok
  have noP : ∀ {b : Addr} {o : Obj}, s₁.heap.get? b = some o → o ≠ PySem.W.tabObj #[] → b ≠ a → H b = none := fun {b o} e hne hba => by
   rcases hO b with z | ⟨_, _, _, z, _⟩ | ⟨_, z⟩
   ·exact z
   ·exact absurd z hba
   ·obtain ⟨q, hq, rfl⟩ := List.mem_map.mp z
    rw [(hT q hq).2] at e
    exact absurd (Option.some.inj e).symm hne
  have base_of : ∀ {b : Addr} {o : Obj}, s₁.heap.get? b = some o → H b = none → (zj4 s₁.heap H).get? b = some o := fun e n => zrt e n
  have noA : ∀ {b : Addr} {o : Obj} {es : Array DictEntry} {ep : Nat}, s₁.heap.get? b = some o → o.data = .dict es ep → H b = none := fun {b o es ep} e d => by
   refine noP e (fun z => by rw [z] at d; cases d) fun z => ?_
   subst z
   rw [ha] at e; cases e; cases d
  have nsK : ∀ {b : Addr} {m : Str → Option Value}, s₁.heap.Ns b m → (zj4 s₁.heap H).Ns b m := fun {b m} ⟨o, es, ep, e, d, r⟩ => ⟨o, es, ep, base_of e (noA e d), d, r⟩
  have hKb : K.In (zj4 s₁.heap H) := fun b o e => base_of (KX b o e) (by
   rcases hO b with z | ⟨_, _, _, z, y⟩ | ⟨_, z⟩
   ·exact z
   ·rw [z, y] at e; cases e
   ·obtain ⟨q, hq, rfl⟩ := List.mem_map.mp z
    rw [hKP q hq] at e; cases e)
  have hM : Mod K mg (zj4 s₁.heap H) := ⟨hKb, nsK hns, ⟨mb, nsK hb, hbb⟩, let ⟨mc, h1, h2⟩ := hlim; ⟨mc, nsK h1, h2⟩⟩
  have hL : ∀ q ∈ tabs, zgm mg (zj4 s₁.heap H) q.1 q.2 := fun q hq => by
   refine ⟨?_, ?_⟩
   ·obtain ⟨o, ws, file, tf, flags, tg, inF, text, tt, e, e1, r⟩ := (hT q hq).1
    refine ⟨o, ws, file, tf, flags, tg, inF, text, tt, base_of e (noP e (fun z => by rw [z] at e1; cases e1) fun z => ?_), e1, r⟩
    rw [z, ha] at e; cases e; exact absurd e1 (by simp)
   ·obtain ⟨bm, ob, b1, b2, b3, b4, b5⟩ := hbm
    refine ⟨bm, ob, b1, b2, base_of b3 (noP b3 (fun z => by rw [z] at b4; cases b4) fun z => ?_), b4, b5⟩
    rw [z, ha] at b3; cases b3; exact absurd b4 (by simp)
  have e0 : Env0 P w K mg (zj4 s₁.heap H) callerA [] s₁ H := ⟨rfl, hM, fun b o e => zr5 e, Nat.le_of_eq (zp4 _ _), trivial, fun b hb => absurd (show b ∈ ([] : List Addr) from hb) (by simp), hok, .of_eq hg⟩
  have tk : ∀ q ∈ tabs, zed H q.2 := fun q hq => ⟨#[], hTb q hq, trivial, fun _ => .inl rfl⟩
  refine codeAny_mono ((F _ hKb (nsK hns) hL).run callerA [] s₁ H ⟨[.ref a], []⟩ [.ref a] [.ref a] _ _ hr e0 (hbind s₁ (.ref a)) (.cons rfl .nil) (hsp H tk hS)) fun r s' h => ?_
  cases r with
  | error e => exact h.elim
  | ok fl =>
   cases fl with
   | next => exact False.elim h
   | brk => exact False.elim h
   | cont => exact False.elim h
   | ret u =>
    obtain ⟨v, H', os, bare, un, hok', r', q⟩ := h
    have q' : v = .bl true := q
    subst q'
    obtain rfl : u = Value.bool true := r'
    have cases3 : ∀ b o, s₁.heap.get? b = some o → s'.heap.get? b = some o ∨ (∃ q ∈ tabs, b = q.2 ∧ ∃ ps, s'.heap.get? b = some (PySem.W.tabObj ps)) := fun b o e => by
     rcases hO b with z | ⟨ob, xs, z, _⟩ | ⟨z, y⟩
     ·exact .inl (un.keep b o e z (by intro z; exact absurd (show b ∈ ([] : List Addr) from z) (by simp)) (by simp))
     ·have z2 := un.frzs b ob _ z
      obtain ⟨e1, _⟩ := hok b _ z
      obtain ⟨e2, _⟩ := hok' b _ z2
      rw [e] at e1; cases e1
      exact .inl e2
     ·obtain ⟨q, hq, rfl⟩ := List.mem_map.mp y
      obtain ⟨more, z2⟩ := un.tbls _ _ z
      exact .inr ⟨q, hq, rfl, _, hok' _ _ z2⟩
    refine ⟨rfl, ⟨fun b o e => ?_, fun b o e => ?_⟩, os, bare⟩
    ·rcases cases3 b o e with z | ⟨q, hq, rfl, ps, z⟩
     ·exact .inl z
     ·have e2 := (hT q hq).2
      rw [e] at e2
      cases e2
      exact .inr (.inl ⟨((hT q hq).1.tab (hT q hq).2).isCodeTable, rfl, #[], ps, rfl, by rw [Array.empty_append]; exact z⟩)
    ·rcases cases3 b o e with z | ⟨q, hq, rfl, ps, z⟩
     ·exact ⟨_, z⟩
     ·exact ⟨_, z⟩
 have memT : ∀ b, b ∈ tabs.map (·.2) → s₁.heap.get? b = some (PySem.W.tabObj #[]) := fun b hb => by
  obtain ⟨q, hq, rfl⟩ := List.mem_map.mp hb
  exact (hT q hq).2
 cases hk : K.lookup a with
 | some o =>
  have e := KX a o hk
  rw [ha] at e
  cases e
  refine core (fun b => if b ∈ tabs.map (·.2) then some (.tbl #[]) else none) (fun b => ?_) (fun q hq => if_pos (List.mem_map_of_mem hq)) (.inr ⟨_, vs.toArray, _, hk, rfl, rfl, rfl, by rw [List.size_toArray, lenV]; exact hl, by simpa using rv⟩) (fun b u z => ?_)
  ·by_cases hb : b ∈ tabs.map (·.2)
   ·exact .inr (.inr ⟨if_pos hb, hb⟩)
   ·exact .inl (if_neg hb)
  ·by_cases hb : b ∈ tabs.map (·.2)
   ·have z' := (if_pos hb).symm.trans z
    cases z'
    exact memT b hb
   ·have z' := (if_neg hb).symm.trans z
    cases z'
 | none =>
  refine core (fun b => if b = a then some (.frz { cls := .type "list", data := .seq vs.toArray } (.lst (ns.map V.int))) else if b ∈ tabs.map (·.2) then some (.tbl #[]) else none) (fun b => ?_) (fun q hq => ?_) (.inl (.inr ⟨{ cls := .type "list", data := .seq vs.toArray }, if_pos rfl⟩)) (fun b u z => ?_)
  ·by_cases hb : b = a
   ·exact .inr (.inl ⟨_, _, if_pos hb, hb, hk⟩)
   ·by_cases hb2 : b ∈ tabs.map (·.2)
    ·exact .inr (.inr ⟨(if_neg hb).trans (if_pos hb2), hb2⟩)
    ·exact .inl ((if_neg hb).trans (if_neg hb2))
  ·exact (if_neg (hPa q hq)).trans (if_pos (List.mem_map_of_mem hq))
  ·by_cases hb : b = a
   ·have z' := (if_pos hb).symm.trans z
    cases z'
    subst hb
    exact ⟨ha, by rw [List.length_map]; exact hl, vs, _, rv, ha⟩
   ·have z1 := (if_neg hb).symm.trans z
    by_cases hb2 : b ∈ tabs.map (·.2)
    ·have z' := (if_pos hb2).symm.trans z1
     cases z'
     exact memT b hb2
    ·have z' := (if_neg hb2).symm.trans z1
     cases z'
theorem walk_ofT {l : PySem.W.OpenLaw} {n k : Nat} {q : Program} {loose : List Str} {XP : (Str → Option Value) → Heap → Prop} {YP : World → Heap → Prop} {d : DefRec} {K : Params → PySem.W.Frag} {sp : World → Sp} {x : Str} {tabs : World → List (Addr × Addr)}
  (hn : l.most = some n) (hn2 : n ≤ sizeLine) (hdf : d.params.defaults = []) (hr : Room k callerA)
  (hY : ∀ (w : World) (h : Heap), YP w h → (K w.params).In h) (hK0 : ∀ w : World, PySem.W.noTabs (K w.params) = true)
  (hT : ∀ (w : World) (h : Heap), YP w h → PySem.W.TabsAt (tabs w) h)
  (F : ∀ (w : World) (mg : Str → Option Value) (fa : Addr) (h : Heap), (K w.params).In h → h.Ns mainGlobals mg → mg d.name = some (.ref fa) →
   ∃ fd : FuncData, (∀ (s : Shared) (u : Value), BindsTo s fd ⟨[u], []⟩ [(x, u)]) ∧
    ∀ base : Heap, (K w.params).In base → base.Ns mainGlobals mg → (∀ p ∈ tabs w, zgm mg base p.1 p.2) → zbd l.prog w (K w.params) mg base CX0 k fa fd [x] (sp w))
  (hsp : ∀ (w : World) (H : Hp) (a : Addr) (ns : List Int), ns.length ≤ n → (∀ p ∈ tabs w, zed H p.2) → SqL (K w.params) H a (ns.map V.int) → sp w [.ref a] H (fun v _ => v = .bl true) fun _ _ _ => False) :
  PySem.W.WalkO q loose XP YP l.row.toRowW d [] (fun f vs => PySem.call f vs) := by
 refine Att.attach_call hn hdf fun w s₀ s₁ mg mb fa o pm cd doc a vs ns G Y ho hd hcd hmg hobj hints hlen hg => ?_
 have KX := hY w _ Y
 obtain ⟨fd, hb, hF⟩ := F w mg fa _ KX G.T.g hmg
 have hTT := hT w _ Y
 exact zp2 KX G.T.g G.T.b G.T.builtins G.T.nolimit hg hTT (hK0 w) G.T.bmain hobj hints (Nat.le_trans hlen hn2) hr hF hb fun H hO hS => hsp w H a ns hlen hO hS
def zik : Expr → Expr
 | .Call _ args _ _ => args.getLastD (.Constant .none 0 ⟨0, 0, 0, 0⟩)
 | e => e
def zg3 : Expr → Scope
 | .Lambda _ _ sc _ => sc
 | _ => { kind := .function, names := [], isGenerator := false, isCoroutine := false }
theorem zdi {x y : Str} {c cc : Addr} (h : [(y, c)].lookup x = some cc) : x = y ∧ cc = c := by
 have m := PySem.mem_of_lookup h
 rw [List.mem_singleton] at m
 cases m
 exact ⟨rfl, rfl⟩
end L2
set_option maxRecDepth 100000
set_option maxHeartbeats 4000000
namespace Wd
open PySem L2 Ow
theorem zvh {b : Bool} {A B : Prop} (hb : b = false) (h : B) : if b = true then A else B := by
 rw [if_neg (by rw [hb]; simp)]
 exact h
def spT (P0 : Addr) (sp : Sp) : Sp := fun vs H Q E => zed H P0 ∧ sp vs H Q E
def zei (ts : List Tie) (il : List Nat) (m : Nat) (leaf : Nat → Nat → Option PyData) : Nat → Nat → Nat → PyData
 | f, y, n => match zba ts il y n with
  | some t => .tuple [.str ("broken" : Str), .int (t : Int)]
  | none => match leaf y n with
   | some d => d
   | none => match zay m y n, f with
    | k :: _, f + 1 => .tuple [.str ("split" : Str), .int (k : Int), zei ts il m leaf f (y ||| 2 ^ k) n, zei ts il m leaf f y (n ||| 2 ^ k)]
    | _, _ => .tuple []
section
variable {ts : List Tie} {il : List Nat} {m f y n : Nat} {leaf : Nat → Nat → Option PyData}
theorem zhd {i : Nat} (hb : zba ts il y n = some i) : zei ts il m leaf f y n = .tuple [.str ("broken" : Str), .int (i : Int)] := by
 unfold zei
 simp [hb]
theorem zjd {d : PyData} (hb : zba ts il y n = none) (hl : leaf y n = some d) : zei ts il m leaf f y n = d := by
 unfold zei
 simp [hb, hl]
theorem zib {k : Nat} {r : List Nat} (hb : zba ts il y n = none) (hl : leaf y n = none) (ho : zay m y n = k :: r) : zei ts il m leaf (f + 1) y n = .tuple [.str ("split" : Str), .int (k : Int), zei ts il m leaf f (y ||| 2 ^ k) n, zei ts il m leaf f y (n ||| 2 ^ k)] := by
 conv => lhs; unfold zei
 simp only [hb, hl, ho]
end
def zg9 (leaf : Nat → Nat → Option PyData) (y n : Nat) (H : Hp) (v : V) : Prop := match leaf y n with
 | none => v = .non
 | some d => Dn H d v ∧ ∃ p, v = .ref p
def ztp (C : Hp → Prop) (leaf : Nat → Nat → Option PyData) : Sp := fun vs H Q _ => ∃ y n : Nat, vs = [.int y, .int n] ∧ C H ∧ ∀ (v : V) (H' : Hp), Same H H' → zg9 leaf y n H' v → Q v H'
def EndsR (ts : List Tie) (il : List Nat) (m : Nat) (leaf : Nat → Nat → Option PyData) (y n : Nat) : Prop := ∃ R : Nat → Nat → Prop, R y n ∧ (∀ y n k, R y n → k ∈ zay m y n → R (y ||| 2 ^ k) n ∧ R y (n ||| 2 ^ k)) ∧ ∀ y n, R y n → zba ts il y n = none → zay m y n = [] → leaf y n ≠ none
theorem EndsR.all {ts : List Tie} {il : List Nat} {m : Nat} {leaf : Nat → Nat → Option PyData} (h : ∀ y n, zba ts il y n = none → zay m y n = [] → leaf y n ≠ none) (y n : Nat) : EndsR ts il m leaf y n := ⟨fun _ _ => True, trivial, fun _ _ _ _ _ => ⟨trivial, trivial⟩, fun y n _ => h y n⟩
def zl2 (f : Nat) (p : Addr) (C : Hp → Prop) (m : Nat) (leaf : Nat → Nat → Option PyData) : Sp := fun vs H Q _ => ∃ (wd : Addr) (ts : List Tie) (tl : Addr) (il : List Nat) (y n : Nat), vs = [.ref wd, .ref tl, .int y, .int n, .ref p] ∧ WoodT H wd m ts ∧ H tl = some (.lst (zb2 il)) ∧ (∀ i ∈ il, i < ts.length) ∧ (zay m y n).length ≤ f ∧ C H ∧ EndsR ts il m leaf y n ∧ ∀ (v : V) (H' : Hp), Same H H' → Dn H' (zei ts il m leaf f y n) v → Q v H'
theorem zqo {P : Program} {w : World} {K : PySem.W.Frag} {mg : Str → Option Value} {base : Heap} {p c : Addr} {qual : Str} {params : Arguments} {body : Expr} {scope : Scope} {cl : List (Str × Addr)} {H1 : Hp} {ps fr : List Str} {fv : List V} {k : Nat} {leaf : Nat → Nat → Option PyData} (C0 : Hp → Prop)
  (hp : H1 p = some (.ext (zm0 p qual params body scope cl c)))
  (S : zme ps fr scope) (hcl : ∀ x cc, cl.lookup x = some cc → ∃ v, base.IsCell cc v) (inj : ∀ x y cc, cl.lookup x = some cc → cl.lookup y = some cc → x = y) (has : ∀ y ∈ scope.names, y.2 = .free → ∃ cc, cl.lookup y.1 = some cc)
  (hfv : ∀ (i : Nat) (x : Str) (v : V), fr[i]? = some x → fv[i]? = some v → ∃ cc u, cl.lookup x = some cc ∧ RelV v u ∧ base.IsCell cc (some u)) (hlen : fv.length = fr.length)
  (hsame : ∀ pm ctv args, bindArgs (PySem.W.kla_fn "<lambda>" qual params body scope cl pm (.ref c) ctv) args = bindArgs (PySem.W.kla_fn "<lambda>" qual params body scope cl .none (.ref c) .none) args)
  (len2 : ps.length = 2)
  (hbody : ∀ (q : Str) (A : Around) (outer : List Env) (s : Shared) (H : Hp) (y n : Nat) (Q : VK), Room k (A.deeper (PySem.W.envX q scope s.heap.objs.size p (.ref c) cl)) → C0 H → (∀ (v : V) (H' : Hp), Same H H' → zg9 leaf y n H' v → Q v H') →
   ∃ t, PE (zqi P w K mg base (ps ++ fr) q scope p c cl A outer s H) body t ∧ t ([some (.int y), some (.int n)] ++ fv.map some) H Q) :
  zbd P w K mg base CX0 (k + 1) p (PySem.W.kla_fn "<lambda>" qual params body scope cl .none (.ref c) .none) ps (ztp (fun H => C0 H ∧ H p = some (.ext (zm0 p qual params body scope cl c)) ∧ H c = some (.ext (zgc c))) leaf) := by
 refine zua S hcl inj has hfv hlen hsame (fun vs H Q E h => ?_) (fun vs H Q E h => ?_) (fun q A outer s H vs Q E hr h => ?_)
 ·obtain ⟨y, n, rfl, _⟩ := h
  exact len2.symm
 ·obtain ⟨y, n, rfl, ⟨_, h1, h2⟩, _⟩ := h
  exact ⟨h1, h2⟩
 ·obtain ⟨y, n, rfl, ⟨h0, _, _⟩, q'⟩ := h
  exact hbody q A outer s H y n Q hr h0 q'
theorem zow {p : Addr} {qual : Str} {params : Arguments} {body : Expr} {scope : Scope} {cl : List (Str × Addr)} {c : Addr} (h : Heap) (x : zm0 p qual params body scope cl c h) : ∃ o fd', h.get? p = some o ∧ o.data = .func fd' := by
 obtain ⟨pm, ctv, e⟩ := x
 exact ⟨_, _, e, rfl⟩
def zdu (m : Nat) (y n : Nat) : Option PyData := if zay m y n = [] then some (.tuple [.str ("ware" : Str)]) else none
theorem zgt {ts : List Tie} {il : List Nat} {m : Nat} : ∀ (f y n : Nat), (zay m y n).length ≤ f → zei ts il m (zdu m) f y n = (zb1 ts il m f y n).toD
 | f, y, n, hf => by
  cases hb : zba ts il y n with
  | some i => rw [zhd hb, zgb hb]; rfl
  | none =>
   cases ho : zay m y n with
   | nil => rw [zjd hb (by unfold zdu; rw [if_pos ho]), zic hb ho]; rfl
   | cons k r =>
    cases f with
    | zero => rw [ho] at hf; simp at hf
    | succ f =>
     have hk : k ∈ zay m y n := by rw [ho]; exact List.mem_cons_self
     have l1 := zdn hk
     have l2 := zdl hk
     rw [zib hb (by unfold zdu; rw [if_neg (by rw [ho]; simp)]) ho, zgv hb ho, zgt f _ _ (by omega), zgt f _ _ (by omega)]
     rfl
end Wd
set_option maxRecDepth 100000
set_option maxHeartbeats 4000000
namespace L2
open PySem PySem.Spec PyProof.Rows
section
variable {prog : Program} {w : World} {A : Around} {E : Value → Shared → Prop} {s : Shared}
end
end L2
namespace Wd
open PySem L2 Ow
end Wd
set_option maxRecDepth 100000
set_option maxHeartbeats 4000000
namespace Wd
open PySem L2 Ow
def zco (m : Nat) (ts : List Tie) : List Nat := (List.range (2 ^ m)).filter fun s => zbt ts s
theorem mem_wareL {m : Nat} {ts : List Tie} {s : Nat} : s ∈ zco m ts ↔ s < 2 ^ m ∧ zbt ts s = true := by
 unfold zco
 rw [List.mem_filter, List.mem_range]
theorem zna (m : Nat) (ts : List Tie) : (zco m ts).Pairwise (· < ·) := List.Pairwise.filter _ List.pairwise_lt_range
theorem zkh {m : Nat} {ts : List Tie} (m9 : m ≤ 9) : (zco m ts).length ≤ 512 := by
 have h1 : (zco m ts).length ≤ 2 ^ m := by
  have := List.length_filter_le (fun s => zbt ts s) (List.range (2 ^ m))
  rwa [List.length_range] at this
 exact Nat.le_trans h1 (Nat.pow_le_pow_right (by decide) m9 : 2 ^ m ≤ 2 ^ 9)
theorem zez {m : Nat} {ts : List Tie} {il : List Nat} (ok : ∀ t ∈ ts, t.Ok m) : ∀ (f y n : Nat), (zay m y n).length ≤ f → Stand m y n → ((zb1 ts il m f y n).leaves y).Nodup
 | f, y, n, hf, S => by
  cases hb : zba ts il y n with
  | some i => rw [zgb hb]; exact List.nodup_nil
  | none =>
   cases ho : zay m y n with
   | nil => rw [zic hb ho]; exact List.nodup_cons.mpr ⟨List.not_mem_nil, List.nodup_nil⟩
   | cons k r =>
    have hk : k ∈ zay m y n := by rw [ho]; exact List.mem_cons_self
    cases f with
    | zero => rw [ho] at hf; simp at hf
    | succ f =>
     have l1 := zdn hk
     have l2 := zdl hk
     rw [zgv hb ho]
     show ((zb1 ts il m f (y ||| 2 ^ k) n).leaves (y ||| 2 ^ k) ++ (zb1 ts il m f y (n ||| 2 ^ k)).leaves y).Nodup
     refine List.nodup_append.mpr ⟨zez ok f _ _ (by omega) (S.one hk), zez ok f _ _ (by omega) (S.other hk), fun a ha b hb' e => ?_⟩
     subst e
     have h1 := ((zd7 ok f _ _ (by omega) (S.one hk) a).mp ha).2.1.1 k (by rw [Nat.testBit_or, Nat.testBit_two_pow_self, Bool.or_true])
     have h2 := ((zd7 ok f _ _ (by omega) (S.other hk) a).mp hb').2.1.2 k (by rw [Nat.testBit_or, Nat.testBit_two_pow_self, Bool.or_true])
     rw [h1] at h2
     cases h2
theorem znu {m : Nat} (m1 : 1 ≤ m) : Stand m 1 0 := ⟨fun _ _ => Nat.zero_testBit _, Nat.lt_of_lt_of_le (by decide) (Nat.pow_le_pow_right (by decide) m1 : 2 ^ 1 ≤ 2 ^ m), Nat.two_pow_pos m⟩
theorem znq {m : Nat} {ts : List Tie} (ok : ∀ t ∈ ts, t.Ok m) (m1 : 1 ≤ m) (f : Nat) (hf : (zay m 1 0).length ≤ f) : ((zb1 ts (zf8 ts) m f 1 0).leaves 1).Perm (zco m ts) := by
 refine (List.perm_ext_iff_of_nodup (zez ok f 1 0 hf (znu m1)) ((zna m ts).imp fun h => Nat.ne_of_lt h)).mpr fun s => ?_
 rw [zd7 ok f 1 0 hf (znu m1), mem_wareL, zh7]
 unfold zbt
 rw [Bool.and_eq_true]
 constructor
 ·rintro ⟨h1, h2, h3⟩
  exact ⟨h1, h2.1 0 rfl, h3⟩
 ·rintro ⟨h1, h2, h3⟩
  refine ⟨h1, ⟨fun k hk => ?_, fun k hk => ?_⟩, h3⟩
  ·have : k = 0 := by
    rcases Nat.eq_zero_or_pos k with z | z
    ·exact z
    ·have e : (1 : Nat).testBit k = false := Nat.testBit_lt_two_pow (Nat.lt_of_lt_of_le (by decide : 1 < 2 ^ 1) (Nat.pow_le_pow_right (by decide) z))
     rw [e] at hk; cases hk
   rw [this]; exact h2
  ·rw [Nat.zero_testBit] at hk; cases hk
theorem zmk {ms : List Int} {L M : List Nat} (p : ms.Perm (L.map fun k : Nat => (k : Int))) (so : ms.Pairwise (· ≤ ·)) (q : L.Perm M) (pw : M.Pairwise (· < ·)) : ms = M.map fun k : Nat => (k : Int) := by
 refine List.Perm.eq_of_pairwise (le := (· ≤ ·)) (fun a b _ _ h1 h2 => Int.le_antisymm h1 h2) so ?_ (p.trans (q.map _))
 rw [List.pairwise_map]
 exact pw.imp fun h => by omega
def zs8 : Sp := fun vs H Q _ => ∃ (wd : Addr) (m : Nat) (ts : List Tie), vs = [.ref wd] ∧ WoodT H wd m ts ∧ 1 ≤ m ∧ m ≤ 9 ∧ ∀ (l : Addr) (H' : Hp), Same H H' → H l = none → H' l = some (.lst (zb2 (zco m ts))) → Q (.ref l) H'
theorem zko : ∀ {L M : List Nat}, (L.map fun k : Nat => (k : Int)) = (M.map fun k : Nat => (k : Int)) → L = M
 | [], [], _ => rfl
 | [], _ :: _, h => by cases h
 | _ :: _, [], h => by cases h
 | a :: L, b :: M, h => by
  rw [List.map_cons, List.map_cons] at h
  obtain ⟨h1, h2⟩ := List.cons.inj h
  rw [zko h2, Int.ofNat.inj h1]
end Wd
set_option maxRecDepth 100000
set_option maxHeartbeats 4000000
namespace Wd
open PySem L2 Ow
end Wd
set_option maxRecDepth 100000
set_option maxHeartbeats 4000000
namespace L2
open PySem PySem.Spec PyProof.Rows
end L2
set_option maxRecDepth 100000
set_option maxHeartbeats 4000000
namespace Wd
open PySem L2 Ow
end Wd
set_option maxRecDepth 100000
set_option maxHeartbeats 4000000
namespace L2
open PySem PySem.Spec PyProof.Rows
section
variable {X : Cx}
end
end L2
set_option maxRecDepth 100000
set_option maxHeartbeats 4000000
namespace Wd
open PySem L2 Ow
end Wd
namespace Wd
open PySem L2 Ow
end Wd
namespace Wd
open PySem L2 Ow
end Wd
set_option maxRecDepth 100000
set_option maxHeartbeats 4000000
namespace L2
open PySem PySem.Spec PyProof.Rows
section
variable {prog : Program} {w : World} {A : Around} {E : Value → Shared → Prop} {s : Shared}
theorem zkk {it l : Addr} {items : Array Value} (hne : l ≠ it) : ∀ (n i : Nat) (s : Shared) (Q : List Value → Shared → Prop), s.heap.IsListIter it l i → s.heap.IsList l items → i + n ≤ items.size →
  (∀ h' : Heap, h'.IsListIter it l (i + n) → Heap.SameBut it s.heap h' → Q ((items.toList.drop i).take n) { s with heap := h' }) → wpAny (model prog w) A (draw (.ref it) n) Q E s
 | 0, i, s, Q, hit, _, _, hQ => by
  show wpAny _ _ (pure []) Q E s
  exact wpAny_pure (by simpa using hQ s.heap hit (Heap.SameBut.refl ..))
 | n + 1, i, s, Q, hit, ht, hle, hQ => by
  have hlt : i < items.size := by omega
  show wpAny _ _ (pyNext (.ref it) >>= _) Q E s
  refine wpAny_bind (wpAny_pyNext_list_item hit ht (x := items[i]) (by simp [hlt]) fun h1 hit1 hs1 => ?_)
  refine wpAny_bind (wpAny_holding (zkk hne n (i + 1) _ _ hit1 (ht.extBut hs1.extBut hne) (by omega) fun h2 hit2 hs2 => wpAny_pure ?_))
  have hd : items.toList.drop i = items[i] :: items.toList.drop (i + 1) := by simp [List.drop_eq_getElem_cons, hlt]
  have := hQ h2 (by rw [show i + (n + 1) = i + 1 + n by omega]; exact hit2) (hs1.trans hs2)
  rw [hd, List.take_succ_cons] at this
  exact this
theorem zmu {l : Addr} {items : Array Value} {targets : List (Bool × (Value → Sem Unit))} {Q : Unit → Shared → Prop} (hh : A.handled = none) (ht : s.heap.IsList l items)
  (hn : targets.length = items.size) (hstar : targets.findIdx? (·.1) = none)
  (h : ∀ h', Heap.ExtBut s.heap.objs.size s.heap h' → wpAny (model prog w) A (assignInOrder (targets.map (·.2)) items.toList) Q E { s with heap := h' }) :
  wpAny (model prog w) A (unpack (.ref l) targets) Q E s := by
 unfold unpack
 rw [hn, hstar]
 refine wpAny_bind (wpAny_holding ?_)
 have hlt : l ≠ s.heap.objs.size := by obtain ⟨o, ho, _⟩ := ht; exact Nat.ne_of_lt (Heap.lt_size ho)
 have hT : s.TypeIs (.ref l) "list" := by obtain ⟨o, ho, hc, _⟩ := ht; exact ⟨o, ho, hc⟩
 unfold unpackItems
 refine wpAny_bind ?_
 unfold notIterableAtAll
 refine wpAny_bind (wpAny_specialOf hT F.slot_list_iter.lookup ?_)
 refine wpAny_pure ?_
 simp only [Bool.false_eq_true, if_false]
 refine wpAny_bind (wpAny_holding (wpAny_pyIter_list ht ?_))
 refine wpAny_bind (wpAny_holding (zkk hlt items.size 0 _ _ ⟨_, Heap.get?_push_size _ rfl, rfl, rfl⟩ (ht.push _) (by omega) fun h1 hit1 hs1 => ?_))
 have hall : List.take items.size (List.drop 0 items.toList) = items.toList := by
  rw [List.drop_zero]; exact List.take_of_length_le (by simp)
 rw [hall]
 rw [if_neg (by simp)]
 have ht1 : h1.IsList l items := (ht.push _).extBut hs1.extBut hlt
 refine wpAny_bind (wpAny_holding (wpAny_pyNext_list_end hh hit1 ht1 (by simp) fun h2 he2 => ?_))
 simp only [Option.isSome_none, Bool.false_eq_true, if_false]
 exact wpAny_pure (h h2 fun b o hb e => he2 b o hb (hs1.extBut b o hb (Heap.get?_push_of_some _ e)))
end
section
variable {X : Cx} {pos : Pos}
def zwc (K : PySem.W.Frag) (n : Nat) (t : TGs) : TG := fun v σ H Q => ∃ a xs, v = .ref a ∧ SqL K H a xs ∧ xs.length = n ∧ t xs σ H Q
theorem ztw {K : PySem.W.Frag} {es : List Expr} {k : Nat} {t : TGs} {n : Nat} (hc : X.calm = true) (h : PGs X es t)
  (hn : (assignEach es X.env).length = n := by rfl) (hst : (assignEach es X.env).findIdx? (·.1) = none := by rfl) (hK : X.K = K := by rfl) : PG X (.Tuple es k pos) (zwc K n t) := by
 subst hK
 intro pins s σ H v u Q I r hw
 obtain ⟨a, xs, e1, hq, hl, hw⟩ := hw
 subst e1
 cases r
 obtain ⟨its, rv, ht, hz⟩ := I.list hq
 rw [assign_Tuple]
 refine wpAny_bind (wpAny_standAt (zmu (I.ok.hd hc) ht.isList (by simp [hn, ← hl, rv.length]) hst fun h' hx => ?_))
 have I1 : Inv X pins σ H { s with heap := h' } := I.kept (t' := s.toks) fun b o e => hx b o (Nat.ne_of_lt (Heap.lt_size e)) e
 exact h pins _ σ H xs _ Q I1 (by simpa using rv) hw
end
section
variable {X : Cx}
def zsh : V → List V → Hp → VK → Prop := fun x vs H Q => ∃ (l : Addr) (xs : List V) (i : Int) (y : V), x = .ref l ∧ vs = [.int i, y] ∧ H l = some (.lst xs) ∧ 0 ≤ i ∧ i ≤ xs.length ∧ xs.length < sizeLine ∧ Q .non (upd H l (.lst (xs.take i.toNat ++ y :: xs.drop i.toNat)))
theorem zpw : MtM X "list.insert" zsh := by
 intro pins s σ H x vs v us Q I rx rv h
 obtain ⟨l, xs, i, y, rfl, rfl, hH, h0, hk, hz, q⟩ := h
 cases rx
 obtain ⟨u1, us1, rfl, r1, rr⟩ : ∃ u1 us1, us = u1 :: us1 ∧ RelV (.int i) u1 ∧ Vals [y] us1 := by
  cases rv with
  | cons a b => exact ⟨_, _, rfl, a, b⟩
 obtain ⟨u2, rfl, ru⟩ := rr.one
 obtain ⟨t, rfl⟩ := r1
 obtain ⟨z, its, n, r, hl, e⟩ := I.lstM hH
 have hsz : its.toArray.size ≤ sizeLine := by rw [List.size_toArray, ← hl]; exact z
 have b1 : -(2 ^ 63) ≤ i := Int.le_trans (by decide) h0
 have b2 : i < 2 ^ 63 := by
  have h63 : ((xs.length : Nat) : Int) < ((2 ^ 63 : Nat) : Int) := Int.ofNat_lt.mpr (Nat.lt_of_le_of_lt z zjp)
  exact Int.lt_of_le_of_lt hk h63
 have fit : ¬ (!Builtin.List.listFitsIndex i) = true := by
  rw [fitsIndex_both b1 b2]
  exact Bool.false_ne_true
 refine call_meets F.slot_list_insert ⟨_, e, rfl⟩ F.entry_list_insert (F.args_list_insert_3 _ _ _) (AutoListH.list_insert_list_int_val_1 l its.toArray n i t u2 fit hsz) ⟨e, ?_⟩
 have r2 : Vals (xs.take i.toNat ++ y :: xs.drop i.toNat) (its.take i.toNat ++ u2 :: its.drop i.toNat) := (r.take i.toNat).append (.cons ru (r.drop i.toNat))
 refine ⟨.non, _, I.lset (its' := its.take i.toNat ++ u2 :: its.drop i.toNat) hH e ?_ r2 ?_, rfl, q⟩
 ·have hn : ¬ (i < 0) := Int.not_lt.mpr h0
  have hm : i.toNat ≤ its.length := by omega
  simp [hn, Nat.min_eq_left hm]
  exact List.take_of_length_le (by rw [List.length_drop]; exact Nat.le_refl _)
 ·rw [List.length_append, List.length_cons, List.length_take, List.length_drop]
  omega
end
end L2
set_option maxRecDepth 100000
set_option maxHeartbeats 4000000
namespace Wd
open PySem L2 Ow
def zr7 (l : List Stmt) : List (Nat × Bool) → List Stmt
 | [] => l
 | (i, e) :: p => match l[i]? with
  | some (Stmt.For _ _ b _ _) => zr7 b p
  | some (Stmt.If _ b o _) => zr7 (if e then o else b) p
  | _ => []
def zs3 (K : PySem.W.Frag) : Sp := fun vs H Q _ => ∃ (pen sp : Addr) (ns : List Int) (k : Int), vs = [.ref pen] ∧ Pen K H pen sp ns k ∧ 0 ≤ k ∧ k ≤ 900000 ∧ ∀ (m : Nat) (k' : Int) (H' : Hp), SameX pen H H' → H' pen = some (.lst [.ref sp, .int k']) → k ≤ k' → k' ≤ k + 2 → 1 ≤ m → m ≤ 9 → Q (.int (m : Int)) H'
def zpb (K : PySem.W.Frag) : Sp := fun vs H Q _ => ∃ (pen sp : Addr) (ns : List Int) (m : Nat) (k : Int), vs = [.ref pen, .int (m : Int)] ∧ Pen K H pen sp ns k ∧ 0 ≤ k ∧ k ≤ 900000 ∧ 1 ≤ m ∧ m ≤ 9 ∧
 ∀ (l : Addr) (bs : List PyData) (xs : List V) (k' : Int) (H' : Hp), SameX pen H H' → H' pen = some (.lst [.ref sp, .int k']) → k ≤ k' → k' ≤ k + 80 → H' l = some (.lst xs) → H l = none → DnL H' bs xs → GoodB m bs → bs.length ≤ 8 → bs.all (zbs 3) = true → Q (.ref l) H'
def znz (K : PySem.W.Frag) : Sp := fun vs H Q _ => ∃ (pen sp : Addr) (ns : List Int) (m : Nat) (most : Int) (k : Int), vs = [.ref pen, .int (m : Int), .int most] ∧ Pen K H pen sp ns k ∧ 0 ≤ k ∧ k ≤ 900000 ∧ 1 ≤ m ∧ m ≤ 9 ∧ 0 ≤ most ∧ most ≤ 8 ∧
 ∀ (l : Addr) (cs : List PyData) (xs : List V) (k' : Int) (H' : Hp), SameX pen H H' → H' pen = some (.lst [.ref sp, .int k']) → k ≤ k' → k' ≤ k + 210 → H' l = some (.lst xs) → H l = none → DnL H' cs xs → (∀ c ∈ cs, zgd m c = true) → (cs.length : Int) ≤ most → cs.all (zbs 3) = true → Q (.ref l) H'
end Wd
set_option maxRecDepth 100000
set_option maxHeartbeats 4000000
namespace Wd
open PySem L2 Ow
theorem _root_.Ow.GAt.ins {H0 H : Hp} {g l t : Addr} {pre post : List Grp} {u k : Int} (G : GAt H0 H g (pre ++ post)) (hf : H0 l = none) (hl : H l = none) (ht : upd H l (.lst [.int k]) t = none) :
  GAt H0 (upd (upd (upd H l (.lst [.int k])) t (.tup [.int u, .ref l])) g (.lst ((pre.map fun x => V.ref x.t) ++ V.ref t :: (post.map fun x => V.ref x.t)))) g (pre ++ ⟨t, u, l, [k]⟩ :: post) := by
 have A := GAt.add2 (u := u) (k := k) G hf hl ht
 have mem : ∀ x, x ∈ pre ++ ⟨t, u, l, [k]⟩ :: post ↔ x ∈ (pre ++ post) ++ [⟨t, u, l, [k]⟩] := fun x => by
  simp only [List.mem_append, List.mem_cons, List.not_mem_nil, or_false]
  constructor
  ·rintro (h | h | h)
   ·exact .inl (.inl h)
   ·exact .inr h
   ·exact .inl (.inr h)
  ·rintro ((h | h) | h)
   ·exact .inl h
   ·exact .inr (.inr h)
   ·exact .inr (.inl h)
 have other : ∀ (o o' : HO) (b : Addr), b ≠ g → (upd (upd (upd H l (.lst [.int k])) t (.tup [.int u, .ref l])) g o) b = (upd (upd (upd H l (.lst [.int k])) t (.tup [.int u, .ref l])) g o') b := fun o o' b n => by rw [zao n, zao n]
 refine ⟨?_, A.new, fun x hx => ?_, fun x hx => ?_, ?_⟩
 ·rw [zae, List.map_append]
  rfl
 ·have h := A.tup x ((mem x).mp hx)
  have n : x.t ≠ g := fun z => by rw [z, zae] at h; cases h
  rw [other _ _ _ n]
  exact h
 ·have h := A.lst x ((mem x).mp hx)
  refine ⟨?_, h.2⟩
  rw [other _ _ _ (Ne.symm h.2.2)]
  exact h.1
 ·have p : (pre ++ (⟨t, u, l, [k]⟩ : Grp) :: post).Perm ((pre ++ post) ++ [⟨t, u, l, [k]⟩]) := by
   rw [List.append_assoc]
   exact List.Perm.append_left _ (List.perm_append_singleton _ _).symm
  exact ((p.map (·.l)).nodup_iff).mpr A.nd
theorem _root_.Ow.GOk.ins {k : Nat} {pre post : List Grp} {t l : Addr} {u : Int} (G : GOk ((k : Int) + 1) (pre ++ post)) (u0 : 0 ≤ u) (u1 : u < (k : Int) + 1) : GOk ((k : Int) + 2) (pre ++ ⟨t, u, l, [(k : Int) + 1]⟩ :: post) := by
 have A := GOk.new (t := t) (l := l) G u0 u1
 have p : (pre ++ (⟨t, u, l, [(k : Int) + 1]⟩ : Grp) :: post).Perm ((pre ++ post) ++ [⟨t, u, l, [(k : Int) + 1]⟩]) := by
  rw [List.append_assoc]
  exact List.Perm.append_left _ (List.perm_append_singleton _ _).symm
 exact ⟨fun x hx => A.each x (p.mem_iff.mp hx), (List.Perm.flatMap_right _ p).trans A.perm⟩
def zn1 (x : Grp) : PyData := .tuple [.int x.up, .list (x.kids.map PyData.int)]
theorem zmx : ∀ ks : List Int, PyData.canLayAll0 (ks.map PyData.int) = true ∧ PyData.depthAll (ks.map PyData.int) ≤ 1
 | [] => ⟨by simp [PyData.canLayAll0], by simp [PyData.depthAll]⟩
 | k :: ks => by
  have h := zmx ks
  refine ⟨by simp [PyData.canLayAll0, PyData.canLay0, h.1], ?_⟩
  simp only [List.map_cons, PyData.depthAll, PyData.depth]
  omega
theorem zm9 : ∀ gs : List Grp, PyData.canLayAll0 (gs.map zn1) = true ∧ PyData.depthAll (gs.map zn1) ≤ 5
 | [] => ⟨by simp [PyData.canLayAll0], by simp [PyData.depthAll]⟩
 | x :: gs => by
  have h := zm9 gs
  have hx := zmx x.kids
  refine ⟨by simp [zn1, PyData.canLayAll0, PyData.canLay0, h.1, hx.1], ?_⟩
  simp only [List.map_cons, zn1, PyData.depthAll, PyData.depth]
  omega
theorem zmc (gs : List Grp) : SeqAt.shaped (.list (gs.map zn1)) = true := by
 have h := zm9 gs
 unfold SeqAt.shaped
 rw [Bool.and_eq_true]
 refine ⟨by simp [PyData.canLay0, h.1], decide_eq_true ?_⟩
 simp only [PyData.depth]
 omega
theorem zom : SeqAt.shaped (.list []) = true := by decide
theorem zs2 : ∀ ds : List PyData, PyData.eqv (.list ds) (.list []) = decide (ds = [])
 | [] => by simp [PyData.eqv, PyData.eqvAll]
 | d :: ds => by simp [PyData.eqv, PyData.eqvAll]
theorem zo7 {H : Hp} : ∀ ks : List Int, DnL H (ks.map PyData.int) (ks.map V.int)
 | [] => rfl
 | k :: ks => ⟨_, _, rfl, rfl, zo7 ks⟩
theorem zoq {H0 H : Hp} {g : Addr} {gs : List Grp} (G : GAt H0 H g gs) : ∀ l : List Grp, (∀ x ∈ l, x ∈ gs) → DnL H (l.map zn1) (l.map fun x => V.ref x.t)
 | [], _ => rfl
 | x :: l, h => by
  have hx := h x List.mem_cons_self
  exact ⟨_, _, rfl, ⟨x.t, _, rfl, G.tup x hx, _, _, rfl, rfl, _, _, rfl, ⟨x.l, _, rfl, (G.lst x hx).1, zo7 x.kids⟩, rfl⟩, zoq G l fun y hy => h y (List.mem_cons_of_mem _ hy)⟩
end Wd
set_option maxRecDepth 100000
set_option maxHeartbeats 4000000
namespace HT
open PySem PySem.Spec PyProof.Rows
section
variable {prog : Program} {w : World} {A : Around} {E : Value → Shared → Prop} {s : Shared}
theorem tup_whole {t sl : Addr} {items : Array Value} {vl vu : Value} {lo hi : Option Int} {Q : Value → Shared → Prop} (ht : IsTup s.heap t items) (hs : s.heap.IsSliceOf sl vl vu .none) (pl : IsPart vl lo) (pu : IsPart vu hi)
  (h0 : sIx items.size 0 lo = 0) (h1 : sIx items.size items.size hi = items.size) (h : Q (.ref t) s) : wpAny (model prog w) A (getItem (.ref t) (.ref sl)) Q E s := by
 obtain ⟨os, hos, hcs, hds⟩ := id hs
 have hTs : s.TypeIs (.ref sl) "slice" := ⟨os, hos, hcs⟩
 unfold getItem
 refine wpAny_holding ?_
 refine wpAny_bind (wpAny_sequenceKey ht.typeIs (by decide) ?_)
 refine wpAny_bind (wpAny_callSpecial?_slot (name := Str.ofString "__getitem__") ht.typeIs PyProof.Rows.slot_tuple_getitem (wpAny_call_entry PyProof.Rows.slot_tuple_getitem ht.typeIs entry_tuple_getitem ?_ (args_tuple_getitem _ _)))
 show wpAny _ _ (Builtin.Tuple.tupleItemsOf (.ref t) >>= _) _ _ s
 refine wpAny_bind (tupleItemsOf_ ht ?_)
 refine wpAny_bind (wpAny_typeOf hTs ?_)
 rw [if_pos (by decide)]
 refine wpAny_bind (zem hs pl pu ?_)
 have hyes : (((sIx items.size 0 lo : Nat) : Int) == 0 && (1 : Int) == 1 && (sIx items.size items.size hi - sIx items.size 0 lo) == items.size) = true := by
  rw [h0, h1, Nat.sub_zero]
  simp
 show wpAny _ _ (if (((sIx items.size 0 lo : Nat) : Int) == 0 && (1 : Int) == 1 && (sIx items.size items.size hi - sIx items.size 0 lo) == items.size) = true then _ else _) _ _ s
 rw [if_pos hyes]
 refine wpAny_bind (wpAny_bind (wpAny_typeOf ht.typeIs (wpAny_pure ?_)))
 show wpAny _ _ (if (Value.type "tuple" == Value.type "tuple") = true then _ else _) _ _ s
 rw [if_pos (by decide)]
 refine wpAny_bind (wpAny_rule ?_)
 exact wpAny_pure ⟨_, rfl, wpAny_pure h⟩
end
end HT
namespace HT
open PySem PySem.Spec PyProof.Rows
theorem zre (xs : Array Value) : ((List.range xs.size).filterMap fun (m : Nat) => xs[(((xs.size : Int) - 1) + (m : Int) * (-1)).toNat]?).toArray = xs.toList.reverse.toArray := by
 congr 1
 have e : ∀ n : Nat, n ≤ xs.size → (List.range n).filterMap (fun (m : Nat) => xs[(((xs.size : Int) - 1) + (m : Int) * (-1)).toNat]?) = xs.toList.reverse.take n := by
  intro n
  induction n with
  | zero => intro _; rfl
  | succ n ih =>
   intro h
   have e1 : (((xs.size : Int) - 1) + (n : Int) * (-1)).toNat = xs.size - 1 - n := by omega
   have e2 : xs.toList.reverse[n]? = some xs[xs.size - 1 - n] := by
    rw [List.getElem?_reverse (by rw [Array.length_toList]; exact h)]
    simp only [Array.length_toList]
    rw [Array.getElem?_toList, Array.getElem?_eq_getElem (by omega)]
   rw [List.range_succ, List.filterMap_append, ih (by omega), List.take_add_one, e2, Option.toList_some]
   congr 1
   simp only [List.filterMap_cons, List.filterMap_nil, e1]
   rw [Array.getElem?_eq_getElem (by omega)]
 rw [e xs.size (Nat.le_refl _), List.take_of_length_le (by simp)]
section
variable {prog : Program} {w : World} {A : Around} {E : Value → Shared → Prop} {s : Shared}
theorem zht {sl : Addr} {t : Tok} {n : Nat} {Q : Int × Int × Nat → Shared → Prop} (hs : s.heap.IsSliceOf sl .none .none (.int (-1) t))
  (h : Q ((n : Int) - 1, -1, n) s) : wpAny (model prog w) A (Builtin.Slice.sliceApplied (.ref sl) (pure (n : Int))) Q E s := by
 obtain ⟨os, hos, hcs, hds⟩ := id hs
 unfold Builtin.Slice.sliceApplied Builtin.Slice.sliceFields
 refine wpAny_bind (wpAny_bind (wpAny_field hos hds (x := .none) rfl (wpAny_bind (wpAny_field hos hds (x := .none) rfl (wpAny_bind (wpAny_field hos hds (x := .int (-1) t) rfl (wpAny_pure ?_)))))))
 refine wpAny_bind (zd9 (.int (-1) t) ?_)
 show wpAny _ _ (if ((-1 : Int) == 0) = true then _ else _) _ _ s
 rw [if_neg (by decide)]
 refine wpAny_bind (zd9 .none (wpAny_bind (zd9 .none (wpAny_bind (wpAny_pure ?_)))))
 show wpAny _ _ (pure ((n : Int) - 1, (-1 : Int), Builtin.Slice.slicePlaces ((n : Int) - 1) (-1) (-1))) _ _ s
 have e : Builtin.Slice.slicePlaces ((n : Int) - 1) (-1) (-1) = n := by
  unfold Builtin.Slice.slicePlaces
  rw [if_neg (by decide)]
  by_cases z : (n : Int) - 1 > -1
  ·rw [if_pos z, show -(-1 : Int) = 1 from rfl, Int.ediv_one]
   omega
  ·rw [if_neg z]
   omega
 rw [e]
 exact wpAny_pure h
theorem tup_rev {t sl : Addr} {items : Array Value} {u : Tok} {Q : Value → Shared → Prop} (ht : IsTup s.heap t items) (hs : s.heap.IsSliceOf sl .none .none (.int (-1) u)) (hsz : items.size ≤ sizeLine)
  (h : Q (.ref s.heap.objs.size) { s with heap := s.heap.push { cls := .type "tuple", data := .seq items.toList.reverse.toArray } }) : wpAny (model prog w) A (getItem (.ref t) (.ref sl)) Q E s := by
 have hz : sizeOk (.seq items.toList.reverse.toArray) := by
  show items.toList.reverse.toArray.size ≤ sizeLine
  rw [List.size_toArray, List.length_reverse, Array.length_toList]
  exact hsz
 obtain ⟨os, hos, hcs, hds⟩ := id hs
 have hTs : s.TypeIs (.ref sl) "slice" := ⟨os, hos, hcs⟩
 unfold getItem
 refine wpAny_holding ?_
 refine wpAny_bind (wpAny_sequenceKey ht.typeIs (by decide) ?_)
 refine wpAny_bind (wpAny_callSpecial?_slot (name := Str.ofString "__getitem__") ht.typeIs PyProof.Rows.slot_tuple_getitem (wpAny_call_entry PyProof.Rows.slot_tuple_getitem ht.typeIs entry_tuple_getitem ?_ (args_tuple_getitem _ _)))
 show wpAny _ _ (Builtin.Tuple.tupleItemsOf (.ref t) >>= _) _ _ s
 refine wpAny_bind (tupleItemsOf_ ht ?_)
 refine wpAny_bind (wpAny_typeOf hTs ?_)
 rw [if_pos (by decide)]
 refine wpAny_bind (zht hs ?_)
 have hno : ¬ ((((items.size : Int) - 1) == 0 && (-1 : Int) == 1 && items.size == items.size) = true) := by
  intro q
  rw [Bool.and_eq_true, Bool.and_eq_true] at q
  exact absurd q.1.2 (by decide)
 show wpAny _ _ (if (((items.size : Int) - 1) == 0 && (-1 : Int) == 1 && items.size == items.size) = true then _ else _) _ _ s
 rw [if_neg hno, zre]
 first
  | exact wpAny_bind (m := Builtin.Tuple.tupleExact _) (wpAny_newObj_type (wpAny_pure ⟨_, rfl, wpAny_pure h⟩) hz)
  | exact wpAny_bind (m := Builtin.Tuple.tupleExact _) (wpAny_newObj_type (wpAny_bind (wpAny_pure (wpAny_pure ⟨_, rfl, wpAny_pure h⟩))) hz)
  | exact wpAny_bind (wpAny_bind (m := Builtin.Tuple.tupleExact _) (wpAny_newObj_type (wpAny_pure (wpAny_pure ⟨_, rfl, wpAny_pure h⟩)) hz))
  | exact wpAny_bind (wpAny_bind (m := Builtin.Tuple.tupleExact _) (wpAny_newObj_type (wpAny_pure ⟨_, rfl, wpAny_pure h⟩) hz))
end
end HT
namespace L2
open PySem PySem.Spec PyProof.Rows
section
variable {X : Cx} {e st : Expr} {te tst : TE} {pos p2 : Pos}
theorem zha : SlR X (fun x lo hi H Q => ∃ a xs, x = .ref a ∧ H a = some (.tup xs) ∧ ∀ p H', Same H H' → H' p = some (.tup (ze8 xs lo hi)) → Q (.ref p) H') := by
 intro pins s σ H x v vl vu lo hi sl Q I rx hs pl pu h
 obtain ⟨a, xs, rfl, hx, q⟩ := h
 by_cases hw : HT.sIx xs.length 0 lo = 0 ∧ HT.sIx xs.length xs.length hi = xs.length
 ·cases rx
  obtain ⟨its, r, ht, hz⟩ := I.tuple (.inl (.inl hx))
  have hlen : its.toArray.size = xs.length := by rw [List.size_toArray]; exact r.length.symm
  refine ⟨"tuple", _, PyProof.Rows.slot_tuple_getitem.lookup, ht.typeIs, ?_⟩
  refine HT.tup_whole ht hs pl pu (by rw [hlen]; exact hw.1) (by rw [hlen]; exact hw.2) ⟨.ref a, H, I, rfl, q a H (Same.refl H) ?_⟩
  rw [hx]
  unfold ze8
  rw [hw.1, hw.2, List.drop_zero, Nat.sub_zero, List.take_length]
 ·exact zul pins s σ H _ v vl vu lo hi sl Q I rx hs pl pu ⟨a, xs, rfl, .inl (.inl hx), hw, fun p hp => q p _ (zg7 fun b o e => by rw [zao (zav e hp)]; exact e) zae⟩
def zu2 (te tst : TE) : TE := fun σ H Q => te σ H fun x H1 => tst σ H1 fun y H2 => ∃ a xs, y = .int (-1) ∧ x = .ref a ∧ H2 a = some (.tup xs) ∧ ∀ p, H2 p = none → Q (.ref p) (upd H2 p (.tup xs.reverse))
theorem zo8 (he : PE X e te) (hst : PE X st tst) : PE X (.Subscript e (.Slice none none (some st) p2) pos) (zu2 te tst) := by
 intro pins s σ H Q I h
 refine Subscript_ (thn (he pins s σ H _ I h) fun v s1 ⟨x, H1, I1, r1, q1⟩ => ?_)
 refine wpAny_Slice ?_
 rw [evalPart_none]
 refine wpAny_pure (wpAny_pure ?_)
 rw [evalPart_some]
 refine thn (hst pins s1 σ H1 _ I1 q1) fun vs s3 ⟨y, H3, I3, r3, q3⟩ => ?_
 obtain ⟨a, xs, rfl, rfl, hx, q⟩ := q3
 cases r1
 obtain ⟨t, rfl⟩ := r3
 have I4 : Inv X pins σ H3 { s3 with heap := s3.heap.push { cls := .type "slice", data := .fields #[.none, .none, .int (-1) t] } } := I3.kept (t' := s3.toks) fun b ob q => Heap.get?_push_of_some _ q
 obtain ⟨its, r, ht, hz⟩ := I4.tuple (.inl (.inl hx))
 have hlen : its.toArray.size = xs.length := by rw [List.size_toArray]; exact r.length.symm
 show wpAny (model X.prog X.w) X.A (subscriptTail e (.Slice none none (some st) p2) (.ref a) (.ref s3.heap.objs.size)) (EP X pins σ Q) X.xe { s3 with heap := s3.heap.push { cls := .type "slice", data := .fields #[.none, .none, .int (-1) t] } }
 refine tail_any (ops := [.ref a, .ref s3.heap.objs.size]) ht.typeIs PyProof.Rows.slot_tuple_getitem.lookup ?_ (by with_unfolding_all rfl)
 refine HT.tup_rev ht (Heap.IsSliceOf.new ..) (by rw [hlen]; exact hz) ⟨.ref _, _, I4.laid (t' := s3.toks) (o := .tup xs.reverse) (fun b ob q => Heap.get?_push_of_some _ q) (Nat.le_refl _) ?_, rfl, q _ (I4.hok.fresh (Nat.le_refl _))⟩
 exact ⟨by rw [List.length_reverse]; exact hz, its.reverse, r.reverse, IsTup.new _ _⟩
theorem ziq (hu : X.A.units + 64 < cLine) : OpR X (compareOp .Eq) (fun x y H Q => ∃ d e : PyData, Dn H d x ∧ Dn H e y ∧ SeqAt.shaped d = true ∧ SeqAt.shaped e = true ∧ Q (.bl (PyData.eqv d e)) H) := by
 intro pins s σ H x y v u Q I rx ry h
 obtain ⟨d, e, hd, he, sd, se, q⟩ := h
 obtain ⟨as, ra⟩ := Dn.reads I d x v hd (SeqAt.canLay_of_shaped sd) rx
 obtain ⟨bs, rb⟩ := Dn.reads I e y u he (SeqAt.canLay_of_shaped se) ry
 exact SeqAt.compareEq_shaped ra rb sd se hu ⟨.bl _, H, I, rfl, q⟩
end
end L2
namespace L2
open PySem PySem.Spec PyProof.Rows
section
variable {X : Cx}
theorem zpn (hc : X.calm = true) : zeq X (.builtin "max") (fun xs H Q => ∃ (p : Addr) (ns : List Int), xs = [.ref p] ∧ SqT X.K H p (ns.map V.int) ∧ 0 < ns.length ∧ ∀ M, M ∈ ns → Q (.int M) H) := by
 intro pins s σ H xs us Q I r h
 obtain ⟨p, ns, rfl, hq, hne, q⟩ := h
 obtain ⟨u, rfl, rx⟩ := zga r
 cases rx
 obtain ⟨its, rv, pl, hz'⟩ := I.tuple hq
 have hi := zd3 rv
 have hl := rv.length
 rw [List.length_map] at hl
 have T : s.heap.IsTuple p its.toArray := pl
 have lt : p < s.heap.objs.size := by obtain ⟨o, e, _⟩ := T; exact Heap.lt_size e
 refine call_max_walk (wpAny_pyIter_tuple T ?_)
 refine ⟨_, _, _, _, _, _, fun i j => decide (ns.getD i 0 > ns.getD j 0), rfl, Walks.tuple (A := X.A.in1) (I.ok.hd hc) s.heap.objs.size p (Nat.ne_of_lt lt) its.toArray, ⟨⟨_, Heap.get?_push_size _ rfl, rfl, rfl⟩, T.push _⟩, fun b hb => ?_, by rw [List.size_toArray]; omega, CmpOf.ints_gt (fun i => ns.getD i 0) (fun i v hv => ?_), fun v h' tk hP hk => ?_⟩
 ·show b < (s.heap.push _).objs.size
  rw [Heap.size_push]
  simp only [List.mem_cons, List.not_mem_nil, or_false] at hb
  rcases hb with rfl | rfl
  ·exact Nat.lt_succ_self _
  ·exact Nat.lt_succ_of_lt lt
 ·exact IntsAre.int_at hi i v (by rw [List.getElem?_toArray] at hv; exact hv)
 ·obtain ⟨t, rfl⟩ := IntsAre.int_at hi _ v (by rw [List.getElem?_toArray] at hP; exact hP)
  have hj : argBest (fun i j => decide (ns.getD i 0 > ns.getD j 0)) (its.toArray.size - 1) < ns.length := by
   rw [List.getElem?_toArray] at hP
   have := (List.getElem?_eq_some_iff.mp hP).1
   omega
  refine ⟨.int _, H, I.kept (t' := tk) fun b o e => hk b o (fun hm => ?_) (Heap.get?_push_of_some _ e), ⟨t, rfl⟩, q _ (getD_mem hj)⟩
  have : b = s.heap.objs.size := by simpa using hm
  exact absurd (this ▸ Heap.lt_size e) (Nat.lt_irrefl _)
end
end L2
namespace Wd
open PySem L2 Ow
mutual
theorem zr1 : ∀ (n : Nat) (d : PyData), zbs n d = true → PyData.canLay0 d = true ∧ PyData.depth d ≤ n + 1
 | _, .int i, _ => ⟨by simp [PyData.canLay0], by simp only [PyData.depth]; omega⟩
 | n, .str s, h => ⟨by cases n <;> simpa [PyData.canLay0] using (show PyData.strOk s = true from h), by simp only [PyData.depth]; omega⟩
 | n + 1, .tuple ds, h => by
  have z : (decide (ds.length ≤ 1000) && ds.all (zbs n)) = true := h
  rw [Bool.and_eq_true] at z
  obtain ⟨a, b⟩ := zfk n ds z.2
  exact ⟨by simpa [PyData.canLay0] using a, by simp only [PyData.depth]; omega⟩
 | 0, .tuple _, h => by cases h
 | 0, .none, h => by cases h
 | n + 1, .none, h => by cases h
 | 0, .bool _, h => by cases h
 | n + 1, .bool _, h => by cases h
 | 0, .list _, h => by cases h
 | n + 1, .list _, h => by cases h
 | 0, .dict _, h => by cases h
 | n + 1, .dict _, h => by cases h
theorem zfk : ∀ (n : Nat) (ds : List PyData), ds.all (zbs n) = true → PyData.canLayAll0 ds = true ∧ PyData.depthAll ds ≤ n + 1
 | _, [], _ => ⟨by simp [PyData.canLayAll0], by simp only [PyData.depthAll]; omega⟩
 | n, d :: ds, h => by
  rw [List.all_cons, Bool.and_eq_true] at h
  obtain ⟨a1, b1⟩ := zr1 n d h.1
  obtain ⟨a2, b2⟩ := zfk n ds h.2
  exact ⟨by simp [PyData.canLayAll0, a1, a2], by simp only [PyData.depthAll]; omega⟩
end
theorem zoa {n : Nat} {ds : List PyData} (hn : n ≤ 60) (h : ds.all (zbs n) = true) : SeqAt.shaped (.tuple ds) = true := by
 obtain ⟨a, b⟩ := zfk n ds h
 unfold SeqAt.shaped
 rw [Bool.and_eq_true]
 refine ⟨by simp [PyData.canLay0, a], decide_eq_true ?_⟩
 simp only [PyData.depth]
 omega
theorem zne : SeqAt.shaped (.tuple []) = true := by decide
theorem zqq : ∀ ds : List PyData, PyData.eqv (.tuple ds) (.tuple []) = decide (ds = [])
 | [] => by simp [PyData.eqv, PyData.eqvAll]
 | d :: ds => by simp [PyData.eqv, PyData.eqvAll]
theorem GoodB.perm {m : Int} {bs bs' : List PyData} (G : GoodB m bs) (p : bs'.Perm bs) : GoodB m bs' := ⟨fun b hb => G.each b (p.mem_iff.mp hb), (List.Perm.flatMap_right _ p).trans G.kids⟩
theorem GoodB.swap {m : Int} {pre post : List PyData} {x y : PyData} (G : GoodB m (pre ++ x :: post)) (h : zde m y = true) (e : zje y = zje x) : GoodB m (pre ++ y :: post) := by
 refine ⟨fun b hb => ?_, ?_⟩
 ·rcases List.mem_append.mp hb with z | z
  ·exact G.each b (List.mem_append_left _ z)
  ·rcases List.mem_cons.mp z with rfl | z
   ·exact h
   ·exact G.each b (List.mem_append_right _ (List.mem_cons_of_mem _ z))
 ·have k := G.kids
  rw [List.flatMap_append, List.flatMap_cons] at k ⊢
  rw [e]
  exact k
theorem DnL.reverse {H : Hp} : ∀ {ds : List PyData} {xs : List V}, DnL H ds xs → DnL H ds.reverse xs.reverse
 | [], xs, h => by rw [(show xs = [] from h)]; exact rfl
 | d :: ds, _, ⟨x, r, e, q, z⟩ => by
  rw [e, List.reverse_cons, List.reverse_cons]
  exact (DnL.reverse z).append ⟨x, [], rfl, q, rfl⟩
theorem zmq (xs : List V) (t : Nat) (h : t ≤ xs.length) : ze8 xs none (some (t : Int)) = xs.take t := by
 unfold ze8
 rw [HT.sIx_nat, HT.sIx_none, Nat.min_eq_left h, List.drop_zero, Nat.sub_zero]
theorem zjb (xs : List V) (t : Nat) (h : t ≤ xs.length) : ze8 xs (some (t : Int)) none = xs.drop t := by
 unfold ze8
 rw [HT.sIx_nat, HT.sIx_none, Nat.min_eq_left h, List.take_of_length_le]
 rw [List.length_drop]
 exact Nat.le_refl _
theorem zpt (xs : List V) : ze8 xs (some 1) none = xs.drop 1 := by
 cases xs with
 | nil => rfl
 | cons x r => exact zjb (x :: r) 1 (by simp)
theorem zmv {m : Nat} {d : PyData} {H : Hp} {v : V} (h : zde m d = true) (q : Dn H d v) : ∃ (u lo hi : Int) (kids : List Int) (p pk : Addr), d = zgq u lo hi kids ∧ v = .ref p ∧ H p = some (.tup [.int u, .int lo, .int hi, .ref pk]) ∧ H pk = some (.tup (kids.map V.int)) ∧ 0 ≤ u ∧ u < m ∧ kids ≠ [] ∧ zbu m (kids.map PyData.int) u = true ∧ 0 ≤ lo ∧ lo ≤ hi ∧ 1 ≤ hi ∧ hi ≤ kids.length ∧ kids.length ≤ m ∧ ∀ x ∈ kids, u < x ∧ x < m := by
 obtain ⟨u, lo, hi, ks, e, ok⟩ := zgz h
 subst e
 obtain ⟨p, pk, rfl, hp, hpk⟩ := zd4 q
 have e2 : (Tie.bough u lo hi ks).toD = zgq u lo hi (ks.map fun k : Nat => (k : Int)) := by
  show PyData.tuple [.int (u : Int), .int lo, .int hi, .tuple (ks.map fun k : Nat => PyData.int (k : Int))] = PyData.tuple [.int (u : Int), .int lo, .int hi, .tuple ((ks.map fun k : Nat => (k : Int)).map PyData.int)]
  rw [List.map_map]
  rfl
 have up := ok.up
 have um := ok.um
 have lo0 := ok.lo0
 have lohi := ok.lohi
 have hi1 := ok.hi1
 have hik := ok.hik
 have few := ok.few
 refine ⟨u, lo, hi, ks.map fun k : Nat => (k : Int), p, pk, e2, rfl, hp, by rw [zj9]; exact hpk, by omega, by omega, fun z => ok.ks0 (List.map_eq_nil_iff.mp z), ?_, lo0, lohi, hi1, by rw [List.length_map]; exact hik, by rw [List.length_map]; exact few, fun x hx => ?_⟩
 ·have hh := h
  rw [e2] at hh
  unfold zde zgq at hh
  simp only [Bool.and_eq_true] at hh
  exact hh.2.2.1
 ·obtain ⟨k, hk, rfl⟩ := List.mem_map.mp hx
  have := up k hk
  omega
end Wd
set_option maxRecDepth 100000
set_option maxHeartbeats 4000000
namespace Wd
open PySem L2 Ow
end Wd
set_option maxRecDepth 100000
set_option maxHeartbeats 4000000
namespace Wd
open PySem L2 Ow
def zdv (ts : List Tie) (y n : Nat) : Option PyData := if (ts.all fun t => t.sk y n) = true then some (.tuple [.str ("kept" : Str)]) else none
def zty : Sp := fun vs H Q _ => ∃ (wd : Addr) (m : Nat) (ts : List Tie) (y n : Nat), vs = [.ref wd, .int y, .int n] ∧ WoodT H wd m ts ∧ ∀ H', Same H H' → Q (.bl (ts.all fun t => t.sk y n)) H'
def zsw : Sp := fun vs H Q _ => ∃ (wd : Addr) (m : Nat) (ts : List Tie) (y n : Nat), vs = [.ref wd, .int y, .int n] ∧ WoodT H wd m ts ∧ ∀ (v : V) (H' : Hp), Same H H' → zg9 (zdv ts) y n H' v → Q v H'
def zqr : Sp := fun vs H Q _ => ∃ (w1 w2 : Addr) (m : Nat) (t1 t2 : List Tie), vs = [.ref w1, .ref w2] ∧ WoodT H w1 m t1 ∧ WoodT H w2 m t2 ∧ Q .non H
def outside (m : Nat) (t1 t2 : List Tie) : List Nat := (zco m t1).filter fun s => !zbt t2 s
def zfz (m : Nat) (t1 t2 : List Tie) : PyData := match outside m t1 t2 with
 | s :: _ => .tuple [.str ("out" : Str), .int (s : Int)]
 | [] => .tuple [.str ("in" : Str), zei t1 (zf8 t1) m (zdv t2) 9 1 0]
def zpf : Sp := fun vs H Q _ => ∃ (w1 w2 : Addr) (m : Nat) (t1 t2 : List Tie), vs = [.ref w1, .ref w2] ∧ WoodT H w1 m t1 ∧ WoodT H w2 m t2 ∧ 1 ≤ m ∧ m ≤ 9 ∧ ∀ (v : V) (H' : Hp), Same H H' → Dn H' (zfz m t1 t2) v → Q v H'
def zvl : Expr → Expr
 | .Tuple (_ :: e :: _) _ _ => e
 | e => e
theorem zl8 {m : Nat} {t1 t2 : List Tie} (ok1 : ∀ t ∈ t1, t.Ok m) (ok2 : ∀ t ∈ t2, t.Ok m) (ho : outside m t1 t2 = []) (m1 : 1 ≤ m) : EndsR t1 (zf8 t1) m (zdv t2) 1 0 := by
 refine ⟨fun y n => Stand m y n ∧ y.testBit 0 = true, ⟨znu m1, rfl⟩, fun y n k r hk => ⟨⟨r.1.one hk, by rw [Nat.testBit_or, r.2, Bool.true_or]⟩, r.1.other hk, r.2⟩, fun y n r hb hn => ?_⟩
 obtain ⟨S, r0⟩ := r
 have full : ∀ k, k < m → (y ||| n).testBit k = true := fun k hk => by
  cases hy : (y ||| n).testBit k with
  | true => rfl
  | false =>
   rw [Nat.testBit_or, Bool.or_eq_false_iff] at hy
   have : k ∈ zay m y n := mem_open.mpr ⟨hk, hy.1, hy.2⟩
   rw [hn] at this
   cases this
 have k1 : ∀ t ∈ t1, t.keep y = true := fun t ht => by
  obtain ⟨i, hi, e⟩ := List.getElem_of_mem ht
  have z := zew hb i (List.mem_range.mpr hi)
  unfold zid at z
  rw [List.getElem?_eq_getElem hi, e] at z
  have z' : t.sb y n = false := z
  rw [zoo (ok1 t ht) S.dj full] at z'
  simpa using z'
 have mw : y ∈ zco m t1 := mem_wareL.mpr ⟨S.ym, by
  unfold zbt
  rw [r0, Bool.true_and, List.all_eq_true]
  exact k1⟩
 have w2 : zbt t2 y = true := by
  cases h : zbt t2 y with
  | true => rfl
  | false =>
   have : y ∈ outside m t1 t2 := List.mem_filter.mpr ⟨mw, by rw [h]; rfl⟩
   rw [ho] at this
   cases this
 unfold zbt at w2
 rw [Bool.and_eq_true, List.all_eq_true] at w2
 unfold zdv
 rw [if_pos (List.all_eq_true.mpr fun t ht => by rw [zss (ok2 t ht) S.dj full]; exact w2.2 t ht)]
 simp
end Wd
set_option maxHeartbeats 4000000
namespace Srt
open PySem PyProof PyProof.Rows
def zs6 : Bool → Keyed → Array Keyed → Nat → Nat → Nat → StateT SortSt Sem (Option Nat) := sortPriv% PySem.Builtin.gallop
def zqe : Array Keyed → Array Keyed → StateT SortSt Sem (Array Keyed) := sortPriv% PySem.Builtin.mergeLo
def zry : Array Keyed → Array Keyed → StateT SortSt Sem (Array Keyed) := sortPriv% PySem.Builtin.mergeHi
def kn (p : Keyed) : Int := numOf p.1
def zf7 (p : Keyed) : Prop := ∃ n t, p.1 = .int n t
theorem zc9 {arr : Array Keyed} {i : Nat} {p : Keyed} (h : arr[i]? = some p) : K arr i = kn p := by unfold K; rw [h]; rfl
def gp (left : Bool) (key : Keyed) (arr : Array Keyed) (base i : Nat) : Bool := if left then decide (K arr (base + i) < kn key) else !decide (kn key < K arr (base + i))
section
variable {prog : Program} {w : World} {A : Around} {E : Value → Shared → Prop} {s : Shared}
theorem zi9 {st : SortSt} {x y : Keyed} {Q : Option Bool → SortSt → Prop} (hk : kindOf st = oneType') (hx : zf7 x) (hy : zf7 y) (h : Q (some (decide (kn x < kn y))) st) :
  wpS (model prog w) A E s (lt' x y) Q st := by
 obtain ⟨a, t, e1⟩ := hx
 obtain ⟨b, u, e2⟩ := hy
 obtain ⟨x1, x2⟩ := x
 obtain ⟨y1, y2⟩ := y
 cases e1; cases e2
 rw [lt'_eq]
 refine wpS_bind (wpS_get ?_)
 rw [hk, keyLt'_oneType]
 refine wpS_bind (wpS_lift (wpAny_attempt (oneLt_int ⟨rfl, ?_⟩)))
 exact wpS_pure h
theorem zbg {st : SortSt} {arr : Array Keyed} {i : Nat} {p : Keyed} {Q : Keyed → SortSt → Prop} (hp : arr[i]? = some p) (h : Q p st) : wpS (model prog w) A E s (elem' arr i) Q st := by
 rw [elem'_eq, hp]; exact wpS_pure h
theorem zdo {st : SortSt} {left : Bool} {key : Keyed} {arr : Array Keyed} {base n hint : Nat} {Q : Option Nat → SortSt → Prop} (hk : kindOf st = oneType') (hkey : zf7 key)
  (hall : ∀ i, i < n → ∃ p, arr[base + i]? = some p ∧ zf7 p) (hs : ∀ i j, i ≤ j → j < n → K arr (base + i) ≤ K arr (base + j)) (hn : hint < n)
  (h : ∀ k, k ≤ n → (∀ i, i < k → gp left key arr base i = true) → (∀ i, k ≤ i → i < n → gp left key arr base i = false) → Q (some k) st) :
  wpS (model prog w) A E s (zs6 left key arr base n hint) Q st := by
 have hb : ∀ (i : Nat) (R : Option Bool → SortSt → Prop), i < n → R (some (gp left key arr base i)) st →
   wpS (model prog w) A E s (elem' arr (base + i) >>= fun x => if left = true then lt' x key else lt' key x >>= fun b => pure (b.map (!·))) R st := by
  intro i R hi hR
  obtain ⟨p, hp, ip⟩ := hall i hi
  refine wpS_bind (zbg hp ?_)
  unfold gp at hR
  rw [zc9 hp] at hR
  cases left with
  | true => exact zi9 hk ip hkey hR
  | false => exact wpS_bind (zi9 hk hkey ip (wpS_pure hR))
 have mono : ∀ i j, i ≤ j → j < n → gp left key arr base j = true → gp left key arr base i = true := by
  intro i j hij hj hg
  have := hs i j hij hj
  unfold gp at hg ⊢
  cases left <;> simp at hg ⊢ <;> omega
 have anti : ∀ i j, i ≤ j → j < n → gp left key arr base i = false → gp left key arr base j = false := by
  intro i j hij hj hg
  cases hgj : gp left key arr base j with
  | false => rfl
  | true => rw [mono i j hij hj hgj] at hg; cases hg
 refine wpS_bind (hb hint _ hn ?_)
 dsimp only
 cases hr : gp left key arr base hint with
 | true =>
  rw [if_pos rfl]
  refine wpS_bind (wpS_mono (wpS_forRange
   (I := fun x c st' => st = st' ∧ ∃ la of, c = (none, la, of) ∧ la < of ∧ hint + la < n ∧ x + 1 ≤ of ∧ gp left key arr base (hint + la) = true)
   (Q := fun c st' => st = st' ∧ ∃ la of, c = (none, la, of) ∧ la < of ∧ hint + la < n ∧ gp left key arr base (hint + la) = true ∧ (of ≥ n - hint ∨ (hint + of < n ∧ gp left key arr base (hint + of) = false)))
   ?_ ?_ ⟨rfl, 0, 1, rfl, by omega, by omega, by omega, hr⟩) ?_)
  ·rintro x c st' _ hx ⟨rfl, la, of, rfl, k1, k2, k3, k4⟩
   dsimp only
   by_cases hge : of ≥ n - hint
   ·rw [if_pos hge]
    exact wpS_pure ⟨rfl, la, of, rfl, k1, k2, k4, .inl hge⟩
   ·rw [if_neg hge]
    refine wpS_bind (hb _ _ (by omega) ?_)
    dsimp only
    cases hm : gp left key arr base (hint + of) with
    | true => exact wpS_pure ⟨rfl, of, 2 * of + 1, rfl, by omega, by omega, by omega, hm⟩
    | false => exact wpS_pure ⟨rfl, la, of, rfl, k1, k2, k4, .inr ⟨by omega, hm⟩⟩
  ·rintro c st' ⟨rfl, la, of, rfl, k1, k2, k3, k4⟩
   exact ⟨rfl, la, of, rfl, k1, k2, k4, .inl (by omega)⟩
  ·rintro c st' ⟨rfl, la, of, rfl, k1, k2, k4, k5⟩
   dsimp only
   have g1 : hint + la + 1 ≤ hint + min of (n - hint) := by omega
   have g2 : hint + min of (n - hint) ≤ n := by omega
   have g3 : ∀ i, i < hint + la + 1 → gp left key arr base i = true := fun i hi => mono i _ (by omega) k2 k4
   have g4 : ∀ i, hint + min of (n - hint) ≤ i → i < n → gp left key arr base i = false := fun i h1 h2 => by
    rcases k5 with z | ⟨z, hz⟩
    ·omega
    ·exact anti _ i (by omega) h2 hz
   refine wpS_bind (wpS_mono (wpS_forRange
    (I := fun x c st' => st = st' ∧ ∃ lo hi, c = (none, lo, hi) ∧ lo ≤ hi ∧ hi ≤ n ∧ hi - lo ≤ n - x ∧ (∀ i, i < lo → gp left key arr base i = true) ∧ (∀ i, hi ≤ i → i < n → gp left key arr base i = false))
    (Q := fun c st' => st = st' ∧ ∃ hi, c = (none, hi, hi) ∧ hi ≤ n ∧ (∀ i, i < hi → gp left key arr base i = true) ∧ (∀ i, hi ≤ i → i < n → gp left key arr base i = false))
    ?_ ?_ ⟨rfl, _, _, rfl, g1, g2, by omega, g3, g4⟩) ?_)
   ·rintro x c st' _ hx ⟨rfl, lo, hi, rfl, k1, k2, k3, k4, k5⟩
    dsimp only
    by_cases hge : lo ≥ hi
    ·rw [if_pos hge]
     have : lo = hi := by omega
     subst this
     exact wpS_pure ⟨rfl, lo, rfl, k2, k4, k5⟩
    ·rw [if_neg hge]
     refine wpS_bind (hb _ _ (by omega) ?_)
     dsimp only
     by_cases hm : gp left key arr base (lo + (hi - lo) / 2) = true
     ·rw [if_pos hm]
      exact wpS_pure ⟨rfl, _, _, rfl, by omega, k2, by omega, fun i hi' => mono i _ (by omega) (by omega) hm, k5⟩
     ·rw [if_neg hm]
      exact wpS_pure ⟨rfl, _, _, rfl, by omega, by omega, by omega, k4, fun i h1 h2 => anti _ i h1 h2 (by simpa using hm)⟩
   ·rintro c st' ⟨rfl, lo, hi, rfl, k1, k2, k3, k4, k5⟩
    have : lo = hi := by omega
    subst this
    exact ⟨rfl, lo, rfl, k2, k4, k5⟩
   ·rintro c st' ⟨rfl, hi, rfl, k2, k4, k5⟩
    exact wpS_pure (h hi k2 k4 k5)
 | false =>
  rw [if_neg (by decide)]
  refine wpS_bind (wpS_mono (wpS_forRange
   (I := fun x c st' => st = st' ∧ ∃ la of, c = (none, la, of) ∧ la < of ∧ la ≤ hint ∧ x + 1 ≤ of ∧ gp left key arr base (hint - la) = false)
   (Q := fun c st' => st = st' ∧ ∃ la of, c = (none, la, of) ∧ la < of ∧ la ≤ hint ∧ gp left key arr base (hint - la) = false ∧ (of ≥ hint + 1 ∨ (of ≤ hint ∧ gp left key arr base (hint - of) = true)))
   ?_ ?_ ⟨rfl, 0, 1, rfl, by omega, by omega, by omega, hr⟩) ?_)
  ·rintro x c st' _ hx ⟨rfl, la, of, rfl, k1, k2, k3, k4⟩
   dsimp only
   by_cases hge : of ≥ hint + 1
   ·rw [if_pos hge]
    exact wpS_pure ⟨rfl, la, of, rfl, k1, k2, k4, .inl hge⟩
   ·rw [if_neg hge]
    refine wpS_bind (hb _ _ (by omega) ?_)
    dsimp only
    cases hm : gp left key arr base (hint - of) with
    | false => exact wpS_pure ⟨rfl, of, 2 * of + 1, rfl, by omega, by omega, by omega, hm⟩
    | true => exact wpS_pure ⟨rfl, la, of, rfl, k1, k2, k4, .inr ⟨by omega, hm⟩⟩
  ·rintro c st' ⟨rfl, la, of, rfl, k1, k2, k3, k4⟩
   exact ⟨rfl, la, of, rfl, k1, k2, k4, .inl (by omega)⟩
  ·rintro c st' ⟨rfl, la, of, rfl, k1, k2, k4, k5⟩
   dsimp only
   have g1 : hint + 1 - min of (hint + 1) ≤ hint - la := by omega
   have g2 : hint - la ≤ n := by omega
   have g3 : ∀ i, i < hint + 1 - min of (hint + 1) → gp left key arr base i = true := fun i hi => by
    rcases k5 with z | ⟨z, hz⟩
    ·omega
    ·exact mono i _ (by omega) (by omega) hz
   have g4 : ∀ i, hint - la ≤ i → i < n → gp left key arr base i = false := fun i h1 h2 => anti _ i h1 h2 k4
   refine wpS_bind (wpS_mono (wpS_forRange
    (I := fun x c st' => st = st' ∧ ∃ lo hi, c = (none, lo, hi) ∧ lo ≤ hi ∧ hi ≤ n ∧ hi - lo ≤ n - x ∧ (∀ i, i < lo → gp left key arr base i = true) ∧ (∀ i, hi ≤ i → i < n → gp left key arr base i = false))
    (Q := fun c st' => st = st' ∧ ∃ hi, c = (none, hi, hi) ∧ hi ≤ n ∧ (∀ i, i < hi → gp left key arr base i = true) ∧ (∀ i, hi ≤ i → i < n → gp left key arr base i = false))
    ?_ ?_ ⟨rfl, _, _, rfl, g1, g2, by omega, g3, g4⟩) ?_)
   ·rintro x c st' _ hx ⟨rfl, lo, hi, rfl, k1, k2, k3, k4, k5⟩
    dsimp only
    by_cases hge : lo ≥ hi
    ·rw [if_pos hge]
     have : lo = hi := by omega
     subst this
     exact wpS_pure ⟨rfl, lo, rfl, k2, k4, k5⟩
    ·rw [if_neg hge]
     refine wpS_bind (hb _ _ (by omega) ?_)
     dsimp only
     by_cases hm : gp left key arr base (lo + (hi - lo) / 2) = true
     ·rw [if_pos hm]
      exact wpS_pure ⟨rfl, _, _, rfl, by omega, k2, by omega, fun i hi' => mono i _ (by omega) (by omega) hm, k5⟩
     ·rw [if_neg hm]
      exact wpS_pure ⟨rfl, _, _, rfl, by omega, by omega, by omega, k4, fun i h1 h2 => anti _ i h1 h2 (by simpa using hm)⟩
   ·rintro c st' ⟨rfl, lo, hi, rfl, k1, k2, k3, k4, k5⟩
    have : lo = hi := by omega
    subst this
    exact ⟨rfl, lo, rfl, k2, k4, k5⟩
   ·rintro c st' ⟨rfl, hi, rfl, k2, k4, k5⟩
    exact wpS_pure (h hi k2 k4 k5)
end
end Srt
set_option maxHeartbeats 4000000
namespace Srt
open PySem PyProof PyProof.Rows
def kle (x y : Keyed) : Prop := kn x ≤ kn y
theorem zkr {x y z : Keyed} (h : kle x y) (g : kle y z) : kle x z := Int.le_trans h g
structure MI (A B out : List Keyed) (ia ib : Nat) : Prop where
 perm : out.Perm (A.take ia ++ B.take ib)
 srt : out.Pairwise kle
 la : ∀ x ∈ out, ∀ y ∈ A.drop ia, kle x y
 lb : ∀ x ∈ out, ∀ y ∈ B.drop ib, kle x y
def SP (A B R : List Keyed) : Prop := R.Perm (A ++ B) ∧ R.Pairwise kle
theorem MI.swap {A B out : List Keyed} {ia ib : Nat} (m : MI A B out ia ib) : MI B A out ib ia :=
 ⟨m.perm.trans List.perm_append_comm, m.srt, m.lb, m.la⟩
theorem MI.more {A B out : List Keyed} {ia ib : Nat} (hA : A.Pairwise kle) (m : MI A B out ia ib) (k : Nat) (hx : ∀ x ∈ (A.drop ia).take k, ∀ y ∈ B.drop ib, kle x y) :
  MI A B (out ++ (A.drop ia).take k) (ia + k) ib := by
 have hd : (A.drop ia).Pairwise kle := hA.sublist (List.drop_sublist _ _)
 have hs : ((A.drop ia).take k ++ (A.drop ia).drop k).Pairwise kle := by rw [List.take_append_drop]; exact hd
 obtain ⟨p1, p2, p3⟩ := List.pairwise_append.mp hs
 refine ⟨?_, List.pairwise_append.mpr ⟨m.srt, p1, fun x h y g => m.la x h y (List.mem_of_mem_take g)⟩, fun x h y g => ?_, fun x h y g => ?_⟩
 ·rw [List.take_add]
  refine (List.Perm.append_right _ m.perm).trans ?_
  rw [List.append_assoc, List.append_assoc]
  exact List.Perm.append_left _ List.perm_append_comm
 ·rw [← List.drop_drop] at g
  rcases List.mem_append.mp h with z | z
  ·exact m.la x z y (List.mem_of_mem_drop g)
  ·exact p3 x z y g
 ·rcases List.mem_append.mp h with z | z
  ·exact m.lb x z y g
  ·exact hx x z y g
theorem MI.fin {A B out : List Keyed} {ia ib : Nat} (m : MI A B out ia ib) (ha : A.length ≤ ia) (hb : B.length ≤ ib) : SP A B out := by
 have := m.perm
 rw [List.take_of_length_le ha, List.take_of_length_le hb] at this
 exact ⟨this, m.srt⟩
theorem MI.done {A B out : List Keyed} {ia ib : Nat} (hA : A.Pairwise kle) (m : MI A B out ia ib) (hb : B.length ≤ ib) : SP A B (out ++ A.drop ia ++ B.drop ib) := by
 have h := m.more hA A.length (fun x _ y g => by rw [List.drop_of_length_le hb] at g; cases g)
 rw [List.take_of_length_le (by rw [List.length_drop]; omega)] at h
 rw [List.drop_of_length_le hb, List.append_nil]
 exact h.fin (by omega) hb
theorem MI.last {A B out : List Keyed} {ia ib : Nat} (hA : A.Pairwise kle) (hB : B.Pairwise kle) (m : MI A B out ia ib) (hx : ∀ x ∈ B.drop ib, ∀ y ∈ A.drop ia, kle x y) :
  SP A B (out ++ B.drop ib ++ A.drop ia) := by
 have h := (m.swap.more hB B.length (fun x g y g2 => hx x (List.mem_of_mem_take g) y g2)).swap
 rw [List.take_of_length_le (by rw [List.length_drop]; omega)] at h
 have := h.done hA (Nat.le_add_left _ _)
 rwa [List.drop_of_length_le (l := B) (Nat.le_add_left _ _), List.append_nil] at this
theorem zfu {a : Array Keyed} {i : Nat} : (a.extract i a.size).toList = a.toList.drop i := by
 rw [Array.toList_extract, List.extract_eq_drop_take]
 rw [List.take_of_length_le]
 rw [List.length_drop, Array.length_toList]
 exact Nat.le_refl _
theorem zvi {a : Array Keyed} {i k : Nat} : (a.extract i (i + k)).toList = (a.toList.drop i).take k := by
 rw [Array.toList_extract, List.extract_eq_drop_take, Nat.add_sub_cancel_left]
theorem zes {a : Array Keyed} {i : Nat} {p : Keyed} (h : a[i]? = some p) : (a.toList.drop i).take 1 = [p] := by
 have hi : i < a.toList.length := by
  rw [Array.length_toList]; exact (Array.getElem?_eq_some_iff.mp h).1
 have e : a.toList[i] = p := by
  obtain ⟨h1, h2⟩ := Array.getElem?_eq_some_iff.mp h
  rw [← h2]; exact Array.getElem_toList h1
 rw [List.drop_eq_getElem_cons hi, e]; rfl
theorem zqk {a : Array Keyed} {i : Nat} {p : Keyed} (h : a[i]? = some p) : p ∈ a.toList := by
 obtain ⟨h1, h2⟩ := Array.getElem?_eq_some_iff.mp h
 rw [← h2]; exact Array.getElem_mem_toList h1
theorem MI.one {a b out : Array Keyed} {ia ib : Nat} {p : Keyed} (hA : a.toList.Pairwise kle) (m : MI a.toList b.toList out.toList ia ib) (hp : a[ia]? = some p) (hx : ∀ y ∈ b.toList.drop ib, kle p y) :
  MI a.toList b.toList (out.push p).toList (ia + 1) ib := by
 have := m.more hA 1 (by rw [zes hp]; intro x hx' y hy; rw [List.mem_singleton.mp hx']; exact hx y hy)
 rw [zes hp] at this
 rwa [Array.toList_push]
theorem MI.blk {a b out : Array Keyed} {ia ib k : Nat} (hA : a.toList.Pairwise kle) (m : MI a.toList b.toList out.toList ia ib) (hx : ∀ x ∈ (a.toList.drop ia).take k, ∀ y ∈ b.toList.drop ib, kle x y) :
  MI a.toList b.toList (out ++ a.extract ia (ia + k)).toList (ia + k) ib := by
 rw [Array.toList_append, zvi]
 exact m.more hA k hx
theorem MI.doneA {a b out : Array Keyed} {ia ib : Nat} (hA : a.toList.Pairwise kle) (m : MI a.toList b.toList out.toList ia ib) (hb : b.size ≤ ib) :
  SP a.toList b.toList (out ++ a.extract ia a.size ++ b.extract ib b.size).toList := by
 rw [Array.toList_append, Array.toList_append, zfu, zfu]
 exact m.done hA hb
theorem MI.doneB {a b out : Array Keyed} {ia ib : Nat} (hB : b.toList.Pairwise kle) (m : MI a.toList b.toList out.toList ia ib) (ha : a.size ≤ ia) :
  SP a.toList b.toList (out ++ a.extract ia a.size ++ b.extract ib b.size).toList := by
 rw [Array.toList_append, Array.toList_append, zfu, zfu, List.drop_of_length_le (l := a.toList) (by rw [Array.length_toList]; exact ha), List.append_nil]
 have h := m.swap.done hB (by rw [Array.length_toList]; exact ha)
 rw [List.drop_of_length_le (l := a.toList) (by rw [Array.length_toList]; exact ha), List.append_nil] at h
 exact ⟨h.1.trans List.perm_append_comm, h.2⟩
theorem MI.lastA {a b out : Array Keyed} {ia ib : Nat} (hA : a.toList.Pairwise kle) (hB : b.toList.Pairwise kle) (m : MI a.toList b.toList out.toList ia ib) (hx : ∀ x ∈ b.toList, ∀ y ∈ a.toList.drop ia, kle x y) :
  SP a.toList b.toList (out ++ b.extract ib b.size ++ a.extract ia a.size).toList := by
 rw [Array.toList_append, Array.toList_append, zfu, zfu]
 exact m.last hA hB fun x h => hx x (List.mem_of_mem_drop h)
theorem MI.lastE {a b out : Array Keyed} {ia ib : Nat} (hA : a.toList.Pairwise kle) (hB : b.toList.Pairwise kle) (m : MI a.toList b.toList out.toList ia ib) (e : ia + 1 = a.size)
  (hx : ∀ x ∈ b.toList, ∀ y ∈ a.toList.drop (a.size - 1), kle x y) : SP a.toList b.toList (out ++ b.extract ib b.size ++ a.extract ia a.size).toList :=
 m.lastA hA hB (by rw [show ia = a.size - 1 by omega]; exact hx)
section
variable {prog : Program} {w : World} {A : Around} {E : Value → Shared → Prop} {s : Shared}
theorem zap {α : Type} {c : Prop} [Decidable c] {t e : StateT SortSt Sem α} {Q : α → SortSt → Prop} {st : SortSt} (h1 : c → wpS (model prog w) A E s t Q st) (h2 : ¬ c → wpS (model prog w) A E s e Q st) :
  wpS (model prog w) A E s (if c then t else e) Q st := by
 by_cases hc : c
 ·rw [if_pos hc]; exact h1 hc
 ·rw [if_neg hc]; exact h2 hc
abbrev zen (st : SortSt) (g : Nat) : SortSt := SortSt.mk' (kindOf st) (arrOf st) (pendingOf st) g (failedOf st)
theorem zk3 {a b : Array Keyed} {i j : Nat} {p q : Keyed} (hB : b.toList.Pairwise kle) (hq : b[j]? = some q) (h : kle p q) : ∀ y ∈ b.toList.drop j, kle p y := by
 intro y hy
 obtain ⟨h1, h2⟩ := Array.getElem?_eq_some_iff.mp hq
 have hi : j < b.toList.length := by rw [Array.length_toList]; exact h1
 have e : b.toList[j] = q := by rw [← h2]; exact Array.getElem_toList h1
 have hd := hB.sublist (List.drop_sublist j b.toList)
 rw [List.drop_eq_getElem_cons hi, e] at hy hd
 rcases List.mem_cons.mp hy with z | z
 ·rw [z]; exact h
 ·exact zkr h ((List.pairwise_cons.mp hd).1 y z)
theorem zql {a : Array Keyed} (hA : a.toList.Pairwise kle) {i j : Nat} (hij : i ≤ j) (hj : j < a.size) : K a i ≤ K a j := by
 have hi : i < a.size := by omega
 rw [zc9 (Array.getElem?_eq_getElem hi), zc9 (Array.getElem?_eq_getElem hj)]
 by_cases e : i = j
 ·subst e; exact Int.le_refl _
 ·have := List.pairwise_iff_getElem.mp hA i j (by rw [Array.length_toList]; exact hi) (by rw [Array.length_toList]; exact hj) (by omega)
  rw [Array.getElem_toList, Array.getElem_toList] at this
  exact this
theorem zfm {a : Array Keyed} {i : Nat} {x : Keyed} (h : x ∈ a.toList.drop i) : ∃ j, i ≤ j ∧ j < a.size ∧ a[j]? = some x := by
 obtain ⟨j, hj, e⟩ := List.mem_iff_getElem.mp h
 rw [List.length_drop, Array.length_toList] at hj
 rw [List.getElem_drop, Array.getElem_toList] at e
 exact ⟨i + j, by omega, by omega, by rw [Array.getElem?_eq_getElem (by omega), e]⟩
theorem zeh {a : Array Keyed} {i k : Nat} {x : Keyed} (h : x ∈ (a.toList.drop i).take k) : ∃ j, j < k ∧ i + j < a.size ∧ a[i + j]? = some x := by
 obtain ⟨j, hj, e⟩ := List.mem_iff_getElem.mp h
 rw [List.length_take, List.length_drop, Array.length_toList] at hj
 rw [List.getElem_take, List.getElem_drop, Array.getElem_toList] at e
 exact ⟨j, by omega, by omega, by rw [Array.getElem?_eq_getElem (by omega), e]⟩
theorem zjs {q : Keyed} {a : Array Keyed} {i j : Nat} {x : Keyed} (h : gp false q a i j = true) (hx : a[i + j]? = some x) : kle x q := by
 unfold gp at h; rw [zc9 hx] at h
 simp at h; exact h
theorem zho {q : Keyed} {a : Array Keyed} {i j : Nat} {x : Keyed} (h : gp false q a i j = false) (hx : a[i + j]? = some x) : kle q x := by
 unfold gp at h; rw [zc9 hx] at h
 simp at h; exact Int.le_of_lt h
theorem zlk {q : Keyed} {a : Array Keyed} {i j : Nat} {x : Keyed} (h : gp true q a i j = true) (hx : a[i + j]? = some x) : kle x q := by
 unfold gp at h; rw [zc9 hx] at h
 simp at h; exact Int.le_of_lt h
theorem zis {q : Keyed} {a : Array Keyed} {i j : Nat} {x : Keyed} (h : gp true q a i j = false) (hx : a[i + j]? = some x) : kle q x := by
 unfold gp at h; rw [zc9 hx] at h
 simp at h; exact h
structure MV (a b out : Array Keyed) (ia ib : Nat) : Prop where
 m : MI a.toList b.toList out.toList ia ib
 ha : ia + 2 ≤ a.size
 hb : ib < b.size
theorem zmi {st : SortSt} {a b : Array Keyed} {Q : Array Keyed → SortSt → Prop} (hk : kindOf st = oneType') (iA : ∀ x ∈ a.toList, zf7 x) (iB : ∀ x ∈ b.toList, zf7 x)
  (hA : a.toList.Pairwise kle) (hB : b.toList.Pairwise kle) (na : 0 < a.size) (nb : 0 < b.size)
  (hb0 : ∀ x ∈ b.toList.take 1, ∀ y ∈ a.toList, kle x y) (hla : ∀ x ∈ b.toList, ∀ y ∈ a.toList.drop (a.size - 1), kle x y)
  (h : ∀ r g, SP a.toList b.toList r.toList → Q r (zen st g)) :
  wpS (model prog w) A E s (zqe a b) Q st := by
 refine wpS_bind (wpS_lift (wpAny_rule ⟨rfl, ?_⟩))
 refine wpS_bind (zbg (Array.getElem?_eq_getElem nb) ?_)
 have m0 : MI a.toList b.toList (#[b[0]] : Array Keyed).toList 0 1 := by
  have z : MI b.toList a.toList (#[] : Array Keyed).toList 0 0 := ⟨List.Perm.refl _, List.Pairwise.nil, nofun, nofun⟩
  exact (z.one hB (Array.getElem?_eq_getElem nb) (fun y hy => hb0 _ (by have := zes (Array.getElem?_eq_getElem nb); rw [List.drop_zero] at this; rw [this]; exact List.mem_singleton.mpr rfl) y hy)).swap
 have pA : ∀ {i}, i < a.size → ∃ p, a[i]? = some p ∧ zf7 p := fun hi => ⟨_, Array.getElem?_eq_getElem hi, iA _ (Array.getElem_mem_toList hi)⟩
 have pB : ∀ {i}, i < b.size → ∃ p, b[i]? = some p ∧ zf7 p := fun hi => ⟨_, Array.getElem?_eq_getElem hi, iB _ (Array.getElem_mem_toList hi)⟩
 refine zap (fun c1 => wpS_pure (h _ (gallopOf st) (m0.doneA hA (Nat.le_of_eq (beq_iff_eq.mp c1).symm)))) (fun c1 => ?_)
 refine zap (fun c2 => wpS_pure (h _ (gallopOf st) (m0.lastE hA hB (beq_iff_eq.mp c2) hla))) (fun c2 => ?_)
 replace c1 : 1 ≠ b.size := fun z => c1 (beq_iff_eq.mpr z)
 replace c2 : 0 + 1 ≠ a.size := fun z => c2 (beq_iff_eq.mpr z)
 refine wpS_bind (wpS_get ?_)
 refine wpS_bind (wpS_mono (wpS_forRange
  (I := fun x c st' => (∃ g, zen st g = st') ∧ ∃ out ia ib mg, c = (none, out, ia, ib, mg) ∧ MV a b out ia ib ∧ x + 1 ≤ ia + ib)
  (Q := fun c st' => (∃ g, zen st g = st') ∧ ∃ r rest, c = (some r, rest) ∧ SP a.toList b.toList r.toList)
  ?_ ?_ ⟨⟨gallopOf st, rfl⟩, _, 0, 1, _, rfl, ⟨m0, by omega, by omega⟩, by omega⟩) ?_)
 ·rintro x0 c st' _ hx0 ⟨⟨g, rfl⟩, out, ia, ib, mg, rfl, v, hx⟩
  refine wpS_bind (wpS_mono (wpS_forRange
   (I := fun x c st' => zen st g = st' ∧ ∃ out ia ib ac bc, c = (none, out, ia, ib, ac, bc) ∧ MV a b out ia ib ∧ x0 + 1 + x ≤ ia + ib)
   (Q := fun c st' => zen st g = st' ∧ ((∃ r rest, c = (some r, rest) ∧ SP a.toList b.toList r.toList) ∨ ∃ out ia ib ac bc, c = (none, out, ia, ib, ac, bc) ∧ MV a b out ia ib ∧ x0 + 2 ≤ ia + ib))
   ?_ ?_ ⟨rfl, out, ia, ib, 0, 0, rfl, v, by omega⟩) ?_)
  ·rintro x c st' _ hx1 ⟨rfl, out, ia, ib, ac, bc, rfl, v, hx⟩
   obtain ⟨p, hp, ip⟩ := pA (show ia < a.size by have := v.ha; omega)
   obtain ⟨q, hq, iq⟩ := pB v.hb
   refine wpS_bind (zbg hq (wpS_bind (zbg hp (wpS_bind (zi9 hk iq ip ?_)))))
   dsimp only
   have va := v.ha
   have vb := v.hb
   refine zap (fun c3 => ?_) (fun c3 => ?_)
   ·have c3' : kle q p := Int.le_of_lt (of_decide_eq_true c3)
    have m2 := (v.m.swap.one hB hq (zk3 (a := b) (i := ib) hA hp c3')).swap
    refine wpS_bind (zbg hq ?_)
    refine zap (fun c4 => wpS_pure ⟨rfl, .inl ⟨_, _, rfl, m2.doneA hA (Nat.le_of_eq (beq_iff_eq.mp c4).symm)⟩⟩) (fun c4 => ?_)
    have c4' : ib + 1 ≠ b.size := fun z => c4 (beq_iff_eq.mpr z)
    exact zap (fun c5 => wpS_pure ⟨rfl, .inr ⟨_, _, _, _, _, rfl, ⟨m2, va, by omega⟩, by omega⟩⟩) (fun c5 => wpS_pure ⟨rfl, _, _, _, _, _, rfl, ⟨m2, va, by omega⟩, by omega⟩)
   ·have c3' : kle p q := Int.not_lt.mp (fun z => c3 (decide_eq_true z))
    have m2 := v.m.one hA hp (zk3 (a := a) (i := ia) hB hq c3')
    refine wpS_bind (zbg hp ?_)
    refine zap (fun c4 => wpS_pure ⟨rfl, .inl ⟨_, _, rfl, m2.lastE hA hB (beq_iff_eq.mp c4) hla⟩⟩) (fun c4 => ?_)
    have c4' : ia + 1 + 1 ≠ a.size := fun z => c4 (beq_iff_eq.mpr z)
    exact zap (fun c5 => wpS_pure ⟨rfl, .inr ⟨_, _, _, _, _, rfl, ⟨m2, by omega, vb⟩, by omega⟩⟩) (fun c5 => wpS_pure ⟨rfl, _, _, _, _, _, rfl, ⟨m2, by omega, vb⟩, by omega⟩)
  ·rintro c st' ⟨rfl, out, ia, ib, ac, bc, rfl, v, hx⟩
   have va := v.ha
   have vb := v.hb
   omega
  ·rintro c st' ⟨rfl, ⟨r, rest, rfl, hr⟩ | ⟨out, ia, ib, ac, bc, rfl, v, hx⟩⟩
   ·exact wpS_pure ⟨⟨g, rfl⟩, r, _, rfl, hr⟩
   refine wpS_bind (wpS_lift (wpAny_rule ⟨rfl, ?_⟩))
   refine wpS_bind (wpS_mono (wpS_forRange
    (I := fun x c st' => (∃ g, zen st g = st') ∧ ∃ out ia ib mg ac bc, c = (none, out, ia, ib, mg, ac, bc) ∧ MV a b out ia ib ∧ x0 + 2 + x ≤ ia + ib)
    (Q := fun c st' => (∃ g, zen st g = st') ∧ ((∃ r rest, c = (some r, rest) ∧ SP a.toList b.toList r.toList) ∨ ∃ out ia ib mg ac bc, c = (none, out, ia, ib, mg, ac, bc) ∧ MV a b out ia ib ∧ x0 + 2 ≤ ia + ib))
    ?_ ?_ ⟨⟨g, rfl⟩, out, ia, ib, _, ac, bc, rfl, v, by omega⟩) ?_)
   ·rintro x c st' _ hx1 ⟨⟨g, rfl⟩, out, ia, ib, mg, ac, bc, rfl, v, hx⟩
    have va := v.ha
    have vb := v.hb
    obtain ⟨q, hq, iq⟩ := pB vb
    dsimp (config := { zeta := false, zetaHave := false, zetaUnused := false }) only
    extract_lets _ _ _ _ _ _ _ _ _ _ _ _ jp
    suffices hj : ∀ mg', wpS (model prog w) A E s (jp () mg') _ (zen st g) from zap (fun _ => hj _) (fun _ => hj _)
    intro mg'
    refine wpS_bind (wpS_modify ?_)
    refine wpS_bind (zbg hq ?_)
    refine wpS_bind (zdo (left := false) (arr := a) (base := ia) (n := a.size - ia) (hint := 0) hk iq (fun i hi => pA (i := ia + i) (by omega)) (fun i j hij hj => zql hA (by omega) (by omega)) (by omega) fun k k1 k2 k3 => ?_)
    have le1 : ∀ x ∈ (a.toList.drop ia).take k, ∀ y ∈ b.toList.drop ib, kle x y := fun x hx y hy => by
     obtain ⟨j, h1, h2, h3⟩ := zeh hx
     exact zk3 (a := a) (i := 0) hB hq (zjs (k2 j h1) h3) y hy
    have le2 : ∀ y ∈ a.toList.drop (ia + k), kle q y := fun y hy => by
     obtain ⟨j, h1, h2, h3⟩ := zfm hy
     exact zho (k3 (j - ia) (by omega) (by omega)) (by rw [show ia + (j - ia) = j by omega]; exact h3)
    dsimp (config := { zeta := false, zetaHave := false, zetaUnused := false }) only
    extract_lets _ jp2
    suffices hj2 : ∀ (o2 : Array Keyed) (i2 : Nat), MI a.toList b.toList o2.toList i2 ib → i2 + 2 ≤ a.size → ia ≤ i2 → (∀ y ∈ a.toList.drop i2, kle q y) → wpS (model prog w) A E s (jp2 () o2 i2) _ (zen st mg') by
     refine zap (fun c3 => ?_) (fun c3 => hj2 out ia v.m va (Nat.le_refl _) (by rw [show ia = ia + k by omega]; exact le2))
     have m2 := v.m.blk hA le1
     refine zap (fun c4 => wpS_pure ⟨⟨mg', rfl⟩, .inl ⟨_, _, rfl, m2.lastE hA hB (beq_iff_eq.mp c4) hla⟩⟩) (fun c4 => ?_)
     refine zap (fun c5 => wpS_pure ⟨⟨mg', rfl⟩, .inl ⟨_, _, rfl, m2.doneB hB (Nat.le_of_eq (beq_iff_eq.mp c5).symm)⟩⟩) (fun c5 => ?_)
     have c4' : ia + k + 1 ≠ a.size := fun z => c4 (beq_iff_eq.mpr z)
     have c5' : ia + k ≠ a.size := fun z => c5 (beq_iff_eq.mpr z)
     exact hj2 _ (ia + k) m2 (by omega) (by omega) le2
    intro o2 i2 m2 hi2 hle qle
    obtain ⟨p, hp, ip⟩ := pA (show i2 < a.size by omega)
    refine wpS_bind (zbg hq ?_)
    have m3 := (m2.swap.one hB hq qle).swap
    refine zap (fun c4 => wpS_pure ⟨⟨mg', rfl⟩, .inl ⟨_, _, rfl, m3.doneA hA (Nat.le_of_eq (beq_iff_eq.mp c4).symm)⟩⟩) (fun c4 => ?_)
    have c4' : ib + 1 ≠ b.size := fun z => c4 (beq_iff_eq.mpr z)
    refine wpS_bind (zbg hp ?_)
    refine wpS_bind (zdo (left := true) (arr := b) (base := ib + 1) (n := b.size - (ib + 1)) (hint := 0) hk ip (fun i hi => pB (i := ib + 1 + i) (by omega)) (fun i j hij hj => zql hB (by omega) (by omega)) (by omega) fun k' l1 l2 l3 => ?_)
    have le3 : ∀ x ∈ (b.toList.drop (ib + 1)).take k', ∀ y ∈ a.toList.drop i2, kle x y := fun x hx y hy => by
     obtain ⟨j, h1, h2, h3⟩ := zeh hx
     exact zk3 (a := a) (i := 0) hA hp (zlk (l2 j h1) h3) y hy
    have le4 : ∀ y ∈ b.toList.drop (ib + 1 + k'), kle p y := fun y hy => by
     obtain ⟨j, h1, h2, h3⟩ := zfm hy
     exact zis (l3 (j - (ib + 1)) (by omega) (by omega)) (by rw [show ib + 1 + (j - (ib + 1)) = j by omega]; exact h3)
    dsimp (config := { zeta := false, zetaHave := false, zetaUnused := false }) only
    extract_lets _ _ jp3
    suffices hj3 : ∀ (o3 : Array Keyed) (i3 : Nat), MI a.toList b.toList o3.toList i2 i3 → i3 < b.size → ib + 1 ≤ i3 → (∀ y ∈ b.toList.drop i3, kle p y) → wpS (model prog w) A E s (jp3 () o3 i3) _ (zen st mg') by
     refine zap (fun c3 => ?_) (fun c3 => hj3 _ (ib + 1) m3 (by omega) (Nat.le_refl _) (by rw [show ib + 1 = ib + 1 + k' by omega]; exact le4))
     have m4 := (m3.swap.blk hB le3).swap
     refine zap (fun c5 => wpS_pure ⟨⟨mg', rfl⟩, .inl ⟨_, _, rfl, m4.doneA hA (Nat.le_of_eq (beq_iff_eq.mp c5).symm)⟩⟩) (fun c5 => ?_)
     have c5' : ib + 1 + k' ≠ b.size := fun z => c5 (beq_iff_eq.mpr z)
     exact hj3 _ (ib + 1 + k') m4 (by omega) (by omega) le4
    intro o3 i3 m4 hi3 hle3 ple
    refine wpS_bind (zbg hp ?_)
    have m5 := m4.one hA hp ple
    refine zap (fun c5 => wpS_pure ⟨⟨mg', rfl⟩, .inl ⟨_, _, rfl, m5.lastE hA hB (beq_iff_eq.mp c5) hla⟩⟩) (fun c5 => ?_)
    have c5' : i2 + 1 + 1 ≠ a.size := fun z => c5 (beq_iff_eq.mpr z)
    exact zap (fun c6 => wpS_pure ⟨⟨mg', rfl⟩, .inr ⟨_, _, _, _, _, _, rfl, ⟨m5, by omega, hi3⟩, by omega⟩⟩) (fun c6 => wpS_pure ⟨⟨mg', rfl⟩, _, _, _, _, _, _, rfl, ⟨m5, by omega, hi3⟩, by omega⟩)
   ·rintro c st' ⟨⟨g, rfl⟩, out, ia, ib, mg, ac, bc, rfl, v, hx⟩
    have va := v.ha
    have vb := v.hb
    omega
   ·rintro c st' ⟨⟨g, rfl⟩, ⟨r, rest, rfl, hr⟩ | ⟨out, ia, ib, mg, ac, bc, rfl, v, hx⟩⟩
    ·exact wpS_pure ⟨⟨g, rfl⟩, r, _, rfl, hr⟩
    ·exact wpS_bind (wpS_modify (wpS_pure ⟨⟨_, rfl⟩, _, _, _, _, rfl, v, by omega⟩))
 ·rintro c st' ⟨⟨g, rfl⟩, out, ia, ib, mg, rfl, v, hx⟩
  have va := v.ha
  have vb := v.hb
  omega
 ·rintro c st' ⟨⟨g, rfl⟩, r, rest, rfl, hr⟩
  exact wpS_pure (h r g hr)
end
end Srt
set_option maxHeartbeats 4000000
namespace Srt
open PySem PyProof PyProof.Rows
structure MH (A B out : List Keyed) (na nb : Nat) : Prop where
 perm : out.Perm (A.drop na ++ B.drop nb)
 srt : out.Pairwise fun x y => kle y x
 la : ∀ x ∈ out, ∀ y ∈ A.take na, kle y x
 lb : ∀ x ∈ out, ∀ y ∈ B.take nb, kle y x
theorem MH.swap {A B out : List Keyed} {na nb : Nat} (m : MH A B out na nb) : MH B A out nb na :=
 ⟨m.perm.trans List.perm_append_comm, m.srt, m.lb, m.la⟩
theorem MH.more {A B out : List Keyed} {na nb : Nat} (hA : A.Pairwise kle) (m : MH A B out na nb) {k : Nat} (hk : k ≤ na) (hn : na ≤ A.length) (hx : ∀ x ∈ (A.take na).drop k, ∀ y ∈ B.take nb, kle y x) :
    MH A B (out ++ ((A.take na).drop k).reverse) k nb := by
  have hd : (A.take na).Pairwise kle := hA.sublist (List.take_sublist _ _)
  have hs : ((A.take na).take k ++ (A.take na).drop k).Pairwise kle := by rw [List.take_append_drop]; exact hd
  obtain ⟨p1, p2, p3⟩ := List.pairwise_append.mp hs
  rw [List.take_take, Nat.min_eq_left hk] at p3
  have ed : A.drop k = (A.take na).drop k ++ A.drop na := by
    conv => lhs; rw [← List.take_append_drop na A]
    rw [List.drop_append_of_le_length (by rw [List.length_take]; omega)]
  refine ⟨?_, List.pairwise_append.mpr ⟨m.srt, List.pairwise_reverse.mpr p2, fun x h y g => m.la x h y (List.mem_of_mem_drop (List.mem_reverse.mp g))⟩, fun x h y g => ?_, fun x h y g => ?_⟩
  · rw [ed]
    refine (List.Perm.append m.perm (List.reverse_perm _)).trans ?_
    refine List.perm_append_comm.trans ?_
    rw [List.append_assoc]
  · rcases List.mem_append.mp h with z | z
    · exact m.la x z y (by have : A.take k = (A.take na).take k := by rw [List.take_take, Nat.min_eq_left hk]
                           rw [this] at g; exact List.mem_of_mem_take g)
    · exact p3 y g x (List.mem_reverse.mp z)
  · rcases List.mem_append.mp h with z | z
    · exact m.lb x z y g
    · exact hx x (List.mem_reverse.mp z) y g
theorem MH.fin {A B out : List Keyed} (m : MH A B out 0 0) : SP A B out.reverse :=
 ⟨(List.reverse_perm _).trans m.perm, List.pairwise_reverse.mpr m.srt⟩
theorem MH.allA {A B out : List Keyed} {na : Nat} (hA : A.Pairwise kle) (m : MH A B out na 0) (hn : na ≤ A.length) : SP A B (A.take na ++ out.reverse) := by
 have h := (m.more hA (Nat.zero_le _) hn (fun x _ y g => by rw [List.take_zero] at g; cases g)).fin
 rwa [List.drop_zero, List.reverse_append, List.reverse_reverse] at h
theorem MH.allB {A B out : List Keyed} {nb : Nat} (hB : B.Pairwise kle) (m : MH A B out 0 nb) (hn : nb ≤ B.length) : SP A B (B.take nb ++ out.reverse) := by
 have h := m.swap.allA hB hn
 exact ⟨h.1.trans List.perm_append_comm, h.2⟩
theorem MH.first {A B out : List Keyed} {na nb : Nat} (hA : A.Pairwise kle) (hB : B.Pairwise kle) (m : MH A B out na nb) (ha : na ≤ A.length) (hb : nb ≤ B.length) (hx : ∀ x ∈ B.take nb, ∀ y ∈ A.take na, kle x y) :
  SP A B (B.take nb ++ A.take na ++ out.reverse) := by
 have h := (m.more hA (Nat.zero_le _) ha (fun x g y g2 => hx y g2 x (by rwa [List.drop_zero] at g))).allB hB hb
 rwa [List.drop_zero, List.reverse_append, List.reverse_reverse, ← List.append_assoc] at h
theorem zpy {a : Array Keyed} {k : Nat} : (a.extract 0 k).toList = a.toList.take k := by
 rw [Array.toList_extract, List.extract_eq_drop_take, List.drop_zero, Nat.sub_zero]
theorem zlg {a : Array Keyed} {i k : Nat} : (a.extract i k).toList = (a.toList.take k).drop i := by
 rw [Array.toList_extract, List.extract_eq_drop_take, List.drop_take]
theorem zku {a : Array Keyed} {n : Nat} {p : Keyed} (h : a[n - 1]? = some p) (hn : 0 < n) (hs : n ≤ a.size) : (a.toList.take n).drop (n - 1) = [p] := by
 have := zes h
 rw [List.drop_take, show n - (n - 1) = 1 by omega]
 exact this
theorem MH.one {a b out : Array Keyed} {na nb : Nat} {p : Keyed} (hA : a.toList.Pairwise kle) (m : MH a.toList b.toList out.toList na nb) (hp : a[na - 1]? = some p) (hn : 0 < na) (hs : na ≤ a.size) (hx : ∀ y ∈ b.toList.take nb, kle y p) :
  MH a.toList b.toList (out.push p).toList (na - 1) nb := by
 have := m.more hA (k := na - 1) (by omega) (by rw [Array.length_toList]; exact hs) (by rw [zku hp hn hs]; intro x hx' y hy; rw [List.mem_singleton.mp hx']; exact hx y hy)
 rw [zku hp hn hs] at this
 rwa [Array.toList_push]
theorem MH.blk {a b out : Array Keyed} {na nb k : Nat} (hA : a.toList.Pairwise kle) (m : MH a.toList b.toList out.toList na nb) (hk : k ≤ na) (hs : na ≤ a.size) (hx : ∀ x ∈ (a.toList.take na).drop k, ∀ y ∈ b.toList.take nb, kle y x) :
  MH a.toList b.toList (out ++ (a.extract k na).reverse).toList k nb := by
 rw [Array.toList_append, Array.toList_reverse, zlg]
 exact m.more hA hk (by rw [Array.length_toList]; exact hs) hx
theorem MH.done0 {a b out : Array Keyed} {na nb : Nat} (hA : a.toList.Pairwise kle) (m : MH a.toList b.toList out.toList na nb) (e : nb = 0) (hs : na ≤ a.size) :
  SP a.toList b.toList (a.extract 0 na ++ b.extract 0 nb ++ out.reverse).toList := by
 subst e
 rw [Array.toList_append, Array.toList_append, Array.toList_reverse, zpy, zpy, List.take_zero, List.append_nil]
 exact m.allA hA (by rw [Array.length_toList]; exact hs)
theorem MH.doneZ {a b out : Array Keyed} {na nb : Nat} (hB : b.toList.Pairwise kle) (m : MH a.toList b.toList out.toList na nb) (e : na = 0) (hs : nb ≤ b.size) :
  SP a.toList b.toList (a.extract 0 na ++ b.extract 0 nb ++ out.reverse).toList := by
 subst e
 rw [Array.toList_append, Array.toList_append, Array.toList_reverse, zpy, zpy, List.take_zero, List.nil_append]
 exact m.allB hB (by rw [Array.length_toList]; exact hs)
theorem MH.firstB {a b out : Array Keyed} {na nb : Nat} (hA : a.toList.Pairwise kle) (hB : b.toList.Pairwise kle) (m : MH a.toList b.toList out.toList na nb) (e : nb = 1) (ha : na ≤ a.size) (hb : 0 < b.size)
  (hx : ∀ x ∈ b.toList.take 1, ∀ y ∈ a.toList, kle x y) : SP a.toList b.toList (b.extract 0 nb ++ a.extract 0 na ++ out.reverse).toList := by
 subst e
 rw [Array.toList_append, Array.toList_append, Array.toList_reverse, zpy, zpy]
 exact m.first hA hB (by rw [Array.length_toList]; exact ha) (by rw [Array.length_toList]; exact hb) fun x h y g => hx x h y (List.mem_of_mem_take g)
theorem zex {a : Array Keyed} {n : Nat} {x : Keyed} (h : x ∈ a.toList.take n) : ∃ j, j < n ∧ j < a.size ∧ a[j]? = some x := by
 obtain ⟨j, h1, h2, h3⟩ := zeh (i := 0) (k := n) (by rw [List.drop_zero]; exact h)
 rw [Nat.zero_add] at h2 h3
 exact ⟨j, h1, h2, h3⟩
theorem ze5 {a : Array Keyed} {n k : Nat} {x : Keyed} (h : x ∈ (a.toList.take n).drop k) : ∃ j, k ≤ j ∧ j < n ∧ j < a.size ∧ a[j]? = some x := by
 rw [List.drop_take] at h
 obtain ⟨j, h1, h2, h3⟩ := zeh h
 exact ⟨k + j, by omega, by omega, h2, h3⟩
theorem zlb {b : Array Keyed} {n : Nat} {p q : Keyed} (hB : b.toList.Pairwise kle) (hq : b[n - 1]? = some q) (h : kle q p) (hn : n ≤ b.size) (h0 : 0 < n) : ∀ y ∈ b.toList.take n, kle y p := by
 intro y hy
 obtain ⟨j, h1, h2, h3⟩ := zex hy
 have := zql hB (i := j) (j := n - 1) (by omega) (by omega)
 rw [zc9 h3, zc9 hq] at this
 exact zkr this h
structure MW (a b out : Array Keyed) (na nb : Nat) : Prop where
 m : MH a.toList b.toList out.toList na nb
 a1 : 1 ≤ na
 a2 : na ≤ a.size
 b1 : 2 ≤ nb
 b2 : nb ≤ b.size
section
variable {prog : Program} {w : World} {A : Around} {E : Value → Shared → Prop} {s : Shared}
theorem zl6 {st : SortSt} {a b : Array Keyed} {Q : Array Keyed → SortSt → Prop} (hk : kindOf st = oneType') (iA : ∀ x ∈ a.toList, zf7 x) (iB : ∀ x ∈ b.toList, zf7 x)
  (hA : a.toList.Pairwise kle) (hB : b.toList.Pairwise kle) (na0 : 0 < a.size) (nb0 : 0 < b.size)
  (hb0 : ∀ x ∈ b.toList.take 1, ∀ y ∈ a.toList, kle x y) (hla : ∀ x ∈ b.toList, ∀ y ∈ a.toList.drop (a.size - 1), kle x y)
  (h : ∀ r g, SP a.toList b.toList r.toList → Q r (zen st g)) :
  wpS (model prog w) A E s (zry a b) Q st := by
 have pA : ∀ {i}, i < a.size → ∃ p, a[i]? = some p ∧ zf7 p := fun hi => ⟨_, Array.getElem?_eq_getElem hi, iA _ (Array.getElem_mem_toList hi)⟩
 have pB : ∀ {i}, i < b.size → ∃ p, b[i]? = some p ∧ zf7 p := fun hi => ⟨_, Array.getElem?_eq_getElem hi, iB _ (Array.getElem_mem_toList hi)⟩
 obtain ⟨z, hz, iz⟩ := pA (show a.size - 1 < a.size by omega)
 refine wpS_bind (wpS_lift (wpAny_rule ⟨rfl, ?_⟩))
 refine wpS_bind (zbg hz ?_)
 have m0 : MH a.toList b.toList (#[z] : Array Keyed).toList (a.size - 1) b.size := by
  have e : MH a.toList b.toList (#[] : Array Keyed).toList a.size b.size := ⟨by rw [List.drop_of_length_le (Nat.le_of_eq Array.length_toList), List.drop_of_length_le (Nat.le_of_eq Array.length_toList)]; exact List.Perm.refl _, List.Pairwise.nil, nofun, nofun⟩
  exact e.one hA hz na0 (Nat.le_refl _) fun y hy => hla y (List.mem_of_mem_take hy) z (List.mem_of_mem_take (i := 1) (by rw [zes hz]; exact List.mem_singleton.mpr rfl))
 refine zap (fun c1 => wpS_pure (h _ (gallopOf st) (m0.doneZ hB (beq_iff_eq.mp c1) (Nat.le_refl _)))) (fun c1 => ?_)
 refine zap (fun c2 => wpS_pure (h _ (gallopOf st) (m0.firstB hA hB (beq_iff_eq.mp c2) (by omega) nb0 hb0))) (fun c2 => ?_)
 replace c1 : a.size - 1 ≠ 0 := fun z => c1 (beq_iff_eq.mpr z)
 replace c2 : b.size ≠ 1 := fun z => c2 (beq_iff_eq.mpr z)
 refine wpS_bind (wpS_get ?_)
 refine wpS_bind (wpS_mono (wpS_forRange
  (I := fun x c st' => (∃ g, zen st g = st') ∧ ∃ na nb out mg, c = (none, na, nb, out, mg) ∧ MW a b out na nb ∧ x + 1 + na + nb ≤ a.size + b.size)
  (Q := fun c st' => (∃ g, zen st g = st') ∧ ∃ r rest, c = (some r, rest) ∧ SP a.toList b.toList r.toList)
  ?_ ?_ ⟨⟨gallopOf st, rfl⟩, _, _, _, _, rfl, ⟨m0, by omega, by omega, by omega, by omega⟩, by omega⟩) ?_)
 ·rintro x0 c st' _ hx0 ⟨⟨g, rfl⟩, na, nb, out, mg, rfl, v, hx⟩
  refine wpS_bind (wpS_mono (wpS_forRange
   (I := fun x c st' => zen st g = st' ∧ ∃ na nb out ac bc, c = (none, na, nb, out, ac, bc) ∧ MW a b out na nb ∧ x0 + 1 + x + na + nb ≤ a.size + b.size)
   (Q := fun c st' => zen st g = st' ∧ ((∃ r rest, c = (some r, rest) ∧ SP a.toList b.toList r.toList) ∨ ∃ na nb out ac bc, c = (none, na, nb, out, ac, bc) ∧ MW a b out na nb ∧ x0 + 2 + na + nb ≤ a.size + b.size))
   ?_ ?_ ⟨rfl, na, nb, out, 0, 0, rfl, v, by omega⟩) ?_)
  ·rintro x c st' _ hx1 ⟨rfl, na, nb, out, ac, bc, rfl, v, hx⟩
   obtain ⟨vm, a1, a2, b1, b2⟩ := v
   obtain ⟨p, hp, ip⟩ := pA (show na - 1 < a.size by omega)
   obtain ⟨q, hq, iq⟩ := pB (show nb - 1 < b.size by omega)
   refine wpS_bind (zbg hq (wpS_bind (zbg hp (wpS_bind (zi9 hk iq ip ?_)))))
   dsimp only
   refine zap (fun c3 => ?_) (fun c3 => ?_)
   ·have c3' : kle q p := Int.le_of_lt (of_decide_eq_true c3)
    have m2 := vm.one hA hp a1 a2 (zlb hB hq c3' b2 (by omega))
    refine wpS_bind (zbg hp ?_)
    refine zap (fun c4 => wpS_pure ⟨rfl, .inl ⟨_, _, rfl, m2.doneZ hB (beq_iff_eq.mp c4) b2⟩⟩) (fun c4 => ?_)
    have c4' : na - 1 ≠ 0 := fun z => c4 (beq_iff_eq.mpr z)
    exact zap (fun c5 => wpS_pure ⟨rfl, .inr ⟨_, _, _, _, _, rfl, ⟨m2, by omega, by omega, b1, b2⟩, by omega⟩⟩) (fun c5 => wpS_pure ⟨rfl, _, _, _, _, _, rfl, ⟨m2, by omega, by omega, b1, b2⟩, by omega⟩)
   ·have c3' : kle p q := Int.not_lt.mp (fun z => c3 (decide_eq_true z))
    have m2 := (vm.swap.one hB hq (by omega) b2 (zlb hA hp c3' a2 a1)).swap
    refine wpS_bind (zbg hq ?_)
    refine zap (fun c4 => wpS_pure ⟨rfl, .inl ⟨_, _, rfl, m2.firstB hA hB (beq_iff_eq.mp c4) a2 nb0 hb0⟩⟩) (fun c4 => ?_)
    have c4' : nb - 1 ≠ 1 := fun z => c4 (beq_iff_eq.mpr z)
    exact zap (fun c5 => wpS_pure ⟨rfl, .inr ⟨_, _, _, _, _, rfl, ⟨m2, a1, a2, by omega, by omega⟩, by omega⟩⟩) (fun c5 => wpS_pure ⟨rfl, _, _, _, _, _, rfl, ⟨m2, a1, a2, by omega, by omega⟩, by omega⟩)
  ·rintro c st' ⟨rfl, na, nb, out, ac, bc, rfl, ⟨vm, a1, a2, b1, b2⟩, hx⟩
   omega
  ·rintro c st' ⟨rfl, ⟨r, rest, rfl, hr⟩ | ⟨na, nb, out, ac, bc, rfl, v, hx⟩⟩
   ·exact wpS_pure ⟨⟨g, rfl⟩, r, _, rfl, hr⟩
   refine wpS_bind (wpS_lift (wpAny_rule ⟨rfl, ?_⟩))
   refine wpS_bind (wpS_mono (wpS_forRange
    (I := fun x c st' => (∃ g, zen st g = st') ∧ ∃ na nb out mg ac bc, c = (none, na, nb, out, mg, ac, bc) ∧ MW a b out na nb ∧ x0 + 2 + x + na + nb ≤ a.size + b.size)
    (Q := fun c st' => (∃ g, zen st g = st') ∧ ((∃ r rest, c = (some r, rest) ∧ SP a.toList b.toList r.toList) ∨ ∃ na nb out mg ac bc, c = (none, na, nb, out, mg, ac, bc) ∧ MW a b out na nb ∧ x0 + 2 + na + nb ≤ a.size + b.size))
    ?_ ?_ ⟨⟨g, rfl⟩, na, nb, out, _, ac, bc, rfl, v, by omega⟩) ?_)
   ·rintro x c st' _ hx1 ⟨⟨g, rfl⟩, na, nb, out, mg, ac, bc, rfl, ⟨vm, a1, a2, b1, b2⟩, hx⟩
    obtain ⟨q, hq, iq⟩ := pB (show nb - 1 < b.size by omega)
    dsimp (config := { zeta := false, zetaHave := false, zetaUnused := false }) only
    extract_lets _ _ _ _ _ _ _ _ _ _ _ _ jp
    suffices hj : ∀ mg', wpS (model prog w) A E s (jp () mg') _ (zen st g) from zap (fun _ => hj _) (fun _ => hj _)
    intro mg'
    refine wpS_bind (wpS_modify ?_)
    refine wpS_bind (zbg hq ?_)
    refine wpS_bind (zdo (left := false) (arr := a) (base := 0) (n := na) (hint := na - 1) hk iq (fun i hi => by rw [Nat.zero_add]; exact pA (i := i) (by omega)) (fun i j hij hj => by rw [Nat.zero_add, Nat.zero_add]; exact zql hA hij (by omega)) (by omega) fun k k1 k2 k3 => ?_)
    have le1 : ∀ x ∈ (a.toList.take na).drop k, ∀ y ∈ b.toList.take nb, kle y x := fun x hx y hy => by
     obtain ⟨j, h1, h2, h3, h4⟩ := ze5 hx
     exact zlb hB hq (zho (k3 j h1 h2) (by rw [Nat.zero_add]; exact h4)) b2 (by omega) y hy
    have le2 : ∀ y ∈ a.toList.take k, kle y q := fun y hy => by
     obtain ⟨j, h1, h2, h3⟩ := zex hy
     exact zjs (k2 j h1) (by rw [Nat.zero_add]; exact h3)
    dsimp (config := { zeta := false, zetaHave := false, zetaUnused := false }) only
    extract_lets _ _ jp2
    suffices hj2 : ∀ (n2 : Nat) (o2 : Array Keyed), MH a.toList b.toList o2.toList n2 nb → 1 ≤ n2 → n2 ≤ na → (∀ y ∈ a.toList.take n2, kle y q) → wpS (model prog w) A E s (jp2 () n2 o2) _ (zen st mg') by
     refine zap (fun c3 => ?_) (fun c3 => hj2 na out vm a1 (Nat.le_refl _) (by have c3' : ¬ (na - k > 0) := c3; rw [show na = k by omega]; exact le2))
     have m2 := vm.blk hA k1 a2 le1
     refine zap (fun c4 => wpS_pure ⟨⟨mg', rfl⟩, .inl ⟨_, _, rfl, m2.doneZ hB (beq_iff_eq.mp c4) b2⟩⟩) (fun c4 => ?_)
     have c4' : k ≠ 0 := fun z => c4 (beq_iff_eq.mpr z)
     exact hj2 k _ m2 (by omega) k1 le2
    intro n2 o2 m2 hn2 hle qle
    obtain ⟨p, hp, ip⟩ := pA (show n2 - 1 < a.size by omega)
    refine wpS_bind (zbg hq ?_)
    have m3 := (m2.swap.one hB hq (by omega) b2 qle).swap
    refine zap (fun c4 => wpS_pure ⟨⟨mg', rfl⟩, .inl ⟨_, _, rfl, m3.firstB hA hB (beq_iff_eq.mp c4) (by omega) nb0 hb0⟩⟩) (fun c4 => ?_)
    have c4' : nb - 1 ≠ 1 := fun z => c4 (beq_iff_eq.mpr z)
    refine wpS_bind (zbg hp ?_)
    refine wpS_bind (zdo (left := true) (arr := b) (base := 0) (n := nb - 1) (hint := nb - 1 - 1) hk ip (fun i hi => by rw [Nat.zero_add]; exact pB (i := i) (by omega)) (fun i j hij hj => by rw [Nat.zero_add, Nat.zero_add]; exact zql hB hij (by omega)) (by omega) fun k' l1 l2 l3 => ?_)
    have le3 : ∀ x ∈ (b.toList.take (nb - 1)).drop k', ∀ y ∈ a.toList.take n2, kle y x := fun x hx y hy => by
     obtain ⟨j, h1, h2, h3, h4⟩ := ze5 hx
     exact zlb hA hp (zis (l3 j h1 h2) (by rw [Nat.zero_add]; exact h4)) (by omega) hn2 y hy
    have le4 : ∀ y ∈ b.toList.take k', kle y p := fun y hy => by
     obtain ⟨j, h1, h2, h3⟩ := zex hy
     exact zlk (l2 j h1) (by rw [Nat.zero_add]; exact h3)
    dsimp (config := { zeta := false, zetaHave := false, zetaUnused := false }) only
    extract_lets _ _ _ jp3
    suffices hj3 : ∀ (n3 : Nat) (o3 : Array Keyed), MH a.toList b.toList o3.toList n2 n3 → 2 ≤ n3 → n3 ≤ nb - 1 → (∀ y ∈ b.toList.take n3, kle y p) → wpS (model prog w) A E s (jp3 () n3 o3) _ (zen st mg') by
     refine zap (fun c3 => ?_) (fun c3 => hj3 (nb - 1) _ m3 (by omega) (Nat.le_refl _) (by have c3' : ¬ (nb - 1 - k' > 0) := c3; rw [show nb - 1 = k' by omega]; exact le4))
     have m4 := (m3.swap.blk hB l1 (by omega) le3).swap
     refine zap (fun c5 => wpS_pure ⟨⟨mg', rfl⟩, .inl ⟨_, _, rfl, m4.firstB hA hB (beq_iff_eq.mp c5) (by omega) nb0 hb0⟩⟩) (fun c5 => ?_)
     refine zap (fun c6 => wpS_pure ⟨⟨mg', rfl⟩, .inl ⟨_, _, rfl, m4.done0 hA (beq_iff_eq.mp c6) (by omega)⟩⟩) (fun c6 => ?_)
     have c5' : k' ≠ 1 := fun z => c5 (beq_iff_eq.mpr z)
     have c6' : k' ≠ 0 := fun z => c6 (beq_iff_eq.mpr z)
     exact hj3 k' _ m4 (by omega) l1 le4
    intro n3 o3 m4 hn3 hle3 ple
    refine wpS_bind (zbg hp ?_)
    have m5 := m4.one hA hp hn2 (by omega) ple
    refine zap (fun c5 => wpS_pure ⟨⟨mg', rfl⟩, .inl ⟨_, _, rfl, m5.doneZ hB (beq_iff_eq.mp c5) (by omega)⟩⟩) (fun c5 => ?_)
    have c5' : n2 - 1 ≠ 0 := fun z => c5 (beq_iff_eq.mpr z)
    exact zap (fun c6 => wpS_pure ⟨⟨mg', rfl⟩, .inr ⟨_, _, _, _, _, _, rfl, ⟨m5, by omega, by omega, hn3, by omega⟩, by omega⟩⟩) (fun c6 => wpS_pure ⟨⟨mg', rfl⟩, _, _, _, _, _, _, rfl, ⟨m5, by omega, by omega, hn3, by omega⟩, by omega⟩)
   ·rintro c st' ⟨⟨g, rfl⟩, na, nb, out, mg, ac, bc, rfl, ⟨vm, a1, a2, b1, b2⟩, hx⟩
    omega
   ·rintro c st' ⟨⟨g, rfl⟩, ⟨r, rest, rfl, hr⟩ | ⟨na, nb, out, mg, ac, bc, rfl, v, hx⟩⟩
    ·exact wpS_pure ⟨⟨g, rfl⟩, r, _, rfl, hr⟩
    ·exact wpS_bind (wpS_modify (wpS_pure ⟨⟨_, rfl⟩, _, _, _, _, rfl, v, by omega⟩))
 ·rintro c st' ⟨⟨g, rfl⟩, na, nb, out, mg, rfl, ⟨vm, a1, a2, b1, b2⟩, hx⟩
  omega
 ·rintro c st' ⟨⟨g, rfl⟩, r, rest, rfl, hr⟩
  exact wpS_pure (h r g hr)
end
end Srt
set_option maxHeartbeats 4000000
namespace Srt
open PySem PyProof PyProof.Rows
def AllI (xs : Array Keyed) : Prop := ∀ p ∈ xs.toList, zf7 p
theorem AllI.perm {xs ys : Array Keyed} (h : AllI xs) (hp : ys.Perm xs) : AllI ys := fun p hm => h p ((Array.perm_iff_toList_perm.mp hp).mem_iff.mp hm)
def zbc (xs : Array Keyed) (i j : Nat) : Prop := ∀ p q, i ≤ p → p ≤ q → q < j → K xs p ≤ K xs q
def zfq (xs : Array Keyed) (at' n : Nat) (l : List Keyed) : Array Keyed := (l.zipIdx n).foldl (fun a (p : Keyed × Nat) => a.setIfInBounds (at' + p.2) p.1) xs
theorem zgn : ∀ (l : List Keyed) (xs : Array Keyed) (at' n : Nat), at' + n + l.length ≤ xs.size → ∀ k : Nat,
  (zfq xs at' n l)[k]? = if at' + n ≤ k ∧ k < at' + n + l.length then l[k - (at' + n)]? else xs[k]?
 | [], xs, at', n, _, k => by
  show xs[k]? = _
  rw [if_neg (by rw [List.length_nil]; omega)]
 | p :: l, xs, at', n, h, k => by
  rw [List.length_cons] at h ⊢
  show (zfq (xs.setIfInBounds (at' + n) p) at' (n + 1) l)[k]? = _
  rw [zgn l _ at' (n + 1) (by rw [Array.size_setIfInBounds]; omega) k]
  by_cases e : k = at' + n
  ·subst e
   rw [if_neg (by omega), if_pos (by omega), Nat.sub_self, List.getElem?_cons_zero, Array.getElem?_setIfInBounds_self_of_lt (by omega)]
  ·by_cases g : at' + n ≤ k ∧ k < at' + n + (l.length + 1)
   ·rw [if_pos g, if_pos (by omega), show k - (at' + n) = (k - (at' + (n + 1))) + 1 by omega, List.getElem?_cons_succ]
   ·rw [if_neg g, if_neg (by omega), Array.getElem?_setIfInBounds_ne (by omega)]
theorem zm7 {xs : Array Keyed} {at' : Nat} {l : List Keyed} (h : at' + l.length ≤ xs.size) :
  (zfq xs at' 0 l).toList = xs.toList.take at' ++ (l ++ xs.toList.drop (at' + l.length)) := by
 have hlt : (xs.toList.take at').length = at' := by rw [List.length_take, Array.length_toList]; omega
 apply List.ext_getElem?
 intro k
 have e := zgn l xs at' 0 (by omega) k
 rw [Nat.add_zero] at e
 rw [Array.getElem?_toList, e]
 by_cases h1 : k < at'
 ·rw [if_neg (by omega), List.getElem?_append_left (by omega), List.getElem?_take, if_pos h1, Array.getElem?_toList]
 ·rw [List.getElem?_append_right (by omega), hlt]
  by_cases h2 : k < at' + l.length
  ·rw [if_pos (by omega), List.getElem?_append_left (by omega)]
  ·rw [if_neg (by omega), List.getElem?_append_right (by omega), List.getElem?_drop, Array.getElem?_toList, show at' + l.length + (k - at' - l.length) = k by omega]
theorem zq1 {xs : Array Keyed} {i j : Nat} (h : i ≤ j) : xs.toList = xs.toList.take i ++ ((xs.extract i j).toList ++ xs.toList.drop j) := by
 rw [zlg, ← List.append_assoc]
 have : xs.toList.take i ++ (xs.toList.take j).drop i = xs.toList.take j := by
  conv => rhs; rw [← List.take_append_drop i (xs.toList.take j)]
  rw [List.take_take, Nat.min_eq_left h]
 rw [this, List.take_append_drop]
theorem ztm {xs : Array Keyed} {i j : Nat} (h : zbc xs i j) (hj : j ≤ xs.size) : (xs.extract i j).toList.Pairwise kle := by
 rw [List.pairwise_iff_getElem]
 intro p q hp hq hpq
 rw [zlg, List.length_drop, List.length_take, Array.length_toList] at hp hq
 simp only [zlg, List.getElem_drop, List.getElem_take, Array.getElem_toList]
 have := h (i + p) (i + q) (by omega) (by omega) (by omega)
 rw [zc9 (Array.getElem?_eq_getElem (by omega)), zc9 (Array.getElem?_eq_getElem (by omega))] at this
 exact this
section
variable {prog : Program} {w : World} {A : Around} {E : Value → Shared → Prop} {s : Shared}
theorem znb {st : SortSt} {i sa na sb nb pw pw2 : Nat} {Q : Bool → SortSt → Prop} (hk : kindOf st = oneType') (hf : failedOf st = none) (hI : AllI (arrOf st))
  (h1 : (pendingOf st)[i]? = some (sa, na, pw)) (h2 : (pendingOf st)[i + 1]? = some (sb, nb, pw2)) (hsb : sb = sa + na) (hna : 1 ≤ na) (hnb : 1 ≤ nb) (hsz : sb + nb ≤ (arrOf st).size)
  (s1 : zbc (arrOf st) sa sb) (s2 : zbc (arrOf st) sb (sb + nb))
  (h : ∀ xs g, xs.Perm (arrOf st) → zbc xs sa (sb + nb) → (∀ k, k < sa ∨ sb + nb ≤ k → K xs k = K (arrOf st) k) →
   Q true (SortSt.mk' oneType' xs (((pendingOf st).setIfInBounds i (sa, na + nb, pw)).eraseIdxIfInBounds (i + 1)) g none)) :
  wpS (model prog w) A E s (mergeAt' i) Q st := by
 obtain ⟨kd, xs, pd, g0, fl⟩ := st
 cases hk
 cases hf
 refine wpS_bind (wpS_get ?_)
 have h1' : pd[i]? = some (sa, na, pw) := h1
 have h2' : pd[i + 1]? = some (sb, nb, pw2) := h2
 replace hI : AllI xs := hI
 replace hsz : sb + nb ≤ xs.size := hsz
 replace s1 : zbc xs sa sb := s1
 replace s2 : zbc xs sb (sb + nb) := s2
 replace h : ∀ ys g, ys.Perm xs → zbc ys sa (sb + nb) → (∀ k, k < sa ∨ sb + nb ≤ k → K ys k = K xs k) →
   Q true (SortSt.mk' oneType' ys ((pd.setIfInBounds i (sa, na + nb, pw)).eraseIdxIfInBounds (i + 1)) g none) := h
 dsimp only
 rw [h1', h2']
 dsimp only
 have pX : ∀ {i}, i < xs.size → ∃ p, xs[i]? = some p ∧ zf7 p := fun hi => ⟨_, Array.getElem?_eq_getElem hi, hI _ (Array.getElem_mem_toList hi)⟩
 refine wpS_bind (wpS_modify ?_)
 obtain ⟨q, hq, iq⟩ := pX (show sb < xs.size by omega)
 refine wpS_bind (zbg hq ?_)
 refine wpS_bind (zdo (left := false) (arr := xs) (base := sa) (n := na) (hint := 0) rfl iq (fun i hi => pX (i := sa + i) (by omega)) (fun i j hij hj => s1 _ _ (by omega) (by omega) (by omega)) (by omega) fun k k1 k2 k3 => ?_)
 have f1 : ∀ p, sa ≤ p → p < sa + k → K xs p ≤ K xs sb := fun p p1 p2 => by
  obtain ⟨u, hu, _⟩ := pX (show p < xs.size by omega)
  rw [zc9 hu, zc9 hq]
  exact zjs (k2 (p - sa) (by omega)) (by rw [show sa + (p - sa) = p by omega]; exact hu)
 have f2 : ∀ p, sa + k ≤ p → p < sb → K xs sb ≤ K xs p := fun p p1 p2 => by
  obtain ⟨u, hu, _⟩ := pX (show p < xs.size by omega)
  rw [zc9 hu, zc9 hq]
  exact zho (k3 (p - sa) (by omega) (by omega)) (by rw [show sa + (p - sa) = p by omega]; exact hu)
 refine zap (fun c1 => wpS_pure ?_) (fun c1 => ?_)
 ·have c1' : na - k = 0 := beq_iff_eq.mp c1
  refine h xs g0 (Array.Perm.refl _) (fun p q' p1 p2 p3 => ?_) (fun _ _ => rfl)
  by_cases hp : q' < sb
  ·exact s1 _ _ p1 p2 hp
  ·by_cases hp2 : p < sb
   ·exact Int.le_trans (f1 p p1 (by omega)) (s2 _ _ (Nat.le_refl _) (by omega) p3)
   ·exact s2 _ _ (by omega) p2 p3
 have c1' : na - k ≠ 0 := fun z => c1 (beq_iff_eq.mpr z)
 obtain ⟨u, hu, iu⟩ := pX (show sb - 1 < xs.size by omega)
 have eu : sa + k + (na - k) - 1 = sb - 1 := by omega
 refine wpS_bind (zbg (p := u) (by rw [eu]; exact hu) ?_)
 refine wpS_bind (zdo (left := true) (arr := xs) (base := sb) (n := nb) (hint := nb - 1) rfl iu (fun i hi => pX (i := sb + i) (by omega)) (fun i j hij hj => s2 _ _ (by omega) (by omega) (by omega)) (by omega) fun n' n1 n2 n3 => ?_)
 have f3 : ∀ p, sb ≤ p → p < sb + n' → K xs p ≤ K xs (sb - 1) := fun p p1 p2 => by
  obtain ⟨v, hv, _⟩ := pX (show p < xs.size by omega)
  rw [zc9 hv, zc9 hu]
  exact zlk (n2 (p - sb) (by omega)) (by rw [show sb + (p - sb) = p by omega]; exact hv)
 have f4 : ∀ p, sb + n' ≤ p → p < sb + nb → K xs (sb - 1) ≤ K xs p := fun p p1 p2 => by
  obtain ⟨v, hv, _⟩ := pX (show p < xs.size by omega)
  rw [zc9 hv, zc9 hu]
  exact zis (n3 (p - sb) (by omega) (by omega)) (by rw [show sb + (p - sb) = p by omega]; exact hv)
 refine zap (fun c2 => wpS_pure ?_) (fun c2 => ?_)
 ·have c2' : n' = 0 := beq_iff_eq.mp c2
  refine h xs g0 (Array.Perm.refl _) (fun p q' p1 p2 p3 => ?_) (fun _ _ => rfl)
  by_cases hp : q' < sb
  ·exact s1 _ _ p1 p2 hp
  ·by_cases hp2 : p < sb
   ·exact Int.le_trans (s1 p (sb - 1) p1 (by omega) (by omega)) (f4 _ (by omega) p3)
   ·exact s2 _ _ (by omega) p2 p3
 have c2' : n' ≠ 0 := fun z => c2 (beq_iff_eq.mpr z)
 have zX : (xs.extract (sa + k) sb).size = sb - (sa + k) := by rw [Array.size_extract]; omega
 have zY : (xs.extract sb (sb + n')).size = n' := by rw [Array.size_extract]; omega
 have gX : ∀ x ∈ (xs.extract (sa + k) sb).toList, ∃ j, sa + k ≤ j ∧ j < sb ∧ xs[j]? = some x := fun x hx => by
  rw [zlg] at hx
  obtain ⟨j, j1, j2, j3, j4⟩ := ze5 hx
  exact ⟨j, j1, j2, j4⟩
 have gY : ∀ x ∈ (xs.extract sb (sb + n')).toList, ∃ j, sb ≤ j ∧ j < sb + n' ∧ xs[j]? = some x := fun x hx => by
  rw [zlg] at hx
  obtain ⟨j, j1, j2, j3, j4⟩ := ze5 hx
  exact ⟨j, j1, j2, j4⟩
 have iX : ∀ x ∈ (xs.extract (sa + k) sb).toList, zf7 x := fun x hx => by
  obtain ⟨j, _, _, hj⟩ := gX x hx
  exact hI x (zqk hj)
 have iY : ∀ x ∈ (xs.extract sb (sb + n')).toList, zf7 x := fun x hx => by
  obtain ⟨j, _, _, hj⟩ := gY x hx
  exact hI x (zqk hj)
 have pwX : (xs.extract (sa + k) sb).toList.Pairwise kle := ztm (fun p q p1 p2 p3 => s1 p q (by omega) p2 p3) (by omega)
 have pwY : (xs.extract sb (sb + n')).toList.Pairwise kle := ztm (fun p q p1 p2 p3 => s2 p q p1 p2 (by omega)) (by omega)
 have hb0 : ∀ x ∈ (xs.extract sb (sb + n')).toList.take 1, ∀ y ∈ (xs.extract (sa + k) sb).toList, kle x y := fun x hx y hy => by
  have e0 : (xs.extract sb (sb + n'))[0]? = some q := by
   rw [Array.getElem?_extract, if_pos (by omega), Nat.add_zero]; exact hq
  have := zes e0
  rw [List.drop_zero] at this
  rw [this] at hx
  rw [List.mem_singleton.mp hx]
  obtain ⟨j, j1, j2, j3⟩ := gX y hy
  have := f2 j j1 j2
  rwa [zc9 hq, zc9 j3] at this
 have hla : ∀ x ∈ (xs.extract sb (sb + n')).toList, ∀ y ∈ (xs.extract (sa + k) sb).toList.drop ((xs.extract (sa + k) sb).size - 1), kle x y := fun x hx y hy => by
  have e0 : (xs.extract (sa + k) sb)[(xs.extract (sa + k) sb).size - 1]? = some u := by
   rw [zX, Array.getElem?_extract, if_pos (by omega), show sa + k + (sb - (sa + k) - 1) = sb - 1 by omega]; exact hu
  have hy' : y = u := by
   obtain ⟨j, j1, j2, j3⟩ := zfm hy
   have : j = (xs.extract (sa + k) sb).size - 1 := by omega
   rw [this, e0] at j3
   exact (Option.some.inj j3).symm
  rw [hy']
  obtain ⟨j, j1, j2, j3⟩ := gY x hx
  have := f3 j j1 j2
  rwa [zc9 hu, zc9 j3] at this
 have fin : ∀ (r : Array Keyed) (g : Nat), SP (xs.extract (sa + k) sb).toList (xs.extract sb (sb + n')).toList r.toList →
   Q true (SortSt.mk' oneType' (zfq xs (sa + k) 0 r.toList) ((pd.setIfInBounds i (sa, na + nb, pw)).eraseIdxIfInBounds (i + 1)) g none) := by
  intro r g hr
  have hl : r.toList.length = sb - (sa + k) + n' := by
   rw [hr.1.length_eq, List.length_append, Array.length_toList, Array.length_toList, zX, zY]
  have hget := zgn r.toList xs (sa + k) 0 (by omega)
  have hmid : ∀ p, sa + k ≤ p → p < sb + n' → ∃ x, (zfq xs (sa + k) 0 r.toList)[p]? = some x ∧ r.toList[p - (sa + k)]? = some x ∧ x ∈ r.toList := fun p p1 p2 => by
   have e := hget p
   rw [if_pos (by omega), Nat.add_zero] at e
   have hp : p - (sa + k) < r.toList.length := by omega
   rw [List.getElem?_eq_getElem hp] at e ⊢
   exact ⟨_, e, rfl, List.getElem_mem hp⟩
  have hout : ∀ p, p < sa + k ∨ sb + n' ≤ p → K (zfq xs (sa + k) 0 r.toList) p = K xs p := fun p hp => by
   have e := hget p
   rw [if_neg (by omega)] at e
   exact K_congr e
  have hbd : ∀ x ∈ r.toList, K xs sb ≤ kn x ∧ kn x ≤ K xs (sb - 1) := fun x hx => by
   rcases List.mem_append.mp (hr.1.mem_iff.mp hx) with z | z
   ·obtain ⟨j, j1, j2, j3⟩ := gX x z
    rw [← zc9 j3]
    exact ⟨f2 j j1 j2, s1 _ _ (by omega) (by omega) (by omega)⟩
   ·obtain ⟨j, j1, j2, j3⟩ := gY x z
    rw [← zc9 j3]
    exact ⟨s2 _ _ (Nat.le_refl _) j1 (by omega), f3 j j1 j2⟩
  have hKm : ∀ p, sa + k ≤ p → p < sb + n' → K xs sb ≤ K (zfq xs (sa + k) 0 r.toList) p ∧ K (zfq xs (sa + k) 0 r.toList) p ≤ K xs (sb - 1) := fun p p1 p2 => by
   obtain ⟨x, x1, x2, x3⟩ := hmid p p1 p2
   rw [zc9 x1]
   exact hbd x x3
  refine h _ g ?_ ?_ (fun p hp => hout p (by omega))
  ·refine Array.perm_iff_toList_perm.mpr ?_
   rw [zm7 (by omega), hl, show sa + k + (sb - (sa + k) + n') = sb + n' by omega]
   conv => rhs; rw [zq1 (xs := xs) (i := sa + k) (j := sb + n') (by omega)]
   refine List.Perm.append_left _ (List.Perm.append_right _ (hr.1.trans ?_))
   rw [zlg, zlg, zlg]
   have e1 : (xs.toList.take (sb + n')).drop (sa + k) = (xs.toList.take sb).drop (sa + k) ++ (xs.toList.take (sb + n')).drop sb := by
    conv => lhs; rw [← List.take_append_drop sb (xs.toList.take (sb + n'))]
    rw [List.take_take, Nat.min_eq_left (by omega), List.drop_append_of_le_length (by rw [List.length_take, Array.length_toList]; omega)]
   rw [e1]
  ·intro p q' p1 p2 p3
   by_cases a1 : q' < sa + k
   ·rw [hout p (.inl (by omega)), hout q' (.inl a1)]
    exact s1 _ _ p1 p2 (by omega)
   ·by_cases a2 : q' < sb + n'
    ·by_cases a3 : p < sa + k
     ·rw [hout p (.inl a3)]
      exact Int.le_trans (f1 p p1 a3) (hKm q' (by omega) a2).1
     ·obtain ⟨x, x1, x2, _⟩ := hmid p (by omega) (by omega)
      obtain ⟨y, y1, y2, _⟩ := hmid q' (by omega) a2
      rw [zc9 x1, zc9 y1]
      by_cases a4 : p = q'
      ·subst a4
       rw [x1] at y1
       rw [Option.some.inj y1]
       exact Int.le_refl _
      ·obtain ⟨i1, e1⟩ := List.getElem?_eq_some_iff.mp x2
       obtain ⟨i2, e2⟩ := List.getElem?_eq_some_iff.mp y2
       have := List.pairwise_iff_getElem.mp hr.2 _ _ i1 i2 (by omega)
       rwa [e1, e2] at this
    ·rw [hout q' (.inr (by omega))]
     by_cases a3 : p < sa + k
     ·rw [hout p (.inl a3)]
      exact Int.le_trans (f1 p p1 a3) (s2 _ _ (Nat.le_refl _) (by omega) p3)
     ·by_cases a4 : p < sb + n'
      ·exact Int.le_trans (hKm p (by omega) a4).2 (f4 q' (by omega) p3)
      ·rw [hout p (.inr (by omega))]
       exact s2 _ _ (by omega) p2 p3
 refine zap (fun c3 => ?_) (fun c3 => ?_)
 ·refine wpS_bind (zmi rfl iX iY pwX pwY (by omega) (by omega) hb0 hla fun r g hr => ?_)
  exact wpS_bind (wpS_modify (wpS_bind (wpS_get (wpS_pure (fin r g hr)))))
 ·refine wpS_bind (zl6 rfl iX iY pwX pwY (by omega) (by omega) hb0 hla fun r g hr => ?_)
  exact wpS_bind (wpS_modify (wpS_bind (wpS_get (wpS_pure (fin r g hr)))))
end
end Srt
set_option maxHeartbeats 4000000
namespace Srt
open PySem PyProof PyProof.Rows
theorem zt1 {xs : Array Keyed} {i : Nat} : zbc xs i (i + 1) := fun p q p1 p2 p3 => by
 have : p = q := by omega
 subst this; exact Int.le_refl _
def znh (xs : Array Keyed) (i j : Nat) : Prop := ∀ p q, i ≤ p → p ≤ q → q < j → K xs q ≤ K xs p
section
variable {prog : Program} {w : World} {A : Around} {E : Value → Shared → Prop} {s : Shared}
theorem zfv {st : SortSt} {xs : Array Keyed} {i j : Nat} {Q : Option Bool → SortSt → Prop} (hk : kindOf st = oneType') (hI : AllI xs) (hi : i < xs.size) (hj : j < xs.size)
  (h : Q (some (decide (K xs i < K xs j))) (setArr st xs)) : wpS (model prog w) A E s (ltAt' i j) Q (setArr st xs) := by
 have e1 := Array.getElem?_eq_getElem hi
 have e2 := Array.getElem?_eq_getElem hj
 rw [ltAt'_eq]
 refine wpS_bind (wpS_get ?_)
 refine wpS_bind (zbg e1 (wpS_bind (zbg e2 (zi9 hk (hI _ (Array.getElem_mem_toList hi)) (hI _ (Array.getElem_mem_toList hj)) ?_))))
 rw [zc9 e1, zc9 e2] at h
 exact h
theorem zjy {st : SortSt} {xs : Array Keyed} {lo nrem : Nat} {Q : Option Nat → SortSt → Prop} (hk : kindOf st = oneType') (hI : AllI xs) (hn : lo + nrem ≤ xs.size) (h1 : 1 ≤ nrem)
  (h : ∀ m ys, ys.Perm xs → (∀ k, k < lo → K ys k = K xs k) → 1 ≤ m → m ≤ nrem → zbc ys lo (lo + m) → Q (some m) (setArr st ys)) :
  wpS (model prog w) A E s (countRun' lo nrem) Q (setArr st xs) := by
 refine wpS_bind (wpS_mono (wpS_forRange
  (I := fun x c st' => setArr st xs = st' ∧ c = (none, x) ∧ x ≤ nrem ∧ zbc xs lo (lo + x))
  (Q := fun c st' => setArr st xs = st' ∧ ∃ n, c = (none, n) ∧ 1 ≤ n ∧ n ≤ nrem ∧ zbc xs lo (lo + n) ∧ (n = nrem ∨ K xs (lo + n) < K xs (lo + n - 1)))
  ?_ ?_ ⟨rfl, rfl, h1, zt1⟩) ?_)
 ·rintro x c st' hx1 hx2 ⟨rfl, rfl, hx, hs⟩
  dsimp only
  refine wpS_bind (zfv hk hI (by omega) (by omega) ?_)
  dsimp only
  refine zap (fun c1 => wpS_pure ⟨rfl, x, rfl, hx1, by omega, hs, .inr (of_decide_eq_true c1)⟩) (fun c1 => wpS_pure ⟨rfl, rfl, by omega, fun p q p1 p2 p3 => ?_⟩)
  have c1' : K xs (lo + x - 1) ≤ K xs (lo + x) := Int.not_lt.mp fun z => c1 (decide_eq_true z)
  by_cases hq : q < lo + x
  ·exact hs p q p1 p2 hq
  ·have : q = lo + x := by omega
   subst this
   by_cases hp : p = lo + x
   ·subst hp; exact Int.le_refl _
   ·exact Int.le_trans (hs p (lo + x - 1) p1 (by omega) (by omega)) c1'
 ·rintro c st' ⟨rfl, rfl, hx, hs⟩
  rw [show max 1 nrem = nrem by omega] at hs ⊢
  exact ⟨rfl, _, rfl, h1, Nat.le_refl _, hs, .inl rfl⟩
 rintro c st' ⟨rfl, n, rfl, n1, n2, hs, hor⟩
 refine zap (c := (n == nrem) = true) (fun c1 => wpS_pure (h n xs (Array.Perm.refl _) (fun _ _ => rfl) n1 n2 hs)) (fun c1 => ?_)
 have c1' : n ≠ nrem := fun z => c1 (beq_iff_eq.mpr z)
 have hlt := hor.resolve_left c1'
 extract_lets _ _ jp
 suffices hj : ∀ ys, ys.Perm xs → (∀ k, k < lo → K ys k = K xs k) → znh ys lo (lo + (n + 1)) → wpS (model prog w) A E s (jp ()) Q (setArr st ys) by
  refine zap (fun c2 => ?_) (fun c2 => ?_)
  ·refine wpS_bind (zfv hk hI (by omega) (by omega) ?_)
   refine zap (c := decide (K xs lo < K xs (lo + n - 1)) = true) (fun c3 => wpS_pure (h n xs (Array.Perm.refl _) (fun _ _ => rfl) n1 n2 hs)) (fun c3 => ?_)
   have c3' : K xs (lo + n - 1) ≤ K xs lo := Int.not_lt.mp fun z => c3 (decide_eq_true z)
   have all : ∀ k, lo ≤ k → k < lo + n → K xs k = K xs (lo + n - 1) := fun k k1 k2 => by
    have a1 := hs lo k (Nat.le_refl _) k1 k2
    have a2 := hs k (lo + n - 1) k1 (by omega) (by omega)
    omega
   refine wpS_bind (wpS_modify ?_)
   have e := K_mirror_equal (i := lo) (j := lo + n) (xs := xs) (by omega) all
   refine hj (mirror xs lo (lo + n) ((lo + n - lo) / 2)) (mirror_perm _ _ _ _) (fun k _ => e k) (fun p q p1 p2 p3 => ?_)
   rw [e, e]
   by_cases hq : q < lo + n
   ·rw [all q (by omega) hq, all p p1 (by omega)]; exact Int.le_refl _
   ·have : q = lo + n := by omega
    subst this
    by_cases hp : p = lo + n
    ·subst hp; exact Int.le_refl _
    ·rw [all p p1 (by omega)]; exact Int.le_of_lt hlt
  ·refine hj xs (Array.Perm.refl _) (fun _ _ => rfl) (fun p q p1 p2 p3 => ?_)
   have c2' : ¬ n > 1 := c2
   have : n = 1 := by omega
   subst this
   by_cases hp : p = q
   ·subst hp; exact Int.le_refl _
   ·have : p = lo := by omega
    have : q = lo + 1 := by omega
    subst p q
    exact Int.le_of_lt hlt
 intro ys yp yl yd
 have yz : ys.size = xs.size := yp.size_eq
 refine wpS_bind (wpS_lift (wpAny_rule ⟨rfl, ?_⟩))
 refine wpS_bind (wpS_mono (wpS_forRange
  (I := fun x c st' => ∃ zs neq, setArr st zs = st' ∧ c = (none, x, neq) ∧ zs.Perm xs ∧ (∀ k, k < lo → K zs k = K xs k) ∧ znh zs lo (lo + x) ∧ x ≤ nrem ∧ neq + 1 ≤ x ∧ (∀ i, lo + x - (neq + 1) ≤ i → i < lo + x → K zs i = K zs (lo + x - 1)))
  (Q := fun c st' => ∃ zs m neq, setArr st zs = st' ∧ c = (none, m, neq) ∧ zs.Perm xs ∧ (∀ k, k < lo → K zs k = K xs k) ∧ znh zs lo (lo + m) ∧ 1 ≤ m ∧ m ≤ nrem ∧ neq + 1 ≤ m ∧ (∀ i, lo + m - (neq + 1) ≤ i → i < lo + m → K zs i = K zs (lo + m - 1)))
  ?_ ?_ ⟨ys, 0, rfl, rfl, yp, yl, yd, by omega, by omega, fun i i1 i2 => by rw [show i = lo + (n + 1) - 1 by omega]⟩) ?_)
 ·rintro x c st' hx1 hx2 ⟨zs, neq, rfl, rfl, zp, zl, zd, z1, z2, z3⟩
  have zz : zs.size = xs.size := zp.size_eq
  have hx1' : n + 1 ≤ x := hx1
  refine wpS_bind (zfv hk (hI.perm zp) (by show lo + x < zs.size; omega) (by show lo + x - 1 < zs.size; omega) ?_)
  have grow : ∀ us : Array Keyed, (∀ k, K us k = K zs k) → K zs (lo + x) ≤ K zs (lo + x - 1) → znh us lo (lo + (x + 1)) := fun us hu hle p q p1 p2 p3 => by
   rw [hu, hu]
   by_cases hq : q < lo + x
   ·exact zd p q p1 p2 hq
   ·have : q = lo + x := by omega
    subst this
    by_cases hp : p = lo + x
    ·subst hp; exact Int.le_refl _
    ·exact Int.le_trans hle (zd p (lo + x - 1) p1 (by omega) (by omega))
  refine zap (c := decide (K zs (lo + x) < K zs (lo + x - 1)) = true) (fun c3 => ?_) (fun c3 => ?_)
  ·have c3' := of_decide_eq_true c3
   have e := K_mirror_equal (i := lo + x - (neq + 1)) (j := lo + x) (xs := zs) (by omega) z3
   refine zap (c := neq > 0) (fun c4 => ?_) (fun c4 => ?_)
   ·exact wpS_bind (wpS_modify (wpS_pure ⟨mirror zs (lo + x - (neq + 1)) (lo + x) ((lo + x - (lo + x - (neq + 1))) / 2), 0, rfl, rfl, (mirror_perm _ _ _ _).trans zp, fun k hk' => by rw [e]; exact zl k hk', grow _ e (Int.le_of_lt c3'), by omega, by omega, fun i i1 i2 => by rw [show i = lo + (x + 1) - 1 by omega]⟩))
   ·exact wpS_pure ⟨zs, 0, rfl, rfl, zp, zl, grow _ (fun _ => rfl) (Int.le_of_lt c3'), by omega, by omega, fun i i1 i2 => by rw [show i = lo + (x + 1) - 1 by omega]⟩
  ·have c3' := Int.not_lt.mp fun z => c3 (decide_eq_true z)
   refine wpS_bind (zfv hk (hI.perm zp) (by show lo + x - 1 < zs.size; omega) (by show lo + x < zs.size; omega) ?_)
   refine zap (c := decide (K zs (lo + x - 1) < K zs (lo + x)) = true) (fun c4 => wpS_pure ⟨zs, x, neq, rfl, rfl, zp, zl, zd, by omega, z1, z2, z3⟩) (fun c4 => ?_)
   have c4' := Int.not_lt.mp fun z => c4 (decide_eq_true z)
   have ex : K zs (lo + x) = K zs (lo + x - 1) := by omega
   refine wpS_pure ⟨zs, neq + 1, rfl, rfl, zp, zl, grow _ (fun _ => rfl) c4', by omega, by omega, fun i i1 i2 => ?_⟩
   rw [show lo + (x + 1) - 1 = lo + x by omega]
   by_cases hi : i = lo + x
   ·rw [hi]
   ·rw [ex]; exact z3 i (by omega) (by omega)
 ·rintro c st' ⟨zs, neq, rfl, rfl, zp, zl, zd, z1, z2, z3⟩
  have e : max (n + 1) nrem = nrem := by omega
  rw [e] at zd z2 z3
  exact ⟨zs, nrem, neq, rfl, by rw [e], zp, zl, zd, h1, Nat.le_refl _, z2, z3⟩
 rintro c st' ⟨zs, m, neq, rfl, rfl, zp, zl, zd, m1, z1, z2, z3⟩
 have zz : zs.size = xs.size := zp.size_eq
 dsimp (config := { zeta := false, zetaHave := false, zetaUnused := false }) only
 extract_lets
 rename_i jp2
 suffices hj2 : ∀ us, us.Perm xs → (∀ k, k < lo → K us k = K xs k) → znh us lo (lo + m) → wpS (model prog w) A E s (jp2 ()) Q (setArr st us) by
  have e := K_mirror_equal (i := lo + m - (neq + 1)) (j := lo + m) (xs := zs) (by omega) z3
  refine zap (fun c4 => ?_) (fun c4 => hj2 zs zp zl zd)
  exact wpS_bind (wpS_modify (hj2 (mirror zs (lo + m - (neq + 1)) (lo + m) ((lo + m - (lo + m - (neq + 1))) / 2)) ((mirror_perm _ _ _ _).trans zp) (fun k hk' => by rw [e]; exact zl k hk') (fun p q p1 p2 p3 => by rw [e, e]; exact zd p q p1 p2 p3)))
 intro us up ul ud
 have uz : us.size = xs.size := up.size_eq
 refine wpS_bind (wpS_modify ?_)
 have hm := K_mirror (xs := us) (i := lo) (j := lo + m) (by omega)
 have vs : zbc (mirror us lo (lo + m) ((lo + m - lo) / 2)) lo (lo + m) := fun p q p1 p2 p3 => by
  rw [hm, hm, if_pos ⟨p1, by omega⟩, if_pos ⟨by omega, p3⟩]
  exact ud _ _ (by omega) (by omega) (by omega)
 have vl : ∀ k, k < lo → K (mirror us lo (lo + m) ((lo + m - lo) / 2)) k = K xs k := fun k hk' => by
  rw [hm, if_neg (by omega)]; exact ul k hk'
 have vp : (mirror us lo (lo + m) ((lo + m - lo) / 2)).Perm xs := (mirror_perm _ _ _ _).trans up
 show wpS _ _ _ _ _ _ (setArr st (mirror us lo (lo + m) ((lo + m - lo) / 2)))
 generalize mirror us lo (lo + m) ((lo + m - lo) / 2) = vv at vs vl vp
 have vz : vv.size = xs.size := vp.size_eq
 refine wpS_bind (wpS_mono (wpS_forRange
  (I := fun x c st' => setArr st vv = st' ∧ c = (none, x) ∧ x ≤ nrem ∧ zbc vv lo (lo + x))
  (Q := fun c st' => setArr st vv = st' ∧ ∃ n, c = (none, n) ∧ 1 ≤ n ∧ n ≤ nrem ∧ zbc vv lo (lo + n))
  ?_ ?_ ⟨rfl, rfl, z1, vs⟩) ?_)
 ·rintro x c st' hx1 hx2 ⟨rfl, rfl, hx, hs'⟩
  have hx1' : m ≤ x := hx1
  refine wpS_bind (zfv hk (hI.perm vp) (by show lo + x < vv.size; omega) (by show lo + x - 1 < vv.size; omega) ?_)
  refine zap (c := decide (K vv (lo + x) < K vv (lo + x - 1)) = true) (fun c1 => wpS_pure ⟨rfl, x, rfl, by omega, by omega, hs'⟩) (fun c1 => wpS_pure ⟨rfl, rfl, by omega, fun p q p1 p2 p3 => ?_⟩)
  have c1' : K vv (lo + x - 1) ≤ K vv (lo + x) := Int.not_lt.mp fun z => c1 (decide_eq_true z)
  by_cases hq : q < lo + x
  ·exact hs' p q p1 p2 hq
  ·have : q = lo + x := by omega
   subst this
   by_cases hp : p = lo + x
   ·subst hp; exact Int.le_refl _
   ·exact Int.le_trans (hs' p (lo + x - 1) p1 (by omega) (by omega)) c1'
 ·rintro c st' ⟨rfl, rfl, hx, hs'⟩
  have e : max m nrem = nrem := by omega
  rw [e] at hs'
  exact ⟨rfl, nrem, by rw [e], h1, Nat.le_refl _, hs'⟩
 ·rintro c st' ⟨rfl, n', rfl, n1', n2', hs'⟩
  exact wpS_pure (h n' vv vp vl n1' n2' hs')
end
end Srt
set_option maxHeartbeats 4000000
namespace Srt
open PySem PyProof PyProof.Rows
def Chain (xs : Array Keyed) : Nat → List (Nat × Nat × Nat) → Nat → Prop
 | a, [], b => a = b
 | a, p :: l, b => p.1 = a ∧ 1 ≤ p.2.1 ∧ zbc xs a (a + p.2.1) ∧ Chain xs (a + p.2.1) l b
theorem Chain.len {xs : Array Keyed} : ∀ {l : List (Nat × Nat × Nat)} {a b : Nat}, Chain xs a l b → a + l.length ≤ b
 | [], a, b, h => by cases h; exact Nat.le_refl _
 | p :: l, a, b, h => by
  have := Chain.len h.2.2.2
  have := h.2.1
  rw [List.length_cons]; omega
theorem Chain.congr {xs ys : Array Keyed} : ∀ {l : List (Nat × Nat × Nat)} {a b : Nat}, Chain xs a l b → (∀ k, a ≤ k → k < b → K ys k = K xs k) → Chain ys a l b
 | [], a, b, h, _ => h
 | p :: l, a, b, h, e => by
  have hl := Chain.len h.2.2.2
  exact ⟨h.1, h.2.1, fun i j i1 i2 i3 => by rw [e i (by omega) (by omega), e j (by omega) (by omega)]; exact h.2.2.1 i j i1 i2 i3, Chain.congr h.2.2.2 fun k k1 k2 => e k (by omega) k2⟩
theorem Chain.app {xs : Array Keyed} : ∀ {l m : List (Nat × Nat × Nat)} {a b c : Nat}, Chain xs a l b → Chain xs b m c → Chain xs a (l ++ m) c
 | [], m, a, b, c, h, g => by cases h; exact g
 | p :: l, m, a, b, c, h, g => ⟨h.1, h.2.1, h.2.2.1, Chain.app h.2.2.2 g⟩
theorem Chain.split {xs : Array Keyed} : ∀ {l m : List (Nat × Nat × Nat)} {a c : Nat}, Chain xs a (l ++ m) c → ∃ b, Chain xs a l b ∧ Chain xs b m c
 | [], m, a, c, h => ⟨a, rfl, h⟩
 | p :: l, m, a, c, h => by
  obtain ⟨b, h1, h2⟩ := Chain.split h.2.2.2
  exact ⟨b, ⟨h.1, h.2.1, h.2.2.1, h1⟩, h2⟩
theorem Chain.pw {xs : Array Keyed} : ∀ {l m : List (Nat × Nat × Nat)} {a b : Nat}, l.map (fun p => (p.1, p.2.1)) = m.map (fun p => (p.1, p.2.1)) → Chain xs a l b → Chain xs a m b
 | [], [], a, b, _, h => h
 | [], q :: m, a, b, e, h => by cases e
 | p :: l, [], a, b, e, h => by cases e
 | p :: l, q :: m, a, b, e, h => by
  rw [List.map_cons, List.map_cons] at e
  obtain ⟨e1, e2⟩ := List.cons.inj e
  have e3 := (Prod.mk.inj e1)
  refine ⟨e3.1 ▸ h.1, e3.2 ▸ h.2.1, e3.2 ▸ h.2.2.1, ?_⟩
  rw [← e3.2]
  exact Chain.pw e2 h.2.2.2
theorem zpz {α : Type} {l : List α} {i : Nat} (h : i + 1 < l.length) : ∃ l1 x y l2, l = l1 ++ x :: y :: l2 ∧ l1.length = i := by
 refine ⟨l.take i, l[i], l[i+1], l.drop (i + 2), ?_, by rw [List.length_take]; omega⟩
 rw [← List.drop_eq_getElem_cons, ← List.drop_eq_getElem_cons, List.take_append_drop]
theorem zmf {α : Type} {pd : Array α} {l1 l2 : List α} {x y z : α} (h : pd.toList = l1 ++ x :: y :: l2) :
  ((pd.setIfInBounds l1.length z).eraseIdxIfInBounds (l1.length + 1)).toList = l1 ++ z :: l2 := by
 have hz : pd.size = l1.length + (l2.length + 2) := by rw [← Array.length_toList, h, List.length_append]; rfl
 rw [Array.eraseIdxIfInBounds, dif_pos (by rw [Array.size_setIfInBounds]; omega), Array.toList_eraseIdx, Array.toList_setIfInBounds, h]
 rw [List.set_append_right _ _ (Nat.le_refl _), Nat.sub_self, List.set_cons_zero, List.eraseIdx_append_of_length_le (by omega)]
 rw [show l1.length + 1 - l1.length = 1 by omega]
 rfl
structure SB (a₀ : Array Keyed) (st : SortSt) (lo : Nat) : Prop where
 perm : (arrOf st).Perm a₀
 kind : kindOf st = oneType'
 failed : failedOf st = none
 chain : Chain (arrOf st) 0 (pendingOf st).toList lo
 le : lo ≤ a₀.size
section
variable {prog : Program} {w : World} {A : Around} {E : Value → Shared → Prop} {s : Shared} {a₀ : Array Keyed}
theorem zjl {st : SortSt} {i lo : Nat} {Q : Bool → SortSt → Prop} (h0 : AllI a₀) (hB : SB a₀ st lo) (hi : i + 1 < (pendingOf st).size)
  (h : ∀ st', SB a₀ st' lo → (pendingOf st').size + 1 = (pendingOf st).size → (∀ k, lo ≤ k → K (arrOf st') k = K (arrOf st) k) → Q true st') :
  wpS (model prog w) A E s (mergeAt' i) Q st := by
 obtain ⟨l1, ⟨sa, na, pw⟩, ⟨sb, nb, pw2⟩, l2, hl, rfl⟩ := zpz (l := (pendingOf st).toList) (by rw [Array.length_toList]; exact hi)
 have hc := hB.chain
 rw [hl] at hc
 obtain ⟨b, c1, e1, n1, s1, e2, n2, s2, c2⟩ := hc.split
 dsimp only at e1 n1 s1 e2 n2 s2 c2
 subst e1
 subst e2
 have hl2 := c2.len
 have hsz : (arrOf st).size = a₀.size := hB.perm.size_eq
 have hle := hB.le
 refine znb (sa := sa) (na := na) (sb := sa + na) (nb := nb) (pw := pw) (pw2 := pw2) hB.kind hB.failed (h0.perm hB.perm) ?_ ?_ rfl n1 n2 (by omega) s1 s2 fun xs g xp xs1 xk => ?_
 ·rw [← Array.getElem?_toList, hl, List.getElem?_append_right (Nat.le_refl _), Nat.sub_self]; rfl
 ·rw [← Array.getElem?_toList, hl, List.getElem?_append_right (by omega), show l1.length + 1 - l1.length = 1 by omega]; rfl
 have hm := zmf (z := (sa, na + nb, pw)) hl
 refine h _ ⟨xp.trans hB.perm, rfl, rfl, ?_, hle⟩ ?_ fun k hk => xk k (.inr (by omega))
 ·show Chain xs 0 (((pendingOf st).setIfInBounds l1.length (sa, na + nb, pw)).eraseIdxIfInBounds (l1.length + 1)).toList lo
  rw [hm]
  refine (c1.congr fun k _ k2 => xk k (.inl k2)).app ⟨rfl, by dsimp only; omega, ?_, ?_⟩
  ·dsimp only
   rw [← Nat.add_assoc]; exact xs1
  ·dsimp only
   rw [← Nat.add_assoc]; exact c2.congr fun k k1 _ => xk k (.inr k1)
 ·show (((pendingOf st).setIfInBounds l1.length (sa, na + nb, pw)).eraseIdxIfInBounds (l1.length + 1)).size + 1 = _
  rw [← Array.length_toList, hm, ← Array.length_toList, hl, List.length_append, List.length_append]
  rfl
theorem zie {st : SortSt} {xs : Array Keyed} {lo n ok : Nat} {Q : Bool → SortSt → Prop} (hk : kindOf st = oneType') (hI : AllI xs) (hn : lo + n ≤ xs.size) (hok : ok ≤ n) (h1 : 1 ≤ ok) (hs : zbc xs lo (lo + ok))
  (h : ∀ ys, ys.Perm xs → (∀ k, k < lo → K ys k = K xs k) → zbc ys lo (lo + n) → Q true (setArr st ys)) : wpS (model prog w) A E s (binarySort' lo n ok) Q (setArr st xs) := by
 rw [binarySort'_eq]
 refine wpS_bind (wpS_mono (wpS_forRange (I := fun k c st' => ∃ ys, c = (none, ()) ∧ setArr st ys = st' ∧ ys.Perm xs ∧ (∀ k, k < lo → K ys k = K xs k) ∧ zbc ys lo (lo + min k n))
  (Q := fun c st' => ∃ ys, c = (none, ()) ∧ setArr st ys = st' ∧ ys.Perm xs ∧ (∀ k, k < lo → K ys k = K xs k) ∧ zbc ys lo (lo + n)) ?step ?fin ?init) ?post)
 case post =>
  rintro c st' ⟨ys, rfl, rfl, yp, yl, ys1⟩
  exact wpS_pure (h ys yp yl ys1)
 case init => exact ⟨xs, rfl, rfl, Array.Perm.refl _, fun _ _ => rfl, by rw [show min (max ok 1) n = ok by omega]; exact hs⟩
 case fin =>
  rintro c st' ⟨ys, hc, he, yp, yl, ys1⟩
  refine ⟨ys, hc, he, yp, yl, ?_⟩
  rwa [show min (max (max ok 1) n) n = n by omega] at ys1
 case step =>
  rintro k c st' hak hkn ⟨ys, rfl, rfl, yp, yl, hs'⟩
  rw [show min k n = k by omega] at hs'
  have yz : ys.size = xs.size := yp.size_eq
  have hkz : lo + k < ys.size := by omega
  refine wpS_bind (wpS_mono (wpS_forRange (I := fun x c st'' => setArr st ys = st'' ∧ ∃ l r, c = (none, l, r) ∧ l ≤ r ∧ r ≤ k ∧ r - l ≤ k - x ∧
    (∀ i, i < l → K ys (lo + i) ≤ K ys (lo + k)) ∧ (∀ i, r ≤ i → i < k → K ys (lo + k) < K ys (lo + i)))
   (Q := fun c st'' => setArr st ys = st'' ∧ ∃ l r, c = (none, l, r) ∧ l ≤ k ∧
    (∀ i, i < l → K ys (lo + i) ≤ K ys (lo + k)) ∧ (∀ i, l ≤ i → i < k → K ys (lo + k) < K ys (lo + i))) ?istep ?ifin ?iinit) ?ipost)
  case iinit => exact ⟨rfl, 0, k, rfl, by omega, by omega, by omega, fun i hi => by omega, fun i h1 h2 => by omega⟩
  case ifin =>
   rintro c st'' ⟨rfl, l, r, rfl, hlr, hrk, hm, hlo, hhi⟩
   have : l = r := by omega
   subst this
   exact ⟨rfl, l, l, rfl, hrk, hlo, hhi⟩
  case istep =>
   rintro x c st'' _ hxk ⟨rfl, l, r, rfl, hlr, hrk, hm, hlo, hhi⟩
   refine zap (c := l ≥ r) (fun hge => ?_) (fun hge => ?_)
   ·have : l = r := by omega
    subst this
    exact wpS_pure ⟨rfl, l, l, rfl, hrk, hlo, hhi⟩
   ·refine wpS_bind (zfv hk (hI.perm yp) hkz (by show lo + (l + r) / 2 < ys.size; omega) ?_)
    refine zap (c := decide (K ys (lo + k) < K ys (lo + (l + r) / 2)) = true) (fun c1 => ?_) (fun c1 => ?_)
    ·have hless := of_decide_eq_true c1
     refine wpS_pure ⟨rfl, l, (l + r) / 2, rfl, by omega, by omega, by omega, hlo, fun i h1 h2 => ?_⟩
     exact Int.lt_of_lt_of_le hless (hs' _ _ (by omega) (by omega) (by omega))
    ·have hless := Int.not_lt.mp fun z => c1 (decide_eq_true z)
     refine wpS_pure ⟨rfl, (l + r) / 2 + 1, r, rfl, by omega, by omega, by omega, fun i h1 => ?_, hhi⟩
     exact Int.le_trans (hs' (lo + i) (lo + (l + r) / 2) (by omega) (by omega) (by omega)) hless
  case ipost =>
   rintro c st'' ⟨rfl, l, r, rfl, hlk, hlo, hhi⟩
   refine wpS_bind (wpS_modify (wpS_pure ⟨bubble ys (lo + k) (lo + k - (lo + l)), rfl, rfl, (bubble_perm _ _ _).trans yp, fun i hi => ?_, ?_⟩))
   ·rw [K_bubble hkz (by omega), if_neg (by omega), if_neg (by omega)]; exact yl i hi
   rw [show min (k + 1) n = k + 1 by omega]
   intro i j i1 hij hj
   rw [K_bubble hkz (by omega), K_bubble hkz (by omega), show lo + k - (lo + k - (lo + l)) = lo + l by omega]
   have lo' : ∀ i, lo ≤ i → i < lo + l → K ys i ≤ K ys (lo + k) := fun i a b => by
    have := hlo (i - lo) (by omega)
    rwa [show lo + (i - lo) = i by omega] at this
   have hi' : ∀ i, lo + l ≤ i → i < lo + k → K ys (lo + k) ≤ K ys i := fun i a b => by
    have := hhi (i - lo) (by omega) (by omega)
    rw [show lo + (i - lo) = i by omega] at this
    exact Int.le_of_lt this
   repeat' split
   all_goals first
    | (exfalso; omega)
    | exact Int.le_refl _
    | exact lo' _ (by omega) (by omega)
    | exact hi' _ (by omega) (by omega)
    | exact hs' _ _ (by omega) (by omega) (by omega)
end
end Srt
set_option maxHeartbeats 4000000
namespace Srt
open PySem PyProof PyProof.Rows
section
variable {prog : Program} {w : World} {A : Around} {E : Value → Shared → Prop} {s : Shared} {a₀ : Array Keyed}
theorem zjx {st : SortSt} {Q : Unit → SortSt → Prop} (h0 : AllI a₀) (hB : SBase a₀ st)
  (h : ∀ st', (arrOf st').Perm a₀ → failedOf st' = none → SortedTo (arrOf st') a₀.size → Q () st') : wpS (model prog w) A E s sortRuns' Q st := by
 rw [sortRuns'_eq]
 refine wpS_bind (wpS_get ?_)
 have hz := hB.size
 extract_lets size mr
 have hz' : size = a₀.size := hz
 clear_value size mr
 subst hz'
 have hS0 : SB a₀ st 0 := ⟨hB.perm, hB.kind, hB.failed, by rw [hB.pend]; rfl, Nat.zero_le _⟩
 refine wpS_bind (wpS_mono (wpS_forRange
  (I := fun x c st' => ∃ lo, c = (none, lo) ∧ x ≤ lo ∧ SB a₀ st' lo)
  (Q := fun c st' => c = (none, a₀.size) ∧ SB a₀ st' a₀.size) ?step ?fin ⟨0, rfl, Nat.le_refl _, hS0⟩) ?post)
 case fin =>
  rintro c st' ⟨lo, rfl, h1, h2⟩
  have := h2.le
  have : lo = a₀.size := by omega
  subst this
  exact ⟨rfl, h2⟩
 case step =>
  rintro x c st' _ hx ⟨lo, rfl, hxl, hS⟩
  have hle := hS.le
  dsimp (config := { zeta := false, zetaHave := false, zetaUnused := false }) only
  refine zap (c := lo ≥ a₀.size) (fun c1 => ?_) (fun c1 => ?_)
  ·have : lo = a₀.size := by omega
   subst this
   exact wpS_pure ⟨rfl, hS⟩
  have hsz : (arrOf st').size = a₀.size := hS.perm.size_eq
  obtain ⟨R, hR⟩ : ∃ R : ForInStep (Option Unit × Nat) → SortSt → Prop, R = fun r st'' => ∃ lo, r = ForInStep.yield (none, lo) ∧ x + 1 ≤ lo ∧ SB a₀ st'' lo := ⟨_, rfl⟩
  refine wpS_mono (Q := R) ?_ (by rw [hR]; rintro r st'' ⟨lo, rfl, h1, h2⟩; exact ⟨lo, rfl, h1, h2⟩)
  refine wpS_bind (zjy (st := st') (xs := arrOf st') hS.kind (h0.perm hS.perm) (by omega) (by omega) fun m ys yp yl m1 m2 ys1 => ?_)
  dsimp (config := { zeta := false, zetaHave := false, zetaUnused := false }) only
  extract_lets n jp force nf
  have hn : n = m := rfl
  clear_value n
  subst hn
  suffices hj : ∀ (n' : Nat) (zs : Array Keyed), zs.Perm (arrOf st') → (∀ k, k < lo → K zs k = K (arrOf st') k) → zbc zs lo (lo + n') → 1 ≤ n' → lo + n' ≤ a₀.size →
    wpS (model prog w) A E s (jp () n') R (setArr st' zs) by
   refine zap (fun c2 => ?_) (fun c2 => hj n ys yp yl ys1 m1 (by omega))
   refine wpS_bind (wpS_lift (wpAny_rule ⟨rfl, ?_⟩))
   have hf : force = min (a₀.size - lo) mr := rfl
   have yz : ys.size = (arrOf st').size := yp.size_eq
   refine wpS_bind (zie hS.kind ((h0.perm hS.perm).perm yp) (by omega) (by omega) m1 ys1 fun zs zp zl zs1 => ?_)
   exact hj force zs (zp.trans yp) (fun k hk => (zl k hk).trans (yl k hk)) zs1 (by omega) (by omega)
  clear ys yp yl ys1 m1 m2
  intro n' zs zp zl zs1 n1 n2
  have hS1 : SB a₀ (setArr st' zs) lo := ⟨zp.trans hS.perm, hS.kind, hS.failed, hS.chain.congr fun k _ hk => zl k hk, hle⟩
  have hs2 : zbc (arrOf (setArr st' zs)) lo (lo + n') := zs1
  generalize setArr st' zs = st2 at hS1 hs2
  clear zs zp zl zs1
  refine wpS_bind (wpS_get ?_)
  extract_lets lo2 jp2
  suffices hj2 : ∀ st3, SB a₀ st3 lo → zbc (arrOf st3) lo (lo + n') → wpS (model prog w) A E s (jp2 ()) R st3 by
   cases hb : (pendingOf st2).back? with
   | none => exact hj2 st2 hS1 hs2
   | some p =>
    obtain ⟨p1, p2, p3⟩ := p
    dsimp (config := { zeta := false, zetaHave := false, zetaUnused := false }) only
    extract_lets pw
    clear_value pw
    refine wpS_bind (wpS_mono (wpS_forRange (I := fun x c st'' => c = (none, ()) ∧ SB a₀ st'' lo ∧ zbc (arrOf st'') lo (lo + n')) (Q := fun c st'' => c = (none, ()) ∧ SB a₀ st'' lo ∧ zbc (arrOf st'') lo (lo + n')) ?_ (fun _ _ hh => hh) ⟨rfl, hS1, hs2⟩) ?_)
    ·rintro y c st3 _ hy ⟨rfl, hS3, hs3⟩
     refine wpS_bind (wpS_get ?_)
     extract_lets p
     by_cases hp : p.size > 1
     ·have hl : p.size - 2 < p.size := by omega
      rw [if_pos hp, Array.getElem?_eq_getElem hl]
      dsimp (config := { zeta := false, zetaHave := false, zetaUnused := false }) only
      refine zap (fun c3 => wpS_pure ⟨rfl, hS3, hs3⟩) (fun c3 => ?_)
      refine wpS_bind (zjl h0 hS3 (show p.size - 2 + 1 < p.size by omega) fun st4 hS4 hp4 hk4 => ?_)
      exact wpS_pure ⟨rfl, hS4, fun i j i1 i2 i3 => by rw [hk4 i i1, hk4 j (by omega)]; exact hs3 i j i1 i2 i3⟩
     ·rw [if_neg hp]
      exact wpS_pure ⟨rfl, hS3, hs3⟩
    ·rintro c st3 ⟨rfl, hS3, hs3⟩
     refine wpS_bind (wpS_modify (hj2 _ ⟨hS3.perm, hS3.kind, hS3.failed, ?_, hle⟩ hs3))
     refine hS3.chain.pw ?_
     show _ = ((pendingOf st3).modify _ _).toList.map _
     rw [Array.toList_modify]
     generalize (pendingOf st3).toList = l
     generalize (pendingOf st3).size - 1 = i
     apply List.ext_getElem?
     intro k
     rw [List.getElem?_map, List.getElem?_map, List.getElem?_modify]
     cases l[k]? with
     | none => rfl
     | some q =>
      by_cases e : i = k
      ·simp [e]
      ·simp [e]
  intro st3 hS3 hs3
  refine wpS_bind (wpS_modify (wpS_pure ?_))
  rw [hR]
  refine ⟨lo + n', rfl, by omega, hS3.perm, hS3.kind, hS3.failed, ?_, n2⟩
  show Chain (arrOf st3) 0 ((pendingOf st3).push (lo, n', 0)).toList (lo + n')
  rw [Array.toList_push]
  exact hS3.chain.app ⟨rfl, n1, hs3, rfl⟩
 case post =>
  rintro c st' ⟨rfl, hS⟩
  dsimp (config := { zeta := false, zetaHave := false, zetaUnused := false }) only
  refine wpS_bind (wpS_mono (wpS_forRange (I := fun x c st'' => c = (none, ()) ∧ SB a₀ st'' a₀.size ∧ (pendingOf st'').size + x ≤ a₀.size) (Q := fun c st'' => c = (none, ()) ∧ SB a₀ st'' a₀.size ∧ (pendingOf st'').size ≤ 1) ?_ ?_ ?_) ?_)
  ·rintro x c st'' _ hx ⟨rfl, hS', hp⟩
   refine wpS_bind (wpS_get ?_)
   refine zap (c := (pendingOf st'').size ≤ 1) (fun c1 => wpS_pure ⟨rfl, hS', c1⟩) (fun c1 => ?_)
   extract_lets i before i'
   have hi' : i' + 1 < (pendingOf st'').size := by
    have : i' = i - 1 ∨ i' = i := by
     show (if _ then i - 1 else i) = i - 1 ∨ (if _ then i - 1 else i) = i
     split
     ·exact .inl rfl
     ·exact .inr rfl
    have hi : i = (pendingOf st'').size - 2 := rfl
    omega
   clear_value i'
   refine wpS_bind (zjl h0 hS' hi' fun st3 hS3 hp3 _ => ?_)
   exact wpS_pure ⟨rfl, hS3, by omega⟩
  ·rintro c st'' ⟨hc, hS', hp⟩
   have : max 0 a₀.size = a₀.size := by omega
   rw [this] at hp
   exact ⟨hc, hS', by omega⟩
  ·have := hS.chain.len
   rw [Array.length_toList] at this
   exact ⟨rfl, hS, by omega⟩
  ·rintro c st'' ⟨rfl, hS', hp⟩
   refine wpS_pure (h _ hS'.perm hS'.failed ?_)
   have hc := hS'.chain
   have hl : (pendingOf st'').toList.length ≤ 1 := by rw [Array.length_toList]; exact hp
   generalize (pendingOf st'').toList = l at hc hl
   match l, hc, hl with
   | [], hc, _ =>
    have : a₀.size = 0 := hc.symm
    intro i j _ hj; omega
   | [p], hc, _ =>
    obtain ⟨_, _, hs, e⟩ := hc
    have e' : 0 + p.2.1 = a₀.size := e
    intro i j hij hj
    exact hs i j (Nat.zero_le _) hij (by omega)
end
end Srt
set_option maxHeartbeats 4000000
set_option maxRecDepth 100000
namespace Srt
open PySem PyProof PyProof.Rows
section
variable {prog : Program} {w : World} {A : Around} {E : Value → Shared → Prop} {s : Shared}
theorem zqb {a : Addr} {vs : List Value} {ns : List Int} {n : Nat} {P : Fin → Shared → Prop} (o0 : s.heap.get? a = some (seqObj "list" vs.toArray n)) (hI : IntsAre vs ns) (hz : vs.length ≤ sizeLine)
  (h : ∀ (out : Array Value) (ns' : List Int), IntsAre out.toList ns' → ns'.Perm ns → ns'.Pairwise (· ≤ ·) → P (.done (.ret .none)) { s with heap := sortedHeap s.heap a vs out }) :
  wpAny (model prog w) A (Builtin.«list.sort» ⟨[.ref a], []⟩) P E s := by
 rw [list_sort_plain]
 have la : a < s.heap.objs.size := Heap.lt_size o0
 obtain ⟨e1, o1⟩ : ∃ e, (s.heap.update a (Obj.mapSeq fun _ => #[])).get? a = some (seqObj "list" #[] e) := ⟨_, get?_update_seq o0 _⟩
 have o6 : (((s.heap.update a (Obj.mapSeq fun _ => #[])).push (seqObj "tuple" vs.toArray 0)).push (seqObj "list" #[] 0)).get? a = some (seqObj "list" #[] e1) := by
  rwa [Heap.get?_push_ne _ _ _ (by rw [size_push', Heap.size_update]; exact Nat.ne_of_lt (Nat.lt_succ_of_lt la)), Heap.get?_push_ne _ _ _ (by rw [Heap.size_update]; exact Nat.ne_of_lt la)]
 refine wpAny_bind (listItems_at o0 rfl (wpAny_bind (listUpdate_at o0 rfl ?_ (by simpa using hz) (Nat.zero_le _))))
 refine wpAny_bind (seqEpoch_at o1 rfl (wpAny_bind (wpAny_newTuple (wpAny_bind (wpAny_newList (wpAny_holding ?_))))))
 have fit : ∀ xs : Array Keyed, xs.Perm (pairsOf vs) → (xs.map (·.2)).size ≤ sizeLine := fun xs p => Nat.le_trans (Nat.le_of_eq ((Array.size_map ..).trans (p.size_eq.trans (pairsOf_size vs)))) hz
 have fin : ∀ xs : Array Keyed, xs.Perm (pairsOf vs) → SortedTo xs (pairsOf vs).size → P (.done (.ret .none)) { s with heap := sortedHeap s.heap a vs (xs.map (·.2)) } := fun xs p so => by
  obtain ⟨ms, m1, m2, m3⟩ := sorted_out hI p so
  exact h _ ms m1 m2 m3
 by_cases c : vs.toArray.size < 2
 ·rw [if_pos c, if_pos c]
  refine wpAny_bind (wpAny_pure (wpAny_bind (wpAny_pure ?_)))
  refine wpAny_bind (seqEpoch_at o6 rfl (wpAny_bind (listUpdate_at o6 rfl ?_ (Nat.zero_le _) (Nat.le_succ_of_le (fit _ (Array.Perm.refl _))))))
  simp only [bne_self_eq_false, Bool.false_eq_true, if_false]
  refine wpAny_pure (fin (pairsOf vs) (Array.Perm.refl _) fun i j i1 i2 => ?_)
  have hl : vs.length < 2 := by simpa using c
  have : i = j := by rw [pairsOf_size] at i2; omega
  subst this
  exact Int.le_refl _
 ·rw [if_neg c, if_neg c]
  obtain ⟨x, y, r, rfl⟩ : ∃ x y r, vs = x :: y :: r := by
   cases vs with
   | nil => exact absurd (show 0 < 2 by decide) c
   | cons x r => cases r with
    | nil => exact absurd (show 1 < 2 by decide) c
    | cons y r => exact ⟨x, y, r, rfl⟩
  rw [keyKind_ints hI]
  refine wpAny_bind (wpAny_pure (wpAny_bind (wpAny_mono (zjx (a₀ := pairsOf (x :: y :: r)) (st := SortSt.mk' oneType' (pairsOf (x :: y :: r)) #[] 7 none)
   (Q := fun _ st' => (arrOf st').Perm (pairsOf (x :: y :: r)) ∧ failedOf st' = none ∧ SortedTo (arrOf st') (pairsOf (x :: y :: r)).size) hI.intKeys ⟨Array.Perm.refl _, rfl, rfl, rfl⟩ fun _ b1 b2 b3 => ⟨b1, b2, b3⟩) ?_ fun _ _ e => e)))
  rintro ⟨u, st'⟩ s' ⟨rfl, b1, b2, b3⟩
  refine wpAny_bind (seqEpoch_at o6 rfl (wpAny_bind (listUpdate_at o6 rfl ?_ (Nat.zero_le _) (Nat.le_succ_of_le (fit _ b1)))))
  rw [b2]
  simp only [bne_self_eq_false, Bool.false_eq_true, if_false]
  exact wpAny_pure (fin _ b1 b3)
theorem sorted_any {l : Addr} {vs : List Value} {ns : List Int} {Q : Value → Shared → Prop} (hl : s.heap.IsList l vs.toArray) (hI : IntsAre vs ns) (hz : vs.length ≤ sizeLine)
  (h : ∀ (out : Array Value) (ns' : List Int), IntsAre out.toList ns' → ns'.Perm ns → ns'.Pairwise (· ≤ ·) → Q (.ref (s.heap.objs.size + 1)) { s with heap := sortedAll s.heap vs out }) :
  wpAny (model prog w) A (call (.builtin "sorted") [.ref l]) Q E s := by
 have ez : ((s.heap.push (seqObj "list" #[] 0)).update s.heap.objs.size (Obj.mapSeq (· ++ vs.toArray))).objs.size = s.heap.objs.size + 1 := by rw [Heap.size_update, size_push']
 have oL : (((s.heap.push (seqObj "list" #[] 0)).update s.heap.objs.size (Obj.mapSeq (· ++ vs.toArray))).push (seqObj "list" vs.toArray 0)).get? (s.heap.objs.size + 1) = some (seqObj "list" vs.toArray 0) := by
  rw [← ez]; exact Heap.get?_push_size _ rfl
 refine Calls.call_function_entry kind_sorted plain_sorted entry_sorted (args_sorted1 _) (wpAny_bind (m := checkCount "sorted" 1 1 _) (wpAny_pure (wpAny_bind (collect_list hl ?_ hz))))
 refine wpAny_bind (wpAny_newList ?_)
 rw [ez]
 refine wpAny_bind (wpAny_holding (wpAny_call_entry slot_list_sort ⟨_, oL, rfl⟩ entry_list_sort (zqb oL hI hz fun out ns' a1 a2 a3 => ⟨_, rfl, ?_⟩) (args_list_sort _)))
 exact wpAny_pure ⟨_, rfl, h out ns' a1 a2 a3⟩
end
end Srt
namespace L2
open PySem PySem.Spec PyProof.Rows
variable {X : Cx}
theorem zlh : zeq X (.builtin "sorted") (fun xs H Q => ∃ (p : Addr) (ns : List Int), xs = [.ref p] ∧ SqL X.K H p (ns.map V.int) ∧ ∀ ms : List Int, ms.Perm ns → ms.Pairwise (· ≤ ·) → ∀ l, H l = none → Q (.ref l) (upd H l (.lst (ms.map V.int)))) := by
 intro pins s σ H xs us Q I r h
 obtain ⟨p, ns, rfl, hq, q⟩ := h
 obtain ⟨u, rfl, rx⟩ := zga r
 cases rx
 obtain ⟨its, rv, pl, hz'⟩ := I.list hq
 have hlen := rv.length
 rw [List.length_map] at hlen hz'
 refine Srt.sorted_any pl.isList (zd3 rv) (by omega) fun out ms a1 a2 a3 => ?_
 obtain ⟨e, he⟩ := sortedAll_at s.heap its out
 have hm : ms.length = ns.length := a2.length_eq
 refine ⟨.ref (s.heap.objs.size + 1), _, I.laid (t' := s.toks) (fun b o => sortedAll_old) (Nat.le_succ _) (show ObjOk X.prog X.w _ _ _ (.lst (ms.map V.int)) from ⟨by rw [List.length_map, hm]; exact hz', out.toList, e, zhq a1, he⟩), rfl, q ms a2 a3 _ (I.hok.fresh (Nat.le_succ _))⟩
end L2
set_option maxRecDepth 100000
set_option maxHeartbeats 4000000
namespace Wd
open PySem L2 Ow
theorem znj (m : Nat) (t1 : List Tie) : outside m t1 t1 = [] := List.filter_eq_nil_iff.mpr fun s hs => by rw [(mem_wareL.mp hs).2]; decide
end Wd
set_option maxRecDepth 100000
namespace L2
open PySem PySem.Spec PyProof.Rows
section
variable {κ : Type} [DecidableEq κ]
end
section
variable {P : Program} {w : World} {H : Hp} {h : Heap} {a : Addr}
end
section
variable {X : Cx} {pins : List (Addr × Obj)} {σ : St} {H : Hp} {s : Shared} {a : Addr} {y v : V} {u r : Value} {o : Option V} {A : Around} {E : Value → Shared → Prop}
end
section
variable {X : Cx} {pins : List (Addr × Obj)} {σ : St} {H : Hp} {s : Shared} {a : Addr} {kvs : List (Key × V)} {k : Key} {u : Value} {A : Around} {E : Value → Shared → Prop}
end
section
variable {X : Cx} {o i e value : Expr} {pos pos' tpos : Pos} {td ty tv : TE}
end
section
variable {X : Cx} {pos : Pos}
end
section
variable {X : Cx} {pins : List (Addr × Obj)} {σ : St} {H : Hp} {s : Shared} {a : Addr} {y d : V} {u r : Value} {o : Option V} {A : Around} {E : Value → Shared → Prop}
end
section
variable {X : Cx} {o e f : Expr} {apos cpos : Pos} {td ty tx : TE}
end
section
variable {X : Cx} {pins : List (Addr × Obj)} {σ : St} {H : Hp} {s : Shared} {a : Addr} {kvs : List (Key × V)} {A : Around} {E : Value → Shared → Prop}
end
section
variable {X : Cx} {pins : List (Addr × Obj)} {σ : St} {H : Hp} {s : Shared} {a : Addr} {y : V} {u : Value} {A : Around} {E : Value → Shared → Prop}
end
end L2
namespace L2
open PySem PySem.Spec PyProof.Rows
section
variable {X : Cx}
end
section
variable {κ : Type} [DecidableEq κ]
end
end L2
set_option maxRecDepth 100000
set_option maxHeartbeats 4000000
namespace L2
open PySem PySem.Spec
@[irreducible] def PEi (X : Cx) (e : Expr) (t : TE) : Prop := PE X e t
@[irreducible] def PSi (X : Cx) (e : Stmt) (t : TS) : Prop := PS X e t
@[irreducible] def PLi (X : Cx) (l : List Stmt) (t : TS) : Prop := PSs X l t
end L2
namespace Wd
open PySem L2 Ow
def zhb (m : Nat) (t1 t2 : List Tie) : PyData := match outside m t1 t2 with
 | s :: _ => .int (s : Int)
 | [] => zei t1 (zf8 t1) m (zdv t2) 9 1 0
def wIn (m : Nat) (t1 t2 : List Tie) : Bool := (outside m t1 t2).isEmpty
def zcf (b : Bool) : Str := match b with | true => "in" | false => "out"
theorem ziz (m : Nat) (t1 t2 : List Tie) : zfz m t1 t2 = .tuple [.str (zcf (wIn m t1 t2)), zhb m t1 t2] := by
 unfold zfz wIn zhb
 cases outside m t1 t2 <;> rfl
def zq6 (a b : Bool) : Str := match a, b with | true, true => "same" | true, false => "more" | false, true => "fewer" | false, false => "neither"
def zph (x : Str) (m : Nat) (t1 t2 : List Tie) : PyData := if x = ("fewer" : Str) then .tuple [.str x, zhb m t2 t1, zhb m t1 t2] else .tuple [.str x, zhb m t1 t2, zhb m t2 t1]
theorem zrx (m : Nat) (t1 t2 : List Tie) : zph "same" m t1 t2 = .tuple [.str ("same" : Str), zhb m t1 t2, zhb m t2 t1] := if_neg (by decide +kernel)
theorem zqz (m : Nat) (t1 t2 : List Tie) : zph "more" m t1 t2 = .tuple [.str ("more" : Str), zhb m t1 t2, zhb m t2 t1] := if_neg (by decide +kernel)
theorem zmw (m : Nat) (t1 t2 : List Tie) : zph "neither" m t1 t2 = .tuple [.str ("neither" : Str), zhb m t1 t2, zhb m t2 t1] := if_neg (by decide +kernel)
theorem zp1 (m : Nat) (t1 t2 : List Tie) : zph "fewer" m t1 t2 = .tuple [.str ("fewer" : Str), zhb m t2 t1, zhb m t1 t2] := if_pos rfl
def zqp (m : Nat) (t1 t2 : List Tie) : PyData := zph (zq6 (wIn m t1 t2) (wIn m t2 t1)) m t1 t2
theorem zrc (m : Nat) (t1 : List Tie) : wIn m t1 t1 = true := by unfold wIn; rw [znj]; rfl
def znv : Sp := fun vs H Q _ => ∃ (w1 w2 : Addr) (m : Nat) (t1 t2 : List Tie), vs = [.ref w1, .ref w2] ∧ WoodT H w1 m t1 ∧ WoodT H w2 m t2 ∧ 1 ≤ m ∧ m ≤ 9 ∧ ∀ (v : V) (H' : Hp), Same H H' → Dn H' (zqp m t1 t2) v → Q v H'
end Wd
set_option maxRecDepth 100000
set_option maxHeartbeats 4000000
namespace Wd
open PySem L2 Ow
end Wd
set_option maxRecDepth 100000
set_option maxHeartbeats 4000000
namespace L2
open PySem PySem.Spec PyProof.Rows
end L2
namespace Wd
open PySem L2 Ow
end Wd
set_option maxRecDepth 100000
set_option maxHeartbeats 4000000
namespace Wd
open PySem L2 Ow
section
variable {t1 t2 : List Tie} {m f y n : Nat}
end
end Wd
set_option maxRecDepth 100000
set_option maxHeartbeats 4000000
namespace L2
open PySem PySem.Spec PyProof.Rows
end L2
namespace Wd
open PySem L2 Ow
theorem zbr {H H1 H2 : Hp} (a : zea H H1) (b : zea H1 H2) : zea H H2 := fun c xs h => b c xs (a c xs h)
end Wd
set_option maxRecDepth 100000
set_option maxHeartbeats 4000000
namespace L2
open PySem PySem.Spec PyProof.Rows
section
variable {X : Cx} {pins : List (Addr × Obj)} {σ : St} {H H' : Hp} {s s' : Shared} {h2 : Heap}
end
section
variable {X : Cx} {pins : List (Addr × Obj)} {σ : St} {H H' : Hp} {s s' : Shared} {h2 : Heap}
end
end L2
set_option maxRecDepth 100000
set_option maxHeartbeats 4000000
namespace L2
open PySem PySem.Spec PyProof.Rows
section
variable {prog : Program} {w : World} {A : Around} {E : Value → Shared → Prop} {h : Heap} {g : Array GenState} {d : Drawn} {t : Nat} {os : OsState} {a D : Addr} {o : Obj} {K : PySem.W.Frag} {bD : List Value}
end
end L2
namespace Wd
open PySem L2 Ow
end Wd
set_option maxRecDepth 100000
set_option maxHeartbeats 4000000
namespace Wd
open PySem L2 Ow
end Wd
set_option maxRecDepth 100000
set_option maxHeartbeats 4000000
namespace L2
open PySem PySem.Spec PyProof.Rows
end L2
set_option maxRecDepth 100000
set_option maxHeartbeats 4000000
namespace L2
open PySem PySem.Spec PyProof.Rows
section
variable {X : Cx} {k : Nat} {f : Addr} {fd : FuncData} {ps : List Str} {x : Str} {p pos : Pos} {e : Expr} {es : List Expr} {t : TA}
end
end L2
set_option maxRecDepth 100000
set_option maxHeartbeats 4000000
namespace Wd
open PySem L2 Ow
end Wd
set_option maxRecDepth 100000
set_option maxHeartbeats 4000000
namespace Ow
open PySem
def zl1 : Stmt → List Stmt
 | .ClassDef _ _ _ b _ _ _ _ _ _ _ => b
 | _ => []
end Ow
namespace Wd
open PySem L2 Ow
def PickL (H : Hp) : List (Nat × Bool) → List V → Prop
 | [], xs => xs = []
 | p :: ps, xs => ∃ t r, xs = .ref t :: r ∧ H t = some (.tup [.int (p.1 : Int), .bl p.2]) ∧ PickL H ps r
theorem PickL.same {H H' : Hp} (s : zea H H') : ∀ {ps : List (Nat × Bool)} {xs : List V}, PickL H ps xs → PickL H' ps xs
 | [], _, h => h
 | _ :: _, _, ⟨t, r, e, h, q⟩ => ⟨t, r, e, s _ _ h, PickL.same s q⟩
theorem PickL.length {H : Hp} : ∀ {ps : List (Nat × Bool)} {xs : List V}, PickL H ps xs → ps.length = xs.length
 | [], _, h => by rw [show _ = [] from h]; rfl
 | _ :: _, _, ⟨t, r, e, _, q⟩ => by rw [e, List.length_cons, List.length_cons, PickL.length q]
theorem PickL.get {H : Hp} : ∀ {ps : List (Nat × Bool)} {xs : List V} {i : Nat} {x : V}, PickL H ps xs → xs[i]? = some x → ∃ p t, ps[i]? = some p ∧ x = .ref t ∧ H t = some (.tup [.int (p.1 : Int), .bl p.2])
 | [], _, i, _, h, e => by rw [show _ = [] from h] at e; cases e
 | p :: ps, _, 0, x, ⟨t, r, e', h, q⟩, e => by rw [e'] at e; cases e; exact ⟨p, t, rfl, rfl, h⟩
 | p :: ps, _, i + 1, x, ⟨t, r, e', h, q⟩, e => by rw [e'] at e; obtain ⟨p', t', h1, h2⟩ := PickL.get (i := i) q (show r[i]? = some x from e); exact ⟨p', t', h1, h2⟩
theorem PickL.snoc {H : Hp} {p : Nat × Bool} {t : Addr} (ht : H t = some (.tup [.int (p.1 : Int), .bl p.2])) : ∀ {ps : List (Nat × Bool)} {xs : List V}, PickL H ps xs → PickL H (ps ++ [p]) (xs ++ [.ref t])
 | [], _, h => by rw [show _ = [] from h]; exact ⟨t, [], rfl, ht, rfl⟩
 | _ :: _, _, ⟨t', r, e, h, q⟩ => ⟨t', r ++ [.ref t], by rw [e]; rfl, h, PickL.snoc ht q⟩
def zcp (ps : List (Nat × Bool)) : Nat := ps.foldl (fun y p => if p.2 = true then y ||| 2 ^ p.1 else y) 1
def zdk (ps : List (Nat × Bool)) : Nat := ps.foldl (fun n p => if p.2 = true then n else n ||| 2 ^ p.1) 0
theorem zi7 (ps : List (Nat × Bool)) (p : Nat × Bool) : zcp (ps ++ [p]) = if p.2 = true then zcp ps ||| 2 ^ p.1 else zcp ps := by
 unfold zcp
 rw [List.foldl_append]
 rfl
theorem zli (ps : List (Nat × Bool)) (p : Nat × Bool) : zdk (ps ++ [p]) = if p.2 = true then zdk ps else zdk ps ||| 2 ^ p.1 := by
 unfold zdk
 rw [List.foldl_append]
 rfl
structure PicksAt (H : Hp) (pl : Addr) (ps : List (Nat × Bool)) : Prop where
 ex : ∃ xs, H pl = some (.lst xs) ∧ PickL H ps xs
 few : ps.length ≤ 20
 le : ∀ p ∈ ps, p.1 ≤ 20
theorem PicksAt.same {H H' : Hp} {pl : Addr} {ps : List (Nat × Bool)} (s : Same H H') (h : PicksAt H pl ps) : PicksAt H' pl ps := by
 obtain ⟨xs, h1, h2⟩ := h.ex
 exact ⟨⟨xs, s _ _ h1, h2.same (Same.tup s)⟩, h.few, h.le⟩
def zps : Sp := fun vs H Q _ => ∃ (pl : Addr) (ps : List (Nat × Bool)), vs = [.ref pl] ∧ PicksAt H pl ps ∧ ∀ (t : Addr) (H' : Hp), Same H H' → H' t = some (.tup [.int (zcp ps : Int), .int (zdk ps : Int)]) → Q (.ref t) H'
def zqs : Sp := fun vs H Q _ => ∃ (wd pl : Addr) (m : Nat) (xs ys : List V) (ps : List (Nat × Bool)), vs = [.ref wd, .ref pl] ∧ WoodAt H wd m xs ys ∧ m ≤ 900 ∧ PicksAt H pl ps ∧ ∀ (l : Addr) (H' : Hp), Same H H' → H l = none → H' l = some (.lst (zb2 (zay m (zcp ps) (zdk ps)))) → Q (.ref l) H'
def zk2 (ts : List Tie) (m y n : Nat) : Option Nat → Prop
 | none => ∀ s, s < 2 ^ m → InS y n s → zbt ts s = false
 | some s => s < 2 ^ m ∧ InS y n s ∧ zbt ts s = true ∧ ∀ s', s' < 2 ^ m → InS y n s' → zbt ts s' = true → s ≤ s'
def zpd : Sp := fun vs H Q _ => ∃ (wd pl : Addr) (m : Nat) (ts : List Tie) (ps : List (Nat × Bool)), vs = [.ref wd, .ref pl] ∧ WoodT H wd m ts ∧ m ≤ 9 ∧ 1 ≤ m ∧ PicksAt H pl ps ∧ Stand m (zcp ps) (zdk ps) ∧ ∀ H' o, Same H H' → zk2 ts m (zcp ps) (zdk ps) o → Q (zm3 o) H'
def zs7 : Sp := fun vs H Q _ => ∃ (wd pl tp : Addr) (m : Nat) (ts : List Tie) (ps : List (Nat × Bool)) (p : Nat × Bool), vs = [.ref wd, .ref pl, .ref tp] ∧ WoodT H wd m ts ∧ m ≤ 9 ∧ 1 ≤ m ∧ PicksAt H pl ps ∧ ps.length ≤ 19 ∧ p.1 ≤ 20 ∧ H tp = some (.tup [.int (p.1 : Int), .bl p.2]) ∧ Stand m (zcp (ps ++ [p])) (zdk (ps ++ [p])) ∧ ∀ H' o, Same H H' → zk2 ts m (zcp (ps ++ [p])) (zdk (ps ++ [p])) o → Q (.bl (o.isSome)) H'
abbrev chF (wd pl : Addr) : List (Str × V) := [(("wood" : Str), .ref wd), (("picks" : Str), .ref pl)]
theorem zf4 (H : Hp) : zea H H := fun _ _ h => h
theorem zg4 {H : Hp} {a : Addr} {o o' : HO} (h : H a = some o) (no : ∀ xs, o ≠ .tup xs) : zea H (upd H a o') := fun b xs hb => by
 have n : b ≠ a := fun z => by
  rw [z, h] at hb
  exact no xs (Option.some.inj hb)
 rw [zao n]
 exact hb
def ztt (C : Addr) : Sp := fun vs H Q _ => ∃ (c dx wd : Addr) (m : Nat) (ts : List Tie), vs = [.ref c, .ref wd] ∧ H c = some (.ins C dx []) ∧ WoodT H wd m ts ∧ m ≤ 9 ∧ 1 ≤ m ∧ (∃ s, s < 2 ^ m ∧ zbt ts s = true) ∧ ∀ (pl : Addr) (H' : Hp), zea H H' → H' c = some (.ins C dx (chF wd pl)) → PicksAt H' pl [] → Q .non H'
def zue (C : Addr) : Sp := fun vs H Q _ => ∃ (c dx wd pl : Addr) (m : Nat) (ts : List Tie) (ps : List (Nat × Bool)), vs = [.ref c] ∧ H c = some (.ins C dx (chF wd pl)) ∧ PicksAt H pl ps ∧ WoodT H wd m ts ∧ m ≤ 9 ∧ 1 ≤ m ∧ Stand m (zcp ps) (zdk ps) ∧ ∀ H' o, Same H H' → zk2 ts m (zcp ps) (zdk ps) o → Q (zm3 o) H'
def zqj (C : Addr) : Sp := fun vs H Q _ => ∃ (c dx wd pl : Addr) (m : Nat) (ts : List Tie) (ps : List (Nat × Bool)) (k : Nat) (b : Bool), vs = [.ref c, .int (k : Int), .bl b] ∧ H c = some (.ins C dx (chF wd pl)) ∧ PicksAt H pl ps ∧ WoodT H wd m ts ∧ m ≤ 9 ∧ 1 ≤ m ∧ ps.length ≤ 18 ∧ k ≤ 20 ∧
 k ∈ zay m (zcp ps) (zdk ps) ∧ Stand m (zcp (ps ++ [(k, b)])) (zdk (ps ++ [(k, b)])) ∧ (∃ s, s < 2 ^ m ∧ InS (zcp (ps ++ [(k, b)])) (zdk (ps ++ [(k, b)])) s ∧ zbt ts s = true) ∧
 ∀ (H' : Hp), zea H H' → H' c = some (.ins C dx (chF wd pl)) → PicksAt H' pl (ps ++ [(k, b)]) → Q .non H'
theorem zgl {ts : List Tie} {m y n : Nat} {o : Option Nat} (h : zk2 ts m y n o) (w : ∃ s, s < 2 ^ m ∧ InS y n s ∧ zbt ts s = true) : ∃ s, o = some s := by
 obtain ⟨s, h1, h2, h3⟩ := w
 cases o with
 | none =>
  have := h s h1 h2
  rw [h3] at this
  cases this
 | some s' => exact ⟨s', rfl⟩
theorem zou {m : Nat} (h : 1 ≤ m) : Stand m (zcp []) (zdk []) := ⟨fun k _ => Nat.zero_testBit k, (by show 1 < 2 ^ m; exact Nat.one_lt_two_pow (by omega)), (by show 0 < 2 ^ m; exact Nat.pow_pos (by decide))⟩
theorem zve {ts : List Tie} {s : Nat} (h : zbt ts s = true) : InS (zcp []) (zdk []) s := ⟨fun k hk => by
 have hk' : Nat.testBit 1 k = true := hk
 rw [Nat.testBit_one_eq_true_iff_self_eq_zero] at hk'
 subst hk'
 unfold zbt at h
 exact (Bool.and_eq_true_iff.mp h).1, fun k hk => by
 have hk' : Nat.testBit 0 k = true := hk
 rw [Nat.zero_testBit] at hk'
 cases hk'⟩
def ze7 (w i : Nat) : List (Nat × Bool) := (List.range i).map fun j => (j + 1, w.testBit (j + 1))
theorem zep (w i : Nat) : ze7 w (i + 1) = ze7 w i ++ [(i + 1, w.testBit (i + 1))] := by
 unfold ze7
 rw [List.range_succ, List.map_append]
 rfl
theorem zrv (w i : Nat) : (ze7 w i).length = i := by
 unfold ze7
 rw [List.length_map, List.length_range]
theorem zft (w : Nat) : ∀ (i k : Nat), (zcp (ze7 w i)).testBit k = (decide (k = 0) || (decide (1 ≤ k ∧ k ≤ i) && w.testBit k))
 | 0, k => by
  show Nat.testBit 1 k = _
  rw [decide_eq_false (show ¬ (1 ≤ k ∧ k ≤ 0) by omega), Bool.false_and, Bool.or_false, Bool.eq_iff_iff, Nat.testBit_one_eq_true_iff_self_eq_zero, decide_eq_true_iff]
 | i + 1, k => by
  rw [zep, zi7]
  have ih := zft w i k
  by_cases e : k = i + 1
  ·subst e
   have h0 : decide (i + 1 = 0) = false := decide_eq_false (by omega)
   rw [decide_eq_true (show 1 ≤ i + 1 ∧ i + 1 ≤ i + 1 by omega), h0, Bool.false_or, Bool.true_and]
   rw [decide_eq_false (show ¬ (1 ≤ i + 1 ∧ i + 1 ≤ i) by omega), h0, Bool.false_and, Bool.false_or] at ih
   cases c : w.testBit (i + 1)
   ·exact ih
   ·rw [if_pos rfl, Nat.testBit_or, Nat.testBit_two_pow_self, Bool.or_true]
  ·have e1 : (1 ≤ k ∧ k ≤ i + 1) = (1 ≤ k ∧ k ≤ i) := propext ⟨fun h => by omega, fun h => by omega⟩
   simp only [e1]
   rw [← ih]
   cases c : w.testBit (i + 1)
   ·rfl
   ·rw [if_pos rfl, Nat.testBit_or, Nat.testBit_two_pow, decide_eq_false (Ne.symm e), Bool.or_false]
theorem zhs (w : Nat) : ∀ (i k : Nat), (zdk (ze7 w i)).testBit k = (decide (1 ≤ k ∧ k ≤ i) && !w.testBit k)
 | 0, k => by
  show Nat.testBit 0 k = _
  rw [decide_eq_false (show ¬ (1 ≤ k ∧ k ≤ 0) by omega), Bool.false_and, Nat.zero_testBit]
 | i + 1, k => by
  rw [zep, zli]
  have ih := zhs w i k
  by_cases e : k = i + 1
  ·subst e
   rw [decide_eq_true (show 1 ≤ i + 1 ∧ i + 1 ≤ i + 1 by omega), Bool.true_and]
   rw [decide_eq_false (show ¬ (1 ≤ i + 1 ∧ i + 1 ≤ i) by omega), Bool.false_and] at ih
   cases c : w.testBit (i + 1)
   ·rw [if_neg Bool.false_ne_true, Nat.testBit_or, Nat.testBit_two_pow_self, Bool.or_true]
    rfl
   ·exact ih
  ·have e1 : (1 ≤ k ∧ k ≤ i + 1) = (1 ≤ k ∧ k ≤ i) := propext ⟨fun h => by omega, fun h => by omega⟩
   simp only [e1]
   rw [← ih]
   cases c : w.testBit (i + 1)
   ·rw [if_neg Bool.false_ne_true, Nat.testBit_or, Nat.testBit_two_pow, decide_eq_false (Ne.symm e), Bool.or_false]
   ·rfl
theorem zmh {w m i : Nat} (h : i < m) : Stand m (zcp (ze7 w i)) (zdk (ze7 w i)) := by
 refine ⟨fun k hk => ?_, Nat.lt_pow_two_of_testBit _ fun k hk => ?_, Nat.lt_pow_two_of_testBit _ fun k hk => ?_⟩
 ·rw [zft] at hk
  rw [zhs]
  by_cases z : k = 0
  ·rw [decide_eq_false (show ¬ (1 ≤ k ∧ k ≤ i) by omega), Bool.false_and]
  ·rw [decide_eq_false z, Bool.false_or, Bool.and_eq_true] at hk
   rw [hk.2, hk.1]
   rfl
 ·rw [zft, decide_eq_false (show ¬ k = 0 by omega), decide_eq_false (show ¬ (1 ≤ k ∧ k ≤ i) by omega)]
  rfl
 ·rw [zhs, decide_eq_false (show ¬ (1 ≤ k ∧ k ≤ i) by omega)]
  rfl
theorem ztk {w i : Nat} (h : w.testBit 0 = true) : InS (zcp (ze7 w i)) (zdk (ze7 w i)) w := by
 refine ⟨fun k hk => ?_, fun k hk => ?_⟩
 ·rw [zft] at hk
  by_cases z : k = 0
  ·rw [z]; exact h
  ·rw [decide_eq_false z, Bool.false_or, Bool.and_eq_true] at hk
   exact hk.2
 ·rw [zhs, Bool.and_eq_true, Bool.not_eq_true'] at hk
  exact hk.2
theorem ztd {w m i : Nat} (h : i + 1 < m) : i + 1 ∈ zay m (zcp (ze7 w i)) (zdk (ze7 w i)) := by
 refine mem_open.mpr ⟨h, ?_, ?_⟩
 ·rw [zft, decide_eq_false (show ¬ i + 1 = 0 by omega), decide_eq_false (show ¬ (1 ≤ i + 1 ∧ i + 1 ≤ i) by omega)]
  rfl
 ·rw [zhs, decide_eq_false (show ¬ (1 ≤ i + 1 ∧ i + 1 ≤ i) by omega)]
  rfl
theorem zud {w m s : Nat} (m1 : 1 ≤ m) (hw : w < 2 ^ m) (h0 : w.testBit 0 = true) (hs : s < 2 ^ m) (h : InS (zcp (ze7 w (m - 1))) (zdk (ze7 w (m - 1))) s) : s = w := by
 apply Nat.eq_of_testBit_eq
 intro k
 by_cases km : k < m
 ·cases c : w.testBit k
  ·refine h.2 k ?_
   rw [zhs, c]
   by_cases z : k = 0
   ·rw [z, h0] at c; cases c
   ·rw [decide_eq_true (show 1 ≤ k ∧ k ≤ m - 1 by omega)]; rfl
  ·refine h.1 k ?_
   rw [zft, c]
   by_cases z : k = 0
   ·rw [decide_eq_true z]; rfl
   ·rw [decide_eq_true (show 1 ≤ k ∧ k ≤ m - 1 by omega), Bool.and_true, Bool.or_true]
 ·have p : 2 ^ m ≤ 2 ^ k := Nat.pow_le_pow_right (by decide) (by omega)
  rw [Nat.testBit_lt_two_pow (by omega), Nat.testBit_lt_two_pow (by omega)]
def zru : Sp := fun vs H Q _ => ∃ (wd : Addr) (m : Nat) (ts : List Tie) (w : Nat), vs = [.ref wd, .int (w : Int)] ∧ (∀ H', zea H H' → WoodT H' wd m ts) ∧ m ≤ 9 ∧ 1 ≤ m ∧ w < 2 ^ m ∧ zbt ts w = true ∧ ∀ H', zea H H' → Q (.bl true) H'
theorem wIn_iff {m : Nat} {t1 t2 : List Tie} : wIn m t1 t2 = true ↔ ∀ s, s < 2 ^ m → zbt t1 s = true → zbt t2 s = true := by
 unfold wIn outside
 rw [List.isEmpty_iff, List.filter_eq_nil_iff]
 constructor
 ·intro h s hs hw
  have := h s (mem_wareL.mpr ⟨hs, hw⟩)
  simpa using this
 ·intro h s hs
  obtain ⟨h1, h2⟩ := mem_wareL.mp hs
  simpa using h s h1 h2
theorem zpo {m : Nat} {t1 t2 t3 : List Tie} (a : wIn m t1 t2 = true) (b : wIn m t2 t3 = true) : wIn m t1 t3 = true := wIn_iff.mpr fun s hs h => wIn_iff.mp b s hs (wIn_iff.mp a s hs h)
theorem zi1 {m : Nat} {t1 te : List Tie} : wIn m (t1 ++ te) t1 = true := wIn_iff.mpr fun s _ h => by
 unfold zbt at h ⊢
 rw [Bool.and_eq_true] at h ⊢
 exact ⟨h.1, by rw [List.all_append, Bool.and_eq_true] at h; exact h.2.1⟩
theorem zr6 {m : Nat} {t1 t2 : List Tie} (a : wIn m t1 t2 = true) : decide ((zco m t1).map (fun k : Nat => (k : Int)) = (zco m t2).map (fun k : Nat => (k : Int))) = wIn m t2 t1 := by
 rw [Bool.eq_iff_iff, decide_eq_true_iff]
 constructor
 ·intro e
  have e' := zko e
  refine wIn_iff.mpr fun s hs h => ?_
  have : s ∈ zco m t1 := by rw [e']; exact mem_wareL.mpr ⟨hs, h⟩
  exact (mem_wareL.mp this).2
 ·intro b
  congr 1
  unfold zco
  refine List.filter_congr fun s hs => ?_
  have h1 := List.mem_range.mp hs
  rw [Bool.eq_iff_iff]
  exact ⟨wIn_iff.mp a s h1, wIn_iff.mp b s h1⟩
theorem zs0 {H : Hp} {m : Nat} {t1 t2 : List Tie} {v : V} (h : Dn H (zqp m t1 t2) v) : ∃ p xs, v = .ref p ∧ H p = some (.tup (.str (zq6 (wIn m t1 t2) (wIn m t2 t1)) :: xs)) := by
 unfold zqp zph at h
 split at h <;> obtain ⟨p, xs, rfl, hp, x, r, rfl, hx, _⟩ := zda h <;> rw [show x = _ from hx] at hp <;> exact ⟨p, _, rfl, hp⟩
theorem zdj {H : Hp} {m : Nat} {t1 t2 : List Tie} {v : V} (h : Dn H (zfz m t1 t2) v) : ∃ p xs, v = .ref p ∧ H p = some (.tup (.str (zcf (wIn m t1 t2)) :: xs)) := by
 rw [ziz] at h
 obtain ⟨p, xs, rfl, hp, x, r, rfl, hx, _⟩ := zda h
 rw [show x = _ from hx] at hp
 exact ⟨p, _, rfl, hp⟩
theorem zqn (b : Bool) : V.str (zcf b) = V.str ("in" : Str) ↔ b = true := by
 cases b
 ·exact ⟨fun z => absurd z (by decide +kernel), fun z => nomatch z⟩
 ·exact ⟨fun _ => rfl, fun _ => rfl⟩
end Wd
set_option maxRecDepth 100000
set_option maxHeartbeats 4000000
namespace Ow
open PySem L2 Wd
theorem _root_.L2.Room.lv {A : Around} {j k : Nat} (hr : Room k A) (h : j ≤ k := by first | decide | omega) : Room j A := hr.mono h
def top (i : Nat) : Stmt := PySem.Challenge.pw_optionwood_k55_whole_three_woods.main.body.getD i (.Pass ⟨0, 0, 0, 0⟩)
abbrev zgy : Stmt := top 2
abbrev zbv : Stmt := top 3
abbrev zbi : Stmt := top 4
abbrev zcl : Stmt := top 11
abbrev zdb : Stmt := top 12
abbrev zdr : Stmt := top 14
abbrev zbx : Stmt := top 15
abbrev zcm : Stmt := top 16
abbrev zci : Stmt := top 17
abbrev zbp : Stmt := top 18
abbrev zc2 : Stmt := top 19
abbrev zby : Stmt := top 20
abbrev zck : Stmt := top 21
abbrev zb8 : Stmt := top 22
abbrev zbk : Stmt := top 23
abbrev zas : Stmt := top 24
abbrev zaw : Stmt := top 25
abbrev za4 : Stmt := top 26
abbrev zbh : Stmt := top 27
abbrev zdy : Stmt := top 29
abbrev zbq : Stmt := top 30
abbrev zcj : Stmt := top 31
abbrev zb0 : Stmt := top 32
abbrev zcs : Stmt := top 33
abbrev zd1 : Stmt := top 35
abbrev zb6 : Stmt := top 36
abbrev za7 : Stmt := top 37
abbrev zb3 : Stmt := top 39
abbrev zcv : Stmt := top 40
abbrev zbw : Stmt := top 41
abbrev zcg : Stmt := top 42
abbrev zcx : Stmt := top 45
abbrev zc4 : Stmt := top 46
abbrev zbl : Stmt := top 47
abbrev zcr : Stmt := top 48
abbrev zcc : Stmt := top 50
abbrev zbm : Stmt := top 51
abbrev zbf : Stmt := top 52
abbrev zcw : Stmt := top 53
abbrev zcu : Stmt := top 54
abbrev zcd : Stmt := top 55
abbrev zb7 : Stmt := top 56
abbrev zeb : Stmt := top 57
abbrev zbb : Stmt := (zl1 (top 44)).getD 0 (.Pass ⟨0, 0, 0, 0⟩)
abbrev zbn : Stmt := (zl1 (top 44)).getD 4 (.Pass ⟨0, 0, 0, 0⟩)
abbrev zbz : Stmt := (zl1 (top 44)).getD 6 (.Pass ⟨0, 0, 0, 0⟩)
set_option genInjectivity false
set_option genSizeOfSpec false
set_option genSizeOf false
structure Adr where
 f_has : Addr
 f_with_option : Addr
 f_open_options : Addr
 f_many_ties : Addr
 f_tie_at : Addr
 f_keeps : Addr
 f_keeps_bough : Addr
 f_count_in : Addr
 f_every_tie : Addr
 f_first_broken : Addr
 f_is_ware : Addr
 f_sure_broken : Addr
 f_sure_kept : Addr
 f_least_sum : Addr
 f_greatest_sum : Addr
 f_sure_broken_bough : Addr
 f_sure_kept_bough : Addr
 f_first_sure_broken : Addr
 f_all_sure_kept : Addr
 f_cases : Addr
 f_cases_of : Addr
 f_ware_leaf : Addr
 f_told_tree : Addr
 f_wares_in : Addr
 f_wares : Addr
 f_first_ware : Addr
 f_first_keeping : Addr
 f_within : Addr
 f_compared : Addr
 f_check_alike : Addr
 f_kept_leaf : Addr
 f_stand_of : Addr
 f_open_at : Addr
 f_first_ware_at : Addr
 f_leads_on : Addr
 f_law_take : Addr
 f_law_boughs : Addr
 f_law_cross : Addr
 f_law_many : Addr
 f_law_wood : Addr
 f_law_near : Addr
 f_law_chosen : Addr
 f_law : Addr
 f_Choice___init__ : Addr
 f_Choice_choose : Addr
 f_Choice_ware : Addr
 c_cases_of : Addr
 t_cases_of : Addr
 c_within : Addr
 t_within : Addr
 x_Choice : Addr
structure Fds where
 f_has : FuncData
 f_with_option : FuncData
 f_open_options : FuncData
 f_many_ties : FuncData
 f_tie_at : FuncData
 f_keeps : FuncData
 f_keeps_bough : FuncData
 f_count_in : FuncData
 f_every_tie : FuncData
 f_first_broken : FuncData
 f_is_ware : FuncData
 f_sure_broken : FuncData
 f_sure_kept : FuncData
 f_least_sum : FuncData
 f_greatest_sum : FuncData
 f_sure_broken_bough : FuncData
 f_sure_kept_bough : FuncData
 f_first_sure_broken : FuncData
 f_all_sure_kept : FuncData
 f_cases : FuncData
 f_cases_of : FuncData
 f_ware_leaf : FuncData
 f_told_tree : FuncData
 f_wares_in : FuncData
 f_wares : FuncData
 f_first_ware : FuncData
 f_first_keeping : FuncData
 f_within : FuncData
 f_compared : FuncData
 f_check_alike : FuncData
 f_kept_leaf : FuncData
 f_stand_of : FuncData
 f_open_at : FuncData
 f_first_ware_at : FuncData
 f_leads_on : FuncData
 f_law_take : FuncData
 f_law_boughs : FuncData
 f_law_cross : FuncData
 f_law_many : FuncData
 f_law_wood : FuncData
 f_law_near : FuncData
 f_law_chosen : FuncData
 f_law : FuncData
 f_Choice___init__ : FuncData
 f_Choice_choose : FuncData
 f_Choice_ware : FuncData
structure Txt (K : PySem.W.Frag) (mg : Str → Option Value) (a : Adr) (d : Fds) : Prop where
 m_range : mg "range" = none
 m_len : mg "len" = none
 m_max : mg "max" = none
 m_all : mg "all" = none
 m_int : mg "int" = none
 m_list : mg "list" = none
 m_tuple : mg "tuple" = none
 m_sorted : mg "sorted" = none
 m_sum : mg "sum" = none
 g_has : mg "has" = some (.ref a.f_has)
 K_has : Fun K "has" "has" zgy a.f_has d.f_has
 B_has : Binds K d.f_has ["some", "k"] []
 g_with_option : mg "with_option" = some (.ref a.f_with_option)
 K_with_option : Fun K "with_option" "with_option" zbv a.f_with_option d.f_with_option
 B_with_option : Binds K d.f_with_option ["some", "k"] []
 g_open_options : mg "open_options" = some (.ref a.f_open_options)
 K_open_options : Fun K "open_options" "open_options" zbi a.f_open_options d.f_open_options
 B_open_options : Binds K d.f_open_options ["many", "yes", "no"] []
 g_many_ties : mg "many_ties" = some (.ref a.f_many_ties)
 K_many_ties : Fun K "many_ties" "many_ties" zcl a.f_many_ties d.f_many_ties
 B_many_ties : Binds K d.f_many_ties ["wood"] []
 g_tie_at : mg "tie_at" = some (.ref a.f_tie_at)
 K_tie_at : Fun K "tie_at" "tie_at" zdb a.f_tie_at d.f_tie_at
 B_tie_at : Binds K d.f_tie_at ["wood", "t"] []
 g_keeps : mg "keeps" = some (.ref a.f_keeps)
 K_keeps : Fun K "keeps" "keeps" zdr a.f_keeps d.f_keeps
 B_keeps : Binds K d.f_keeps ["tie", "some"] []
 g_keeps_bough : mg "keeps_bough" = some (.ref a.f_keeps_bough)
 K_keeps_bough : Fun K "keeps_bough" "keeps_bough" zbx a.f_keeps_bough d.f_keeps_bough
 B_keeps_bough : Binds K d.f_keeps_bough ["bough", "some"] []
 g_count_in : mg "count_in" = some (.ref a.f_count_in)
 K_count_in : Fun K "count_in" "count_in" zcm a.f_count_in d.f_count_in
 B_count_in : Binds K d.f_count_in ["kids", "some"] []
 g_every_tie : mg "every_tie" = some (.ref a.f_every_tie)
 K_every_tie : Fun K "every_tie" "every_tie" zci a.f_every_tie d.f_every_tie
 B_every_tie : Binds K d.f_every_tie ["wood"] []
 g_first_broken : mg "first_broken" = some (.ref a.f_first_broken)
 K_first_broken : Fun K "first_broken" "first_broken" zbp a.f_first_broken d.f_first_broken
 B_first_broken : Binds K d.f_first_broken ["wood", "some"] []
 g_is_ware : mg "is_ware" = some (.ref a.f_is_ware)
 K_is_ware : Fun K "is_ware" "is_ware" zc2 a.f_is_ware d.f_is_ware
 B_is_ware : Binds K d.f_is_ware ["wood", "some"] []
 g_sure_broken : mg "sure_broken" = some (.ref a.f_sure_broken)
 K_sure_broken : Fun K "sure_broken" "sure_broken" zby a.f_sure_broken d.f_sure_broken
 B_sure_broken : Binds K d.f_sure_broken ["tie", "yes", "no"] []
 g_sure_kept : mg "sure_kept" = some (.ref a.f_sure_kept)
 K_sure_kept : Fun K "sure_kept" "sure_kept" zck a.f_sure_kept d.f_sure_kept
 B_sure_kept : Binds K d.f_sure_kept ["tie", "yes", "no"] []
 g_least_sum : mg "least_sum" = some (.ref a.f_least_sum)
 K_least_sum : Fun K "least_sum" "least_sum" zb8 a.f_least_sum d.f_least_sum
 B_least_sum : Binds K d.f_least_sum ["pairs", "yes", "no"] []
 g_greatest_sum : mg "greatest_sum" = some (.ref a.f_greatest_sum)
 K_greatest_sum : Fun K "greatest_sum" "greatest_sum" zbk a.f_greatest_sum d.f_greatest_sum
 B_greatest_sum : Binds K d.f_greatest_sum ["pairs", "yes", "no"] []
 g_sure_broken_bough : mg "sure_broken_bough" = some (.ref a.f_sure_broken_bough)
 K_sure_broken_bough : Fun K "sure_broken_bough" "sure_broken_bough" zas a.f_sure_broken_bough d.f_sure_broken_bough
 B_sure_broken_bough : Binds K d.f_sure_broken_bough ["bough", "yes", "no"] []
 g_sure_kept_bough : mg "sure_kept_bough" = some (.ref a.f_sure_kept_bough)
 K_sure_kept_bough : Fun K "sure_kept_bough" "sure_kept_bough" zaw a.f_sure_kept_bough d.f_sure_kept_bough
 B_sure_kept_bough : Binds K d.f_sure_kept_bough ["bough", "yes", "no"] []
 g_first_sure_broken : mg "first_sure_broken" = some (.ref a.f_first_sure_broken)
 K_first_sure_broken : Fun K "first_sure_broken" "first_sure_broken" za4 a.f_first_sure_broken d.f_first_sure_broken
 B_first_sure_broken : Binds K d.f_first_sure_broken ["wood", "ties", "yes", "no"] []
 g_all_sure_kept : mg "all_sure_kept" = some (.ref a.f_all_sure_kept)
 K_all_sure_kept : Fun K "all_sure_kept" "all_sure_kept" zbh a.f_all_sure_kept d.f_all_sure_kept
 B_all_sure_kept : Binds K d.f_all_sure_kept ["wood", "yes", "no"] []
 g_cases : mg "cases" = some (.ref a.f_cases)
 K_cases : Fun K "cases" "cases" zdy a.f_cases d.f_cases
 B_cases : Binds K d.f_cases ["wood", "yes", "no"] []
 g_cases_of : mg "cases_of" = some (.ref a.f_cases_of)
 K_cases_of : Fun K "cases_of" "cases_of" zbq a.f_cases_of d.f_cases_of
 B_cases_of : Binds K d.f_cases_of ["wood", "ties", "yes", "no"] []
 g_ware_leaf : mg "ware_leaf" = some (.ref a.f_ware_leaf)
 K_ware_leaf : Fun K "ware_leaf" "ware_leaf" zcj a.f_ware_leaf d.f_ware_leaf
 B_ware_leaf : Binds K d.f_ware_leaf ["wood", "yes", "no"] []
 g_told_tree : mg "told_tree" = some (.ref a.f_told_tree)
 K_told_tree : Fun K "told_tree" "told_tree" zb0 a.f_told_tree d.f_told_tree
 B_told_tree : Binds K d.f_told_tree ["wood", "ties", "yes", "no", "leaf_at"] []
 g_wares_in : mg "wares_in" = some (.ref a.f_wares_in)
 K_wares_in : Fun K "wares_in" "wares_in" zcs a.f_wares_in d.f_wares_in
 B_wares_in : Binds K d.f_wares_in ["yes", "tree"] []
 g_wares : mg "wares" = some (.ref a.f_wares)
 K_wares : Fun K "wares" "wares" zd1 a.f_wares d.f_wares
 B_wares : Binds K d.f_wares ["wood"] []
 g_first_ware : mg "first_ware" = some (.ref a.f_first_ware)
 K_first_ware : Fun K "first_ware" "first_ware" zb6 a.f_first_ware d.f_first_ware
 B_first_ware : Binds K d.f_first_ware ["wood", "yes", "no"] []
 g_first_keeping : mg "first_keeping" = some (.ref a.f_first_keeping)
 K_first_keeping : Fun K "first_keeping" "first_keeping" za7 a.f_first_keeping d.f_first_keeping
 B_first_keeping : Binds K d.f_first_keeping ["wood", "ties", "yes", "no"] []
 g_within : mg "within" = some (.ref a.f_within)
 K_within : Fun K "within" "within" zb3 a.f_within d.f_within
 B_within : Binds K d.f_within ["one", "other"] []
 g_compared : mg "compared" = some (.ref a.f_compared)
 K_compared : Fun K "compared" "compared" zcv a.f_compared d.f_compared
 B_compared : Binds K d.f_compared ["one", "other"] []
 g_check_alike : mg "check_alike" = some (.ref a.f_check_alike)
 K_check_alike : Fun K "check_alike" "check_alike" zbw a.f_check_alike d.f_check_alike
 B_check_alike : Binds K d.f_check_alike ["one", "other"] []
 g_kept_leaf : mg "kept_leaf" = some (.ref a.f_kept_leaf)
 K_kept_leaf : Fun K "kept_leaf" "kept_leaf" zcg a.f_kept_leaf d.f_kept_leaf
 B_kept_leaf : Binds K d.f_kept_leaf ["other", "yes", "no"] []
 g_stand_of : mg "stand_of" = some (.ref a.f_stand_of)
 K_stand_of : Fun K "stand_of" "stand_of" zcx a.f_stand_of d.f_stand_of
 B_stand_of : Binds K d.f_stand_of ["picks"] []
 g_open_at : mg "open_at" = some (.ref a.f_open_at)
 K_open_at : Fun K "open_at" "open_at" zc4 a.f_open_at d.f_open_at
 B_open_at : Binds K d.f_open_at ["wood", "picks"] []
 g_first_ware_at : mg "first_ware_at" = some (.ref a.f_first_ware_at)
 K_first_ware_at : Fun K "first_ware_at" "first_ware_at" zbl a.f_first_ware_at d.f_first_ware_at
 B_first_ware_at : Binds K d.f_first_ware_at ["wood", "picks"] []
 g_leads_on : mg "leads_on" = some (.ref a.f_leads_on)
 K_leads_on : Fun K "leads_on" "leads_on" zcr a.f_leads_on d.f_leads_on
 B_leads_on : Binds K d.f_leads_on ["wood", "picks", "pick"] []
 g_law_take : mg "_law_take" = some (.ref a.f_law_take)
 K_law_take : Fun K "_law_take" "_law_take" zcc a.f_law_take d.f_law_take
 B_law_take : Binds K d.f_law_take ["_law_state", "_law_most"] []
 g_law_boughs : mg "_law_boughs" = some (.ref a.f_law_boughs)
 K_law_boughs : Fun K "_law_boughs" "_law_boughs" zbm a.f_law_boughs d.f_law_boughs
 B_law_boughs : Binds K d.f_law_boughs ["_law_state", "_law_many_here"] []
 g_law_cross : mg "_law_cross" = some (.ref a.f_law_cross)
 K_law_cross : Fun K "_law_cross" "_law_cross" zbf a.f_law_cross d.f_law_cross
 B_law_cross : Binds K d.f_law_cross ["_law_state", "_law_many_here", "_law_most"] []
 g_law_many : mg "_law_many" = some (.ref a.f_law_many)
 K_law_many : Fun K "_law_many" "_law_many" zcw a.f_law_many d.f_law_many
 B_law_many : Binds K d.f_law_many ["_law_state"] []
 g_law_wood : mg "_law_wood" = some (.ref a.f_law_wood)
 K_law_wood : Fun K "_law_wood" "_law_wood" zcu a.f_law_wood d.f_law_wood
 B_law_wood : Binds K d.f_law_wood ["_law_state", "_law_many_here", "_law_most"] []
 g_law_near : mg "_law_near" = some (.ref a.f_law_near)
 K_law_near : Fun K "_law_near" "_law_near" zcd a.f_law_near d.f_law_near
 B_law_near : Binds K d.f_law_near ["_law_state", "_law_wood_here"] []
 g_law_chosen : mg "_law_chosen" = some (.ref a.f_law_chosen)
 K_law_chosen : Fun K "_law_chosen" "_law_chosen" zb7 a.f_law_chosen d.f_law_chosen
 B_law_chosen : Binds K d.f_law_chosen ["_law_wood_here", "_law_ware"] []
 g_law : mg "law" = some (.ref a.f_law)
 K_law : Fun K "law" "law" zeb a.f_law d.f_law
 B_law : Binds K d.f_law ["_law_script"] []
 g_Choice___init__ : Mk K a.x_Choice a.f_Choice___init__
 K_Choice___init__ : Fun K "__init__" "Choice.__init__" zbb a.f_Choice___init__ d.f_Choice___init__
 B_Choice___init__ : Binds K d.f_Choice___init__ ["self", "wood"] []
 g_Choice_choose : zqt K a.x_Choice "choose" a.f_Choice_choose
 K_Choice_choose : Fun K "choose" "Choice.choose" zbn a.f_Choice_choose d.f_Choice_choose
 B_Choice_choose : Binds K d.f_Choice_choose ["self", "k", "value"] []
 g_Choice_ware : zqt K a.x_Choice "ware" a.f_Choice_ware
 K_Choice_ware : Fun K "ware" "Choice.ware" zbz a.f_Choice_ware d.f_Choice_ware
 B_Choice_ware : Binds K d.f_Choice_ware ["self"] []
 code_cases_of : d.f_cases_of.code = .ref a.c_cases_of
 code_within : d.f_within.code = .ref a.c_within
 g_Choice : mg "Choice" = some (.ref a.x_Choice)
 C_Choice : Cls K a.x_Choice
 n_Choice_picks : NoAttr K a.x_Choice "picks"
 n_Choice_wood : NoAttr K a.x_Choice "wood"
theorem zt4 : zat ["some", "k"] ["some", "k"] (zab zgy) := ⟨rfl, rfl, rfl, by decide +kernel, rfl, by decide +kernel, by decide +kernel⟩
theorem zjj : zat ["some", "k"] ["some", "k"] (zab zbv) := ⟨rfl, rfl, rfl, by decide +kernel, rfl, by decide +kernel, by decide +kernel⟩
theorem zii : zat ["many", "yes", "no"] ["many", "yes", "no"] (zab zbi) := ⟨rfl, rfl, rfl, by decide +kernel, rfl, by decide +kernel, by decide +kernel⟩
theorem zk8 : zat ["wood"] ["wood"] (zab zcl) := ⟨rfl, rfl, rfl, by decide +kernel, rfl, by decide +kernel, by decide +kernel⟩
theorem sc_tie_at : zat ["wood", "t", "boughs"] ["wood", "t"] (zab zdb) := ⟨rfl, rfl, rfl, by decide +kernel, rfl, by decide +kernel, by decide +kernel⟩
theorem zqd : zat ["tie", "some"] ["tie", "some"] (zab zdr) := ⟨rfl, rfl, rfl, by decide +kernel, rfl, by decide +kernel, by decide +kernel⟩
theorem sc_keeps_bough : zat ["bough", "some", "count"] ["bough", "some"] (zab zbx) := ⟨rfl, rfl, rfl, by decide +kernel, rfl, by decide +kernel, by decide +kernel⟩
theorem zmt : zat ["kids", "some"] ["kids", "some"] (zab zcm) := ⟨rfl, rfl, rfl, by decide +kernel, rfl, by decide +kernel, by decide +kernel⟩
theorem zlc : zat ["wood"] ["wood"] (zab zci) := ⟨rfl, rfl, rfl, by decide +kernel, rfl, by decide +kernel, by decide +kernel⟩
theorem sc_first_broken : zat ["wood", "some", "t"] ["wood", "some"] (zab zbp) := ⟨rfl, rfl, rfl, by decide +kernel, rfl, by decide +kernel, by decide +kernel⟩
theorem zof : zat ["wood", "some"] ["wood", "some"] (zab zc2) := ⟨rfl, rfl, rfl, by decide +kernel, rfl, by decide +kernel, by decide +kernel⟩
theorem zjm : zat ["tie", "yes", "no"] ["tie", "yes", "no"] (zab zby) := ⟨rfl, rfl, rfl, by decide +kernel, rfl, by decide +kernel, by decide +kernel⟩
theorem zlo : zat ["tie", "yes", "no"] ["tie", "yes", "no"] (zab zck) := ⟨rfl, rfl, rfl, by decide +kernel, rfl, by decide +kernel, by decide +kernel⟩
theorem zky : zat ["pairs", "yes", "no"] ["pairs", "yes", "no"] (zab zb8) := ⟨rfl, rfl, rfl, by decide +kernel, rfl, by decide +kernel, by decide +kernel⟩
theorem zih : zat ["pairs", "yes", "no"] ["pairs", "yes", "no"] (zab zbk) := ⟨rfl, rfl, rfl, by decide +kernel, rfl, by decide +kernel, by decide +kernel⟩
theorem sc_sure_broken_bough : zat ["bough", "yes", "no", "least", "greatest", "some_with_up", "some_without_up"] ["bough", "yes", "no"] (zab zas) := ⟨rfl, rfl, rfl, by decide +kernel, rfl, by decide +kernel, by decide +kernel⟩
theorem sc_sure_kept_bough : zat ["bough", "yes", "no", "least", "greatest", "all_with_up", "all_without_up"] ["bough", "yes", "no"] (zab zaw) := ⟨rfl, rfl, rfl, by decide +kernel, rfl, by decide +kernel, by decide +kernel⟩
theorem sc_first_sure_broken : zat ["wood", "ties", "yes", "no", "t"] ["wood", "ties", "yes", "no"] (zab za4) := ⟨rfl, rfl, rfl, by decide +kernel, rfl, by decide +kernel, by decide +kernel⟩
theorem zhh : zat ["wood", "yes", "no"] ["wood", "yes", "no"] (zab zbh) := ⟨rfl, rfl, rfl, by decide +kernel, rfl, by decide +kernel, by decide +kernel⟩
theorem zrf : zat ["wood", "yes", "no"] ["wood", "yes", "no"] (zab zdy) := ⟨rfl, rfl, rfl, by decide +kernel, rfl, by decide +kernel, by decide +kernel⟩
theorem znf : zat ["wood", "ties", "yes", "no"] ["wood", "ties", "yes", "no"] (zab zbq) := ⟨rfl, rfl, rfl, by decide +kernel, rfl, by decide +kernel, by decide +kernel⟩
theorem zk9 : zat ["wood", "yes", "no"] ["wood", "yes", "no"] (zab zcj) := ⟨rfl, rfl, rfl, by decide +kernel, rfl, by decide +kernel, by decide +kernel⟩
theorem sc_told_tree : zat ["wood", "ties", "yes", "no", "leaf_at", "broken", "leaf", "k", "one", "other"] ["wood", "ties", "yes", "no", "leaf_at"] (zab zb0) := ⟨rfl, rfl, rfl, by decide +kernel, rfl, by decide +kernel, by decide +kernel⟩
theorem zm8 : zat ["yes", "tree"] ["yes", "tree"] (zab zcs) := ⟨rfl, rfl, rfl, by decide +kernel, rfl, by decide +kernel, by decide +kernel⟩
theorem sc_wares : zat ["wood", "root"] ["wood"] (zab zd1) := ⟨rfl, rfl, rfl, by decide +kernel, rfl, by decide +kernel, by decide +kernel⟩
theorem zjz : zat ["wood", "yes", "no"] ["wood", "yes", "no"] (zab zb6) := ⟨rfl, rfl, rfl, by decide +kernel, rfl, by decide +kernel, by decide +kernel⟩
theorem sc_first_keeping : zat ["wood", "ties", "yes", "no", "left", "k", "found"] ["wood", "ties", "yes", "no"] (zab za7) := ⟨rfl, rfl, rfl, by decide +kernel, rfl, by decide +kernel, by decide +kernel⟩
theorem sc_within : zat ["one", "other", "outside", "root"] ["one", "other"] (zab zb3) := ⟨rfl, rfl, rfl, by decide +kernel, rfl, by decide +kernel, by decide +kernel⟩
theorem sc_compared : zat ["one", "other", "there", "back"] ["one", "other"] (zab zcv) := ⟨rfl, rfl, rfl, by decide +kernel, rfl, by decide +kernel, by decide +kernel⟩
theorem zit : zat ["one", "other"] ["one", "other"] (zab zbw) := ⟨rfl, rfl, rfl, by decide +kernel, rfl, by decide +kernel, by decide +kernel⟩
theorem zln : zat ["other", "yes", "no"] ["other", "yes", "no"] (zab zcg) := ⟨rfl, rfl, rfl, by decide +kernel, rfl, by decide +kernel, by decide +kernel⟩
theorem sc_stand_of : zat ["picks", "yes", "no", "k", "value"] ["picks"] (zab zcx) := ⟨rfl, rfl, rfl, by decide +kernel, rfl, by decide +kernel, by decide +kernel⟩
theorem sc_open_at : zat ["wood", "picks", "stand"] ["wood", "picks"] (zab zc4) := ⟨rfl, rfl, rfl, by decide +kernel, rfl, by decide +kernel, by decide +kernel⟩
theorem sc_first_ware_at : zat ["wood", "picks", "stand"] ["wood", "picks"] (zab zbl) := ⟨rfl, rfl, rfl, by decide +kernel, rfl, by decide +kernel, by decide +kernel⟩
theorem zml : zat ["wood", "picks", "pick"] ["wood", "picks", "pick"] (zab zcr) := ⟨rfl, rfl, rfl, by decide +kernel, rfl, by decide +kernel, by decide +kernel⟩
theorem sc_law_take : zat ["_law_state", "_law_most", "_law_script", "_law_at", "_law_number"] ["_law_state", "_law_most"] (zab zcc) := ⟨rfl, rfl, rfl, by decide +kernel, rfl, by decide +kernel, by decide +kernel⟩
theorem sc_law_boughs : zat ["_law_state", "_law_many_here", "_law_groups", "_law_k", "_law_up", "_law_old", "_law_boughs_here", "_law_kids", "_law_size", "_law_low", "_law_high"] ["_law_state", "_law_many_here"] (zab zbm) := ⟨rfl, rfl, rfl, by decide +kernel, rfl, by decide +kernel, by decide +kernel⟩
theorem sc_law_cross : zat ["_law_state", "_law_many_here", "_law_most", "_law_cross_here", "_law_turn", "_law_one", "_law_other", "_law_way", "_law_far", "_law_pairs", "_law_total", "_law_top"] ["_law_state", "_law_many_here", "_law_most"] (zab zbf) := ⟨rfl, rfl, rfl, by decide +kernel, rfl, by decide +kernel, by decide +kernel⟩
theorem zm1 : zat ["_law_state"] ["_law_state"] (zab zcw) := ⟨rfl, rfl, rfl, by decide +kernel, rfl, by decide +kernel, by decide +kernel⟩
theorem znd : zat ["_law_state", "_law_many_here", "_law_most"] ["_law_state", "_law_many_here", "_law_most"] (zab zcu) := ⟨rfl, rfl, rfl, by decide +kernel, rfl, by decide +kernel, by decide +kernel⟩
theorem sc_law_near : zat ["_law_state", "_law_wood_here", "_law_many_here", "_law_boughs_here", "_law_cross_here", "_law_way", "_law_at", "_law_up", "_law_low", "_law_high", "_law_kids"] ["_law_state", "_law_wood_here"] (zab zcd) := ⟨rfl, rfl, rfl, by decide +kernel, rfl, by decide +kernel, by decide +kernel⟩
theorem sc_law_chosen : zat ["_law_wood_here", "_law_ware", "_law_choice", "_law_k"] ["_law_wood_here", "_law_ware"] (zab zb7) := ⟨rfl, rfl, rfl, by decide +kernel, rfl, by decide +kernel, by decide +kernel⟩
theorem sc_law : zat ["_law_script", "_law_state", "_law_many_here", "_law_first", "_law_second", "_law_third", "_law_steps", "_law_more", "_law_word", "_law_some", "_law_ware"] ["_law_script"] (zab zeb) := ⟨rfl, rfl, rfl, by decide +kernel, rfl, by decide +kernel, by decide +kernel⟩
theorem zgp : zat ["self", "wood"] ["self", "wood"] (zab zbb) := ⟨rfl, rfl, rfl, by decide +kernel, rfl, by decide +kernel, by decide +kernel⟩
theorem zhg : zat ["self", "k", "value"] ["self", "k", "value"] (zab zbn) := ⟨rfl, rfl, rfl, by decide +kernel, rfl, by decide +kernel, by decide +kernel⟩
theorem zju : zat ["self"] ["self"] (zab zbz) := ⟨rfl, rfl, rfl, by decide +kernel, rfl, by decide +kernel, by decide +kernel⟩
end Ow
namespace Ow
open PySem L2 Wd
section
variable {P : Program} {w : World} {K : PySem.W.Frag} {mg : Str → Option Value} {base : Heap} {a : Adr} {d : Fds}
def zvn : Sp := fun vs H Q _ => ∃ n k : Int, vs = [.int n, .int k] ∧ Q (.bl (zlw n k)) H
theorem zdx (T : Txt K mg a d) : zbd P w K mg base CX0 1 a.f_has d.f_has ["some", "k"] zvn := by
 refine T.K_has.ok zt4 (fun vs H Q E h => ?_) (fun cdv A outer s H vs Q E hr h => ?_)
 ·obtain ⟨n, k, rfl, _⟩ := h
  rfl
 obtain ⟨n, k, rfl, q⟩ := h
 refine ⟨_, (zai (zam (zd2 (zce zur (pv 1) zad (zaq _)) (zc5 (zce zb4 (zaz zr2 (zaz zp7 (pv 0) (pv 1)) zad) zad (zaq _)))))), ?_⟩
 refine ⟨_, rfl, _, _, rfl, rfl, _, rfl, ?_⟩
 refine zcq (fun c => ?_) (fun c => ?_)
 ·have hk : (0 : Int) ≤ k := of_decide_eq_true c
  refine ⟨_, rfl, _, rfl, _, _, rfl, rfl, hk, _, _, rfl, rfl, rfl, ?_⟩
  have e : decide (V.int (Builtin.bitAnd (n / 2 ^ k.toNat) 1) = V.int 1) = zlw n k := by
   unfold zlw
   rw [decide_eq_true hk, Bool.true_and, zfw, zu7]
   by_cases z : n / 2 ^ k.toNat % 2 = 1
   ·rw [decide_eq_true z]
    simpa using z
   ·rw [decide_eq_false z]
    simpa using z
  show Q (.bl (decide (V.int (Builtin.bitAnd (n / 2 ^ k.toNat) 1) = V.int 1))) H
  rw [e]
  exact q
 ·have hk : ¬ (0 : Int) ≤ k := of_decide_eq_false (Bool.eq_false_iff.mpr c)
  have e : zlw n k = false := by
   unfold zlw
   rw [decide_eq_false hk, Bool.false_and]
  rw [e] at q
  exact q
end
section
variable {P : Program} {w : World} {K : PySem.W.Frag} {mg : Str → Option Value} {base : Heap} {a : Adr} {d : Fds}
theorem zcb (T : Txt K mg a d) : zbd P w K mg base CX0 1 a.f_with_option d.f_with_option ["some", "k"] zsm := by
 refine T.K_with_option.ok zjj (fun vs H Q E h => ?_) (fun cdv A outer s H vs Q E hr h => ?_)
 ·obtain ⟨n, k, rfl, _⟩ := h
  rfl
 obtain ⟨n, k, rfl, hk, q⟩ := h
 refine ⟨_, (zai (zam (zaz zti (pv 0) (zaz zuh zad (pv 1))))), ?_⟩
 refine ⟨_, rfl, _, rfl, _, _, rfl, rfl, ⟨by omega, by omega, by decide⟩, _, _, rfl, rfl, ?_⟩
 have e : Builtin.bitOr (n : Int) (1 * 2 ^ ((k : Nat) : Int).toNat) = ((n ||| 2 ^ k : Nat) : Int) := by rw [zvz, zop]
 show Q (.int (Builtin.bitOr (n : Int) (1 * 2 ^ ((k : Nat) : Int).toNat))) H
 rw [e]
 exact q
end
section
variable {P : Program} {w : World} {K : PySem.W.Frag} {mg : Str → Option Value} {base : Heap} {a : Adr} {d : Fds}
theorem zc6 (T : Txt K mg a d) : zbd P w K mg base CX0 2 a.f_open_options d.f_open_options ["many", "yes", "no"] zts := by
 have G_has := zdx (P := P) (w := w) (base := base) T
 refine T.K_open_options.ok zii (fun vs H Q E h => ?_) (fun cdv A outer s H vs Q E hr h => ?_)
 ·obtain ⟨m, y, n, rfl, _⟩ := h
  rfl
 obtain ⟨m, y, n, rfl, m9, q⟩ := h
 have p62 : (2 : Int) ^ 62 = 4611686018427387904 := by decide
 refine ⟨_, (zai (zam (ziu (sc0 := zab zbi) (XN := ["many", "yes", "no"]) (N' := ["k", "yes", "no"]) (n := 1) (kp := [1, 2]) rfl (zhi rfl T.m_range (zaa (pv 0) zac)) rfl rfl (by decide +kernel) (fun _ _ _ _ _ => (za3 (i := 0) (by show List.Nodup (["k", "yes", "no"] : List Str); decide +kernel) rfl (Or.inl rfl))) (fun _ _ _ _ _ => (zef (zhn (zc7 (zag G_has hr.lv rfl T.g_has T.K_has.kp T.B_has .nil zal (zaa (zaz zti (pv 1) (pv 2)) (zaa (pv 0) zac))))))) (fun _ _ _ _ _ => (pv 0))))), ?_⟩
 refine ⟨_, rfl, _, rfl, by rw [p62]; omega, by rw [p62]; omega, ?_⟩
 rw [Int.toNat_natCast]
 refine zkn (k := m) (fun i ys σ H2 => (∃ v, σ = [v, some (.int y), some (.int n)]) ∧ H2 = H ∧ i ≤ m ∧ ys = zb2 ((List.range i).filter fun k => !(y ||| n).testBit k)) ⟨⟨none, rfl⟩, rfl, Nat.zero_le _, rfl⟩ (fun i ys σ H2 hi pv => ?_) (fun i ys σ H2 hi pv => ?_) (fun ys σ H2 pv fl hfl => ?_)
 ·obtain ⟨_, _, h1, rfl⟩ := pv
  rw [List.length_map]
  refine small (Nat.le_trans (List.length_filter_le _ _) ?_)
  rw [List.length_range]
  omega
 ·obtain ⟨⟨v0, rfl⟩, rfl, h1, rfl⟩ := pv
  refine ⟨_, rfl, _, rfl, _, _, rfl, rfl, _, rfl, _, _, rfl, _, rfl, ?_⟩
  have ee := zg5 (fun k => !(y ||| n).testBit k) i
  rw [zop, za6]
  refine zcq (fun c2 => ?_) (fun c2 => ?_)
  ·refine ⟨_, rfl, ⟨_, rfl⟩, rfl, hi, ?_⟩
   rw [ee, if_pos c2]
   show _ = List.map _ (_ ++ [i])
   rw [List.map_append]
   rfl
  ·refine ⟨⟨_, rfl⟩, rfl, hi, ?_⟩
   rw [ee, if_neg c2, List.append_nil]
 obtain ⟨_, rfl, _, rfl⟩ := pv
 exact q fl _ (zaj hfl _) hfl zae
end
section
variable {P : Program} {w : World} {K : PySem.W.Frag} {mg : Str → Option Value} {base : Heap} {a : Adr} {d : Fds}
theorem zkw (T : Txt K mg a d) : zbd P w K mg base CX0 1 a.f_many_ties d.f_many_ties ["wood"] zug := by
 refine T.K_many_ties.ok zk8 (fun vs H Q E h => ?_) (fun cdv A outer s H vs Q E hr h => ?_)
 ·obtain ⟨wd, many, xs, ys, rfl, _⟩ := h
  rfl
 obtain ⟨wd, many, xs, ys, rfl, ⟨tb, tc, hw, hb, hc⟩, q⟩ := h
 refine ⟨_, (zai (zam (zaz zct (za1 (ze9 (K := K)) rfl T.m_len PySem.boot_len (zaa (zan (ixT (K := K)) (pv 0) zad (fun _ _ => rfl)) zac)) (za1 (ze9 (K := K)) rfl T.m_len PySem.boot_len (zaa (zan (ixT (K := K)) (pv 0) zad (fun _ _ => rfl)) zac))))), ?_⟩
 exact ⟨_, rfl, wd, _, _, _, rfl, rfl, sqT hw, at1, tb, _, rfl, .inr (sqT hb), _, rfl, wd, _, _, _, rfl, rfl, sqT hw, at2, tc, _, rfl, .inr (sqT hc), _, _, rfl, rfl, q⟩
end
section
variable {P : Program} {w : World} {K : PySem.W.Frag} {mg : Str → Option Value} {base : Heap} {a : Adr} {d : Fds}
theorem zhx (T : Txt K mg a d) : zbd P w K mg base CX0 1 a.f_tie_at d.f_tie_at ["wood", "t"] zsd := by
 refine T.K_tie_at.ok sc_tie_at (fun vs H Q E h => ?_) (fun cdv A outer s H vs Q E hr h => ?_)
 ·obtain ⟨wd, many, xs, ys, t, v, rfl, _⟩ := h
  rfl
 obtain ⟨wd, many, xs, ys, t, v, rfl, ⟨tb, tc, hw, hb, hc⟩, hv, q⟩ := h
 refine ⟨_, (zaf (zax (i := 2) sc_tie_at.nd rfl (Or.inl rfl) (zan (ixT (K := K)) (pv 0) zad (fun _ _ => rfl)))
   (zaf (za9 (zar zo3 (pv 1) (za1 (ze9 (K := K)) rfl T.m_len PySem.boot_len (zaa (pv 2) zac)) (zaq _)) (zai (zam (zan (ixT (K := K)) (pv 2) (pv 1) (fun _ _ => rfl)))) zau)
   (zai (zam (zan (ixT (K := K)) (zan (ixT (K := K)) (pv 0) zad (fun _ _ => rfl)) (zaz zfe (pv 1) (za1 (ze9 (K := K)) rfl T.m_len PySem.boot_len (zaa (pv 2) zac))) (fun _ _ => rfl)))))), ?_⟩
 refine ⟨_, rfl, wd, _, _, _, rfl, rfl, sqT hw, at1, ?_⟩
 refine ⟨_, rfl, _, rfl, tb, _, rfl, .inr (sqT hb), _, _, rfl, rfl, _, rfl, ?_⟩
 refine zcq (fun c => ?_) (fun c => ?_)
 ·have c' : (t : Int) < (xs.length : Nat) := of_decide_eq_true c
  rw [List.getElem?_append_left (by omega)] at hv
  exact ⟨_, rfl, _, rfl, tb, _, _, _, rfl, rfl, sqT hb, zd0 hv, q⟩
 ·have c' : ¬ (t : Int) < (xs.length : Nat) := of_decide_eq_false (Bool.eq_false_iff.mpr c)
  rw [List.getElem?_append_right (by omega)] at hv
  have e : ((t : Int) - ((xs.length : Nat) : Int)) = ((t - xs.length : Nat) : Int) := by omega
  refine ⟨_, rfl, wd, _, _, _, rfl, rfl, sqT hw, at2, _, rfl, _, rfl, tb, _, rfl, .inr (sqT hb), _, _, rfl, rfl, tc, _, _, _, rfl, rfl, sqT hc, ?_, q⟩
  show atI ys ((t : Int) - ((xs.length : Nat) : Int)) = some v
  rw [e]
  exact zd0 hv
end
section
variable {P : Program} {w : World} {K : PySem.W.Frag} {mg : Str → Option Value} {base : Heap} {a : Adr} {d : Fds}
def zsu : Sp := fun vs H Q _ => ∃ (p : Addr) (ks : List Nat) (n : Nat), vs = [.ref p, .int n] ∧ H p = some (.tup (ks.map fun k : Nat => V.int (k : Int))) ∧ ks.length ≤ 1000 ∧ ∀ H', Same H H' → Q (.int (cnt ks n : Nat)) H'
theorem zfn (T : Txt K mg a d) : zbd P w K mg base CX0 2 a.f_count_in d.f_count_in ["kids", "some"] zsu := by
 have G_has := zdx (P := P) (w := w) (base := base) T
 refine T.K_count_in.ok zmt (fun vs H Q E h => ?_) (fun cdv A outer s H vs Q E hr h => ?_)
 ·obtain ⟨p, ks, n, rfl, _⟩ := h
  rfl
 obtain ⟨p, ks, n, rfl, hp, hk, q⟩ := h
 refine ⟨_, (zai (zam (za1 (ze9 (K := K)) rfl T.m_len PySem.boot_len (zaa (ziu (sc0 := zab zcm) (XN := ["kids", "some"]) (N' := ["k", "some"]) (n := 1) (kp := [1]) rfl (piT (K := K) (pv 0)) rfl rfl (by decide +kernel) (fun _ _ _ _ _ => (za3 (i := 0) (by show List.Nodup (["k", "some"] : List Str); decide +kernel) rfl (Or.inl rfl))) (fun _ _ _ _ _ => (zef (zc7 (zag G_has hr.lv rfl T.g_has T.K_has.kp T.B_has .nil zal (zaa (pv 1) (zaa (pv 0) zac)))))) (fun _ _ _ _ _ => (pv 0))) zac)))), ?_⟩
 refine ⟨_, rfl, p, rfl, ⟨_, sqT hp⟩, ?_⟩
 refine zly (K := K) (a := p) (xs := ks.map fun k : Nat => V.int (k : Int)) (fun i ys σ H2 => (∃ v, σ = [v, some (.int n)]) ∧ H2 = H ∧ i ≤ ks.length ∧ ys = ((ks.take i).filter fun k => n.testBit k).map fun k : Nat => V.int (k : Int)) ⟨⟨none, rfl⟩, rfl, Nat.zero_le _, rfl⟩ (fun i ys σ H2 hi pv => ?_) (fun i ys σ H2 hi pv => ?_) (fun i x ys σ H2 hx pv => ?_) (fun ys σ H2 pv l hl => ?_)
 ·obtain ⟨_, _, h1, rfl⟩ := pv
  rw [List.length_map]
  refine small (Nat.le_trans (List.length_filter_le _ _) ?_)
  rw [List.length_take]
  omega
 ·rw [pv.2.1]
  exact sqT hp
 ·obtain ⟨⟨v, rfl⟩, rfl, h1, rfl⟩ := pv
  rw [List.getElem?_map] at hx
  obtain ⟨k, hk', rfl⟩ := Option.map_eq_some_iff.mp hx
  have hj : i < ks.length := (List.getElem?_eq_some_iff.mp hk').1
  have ee := PySem.take_succ_filter (fun k => n.testBit k) ks i k hk'
  refine ⟨_, rfl, _, rfl, _, _, rfl, _, rfl, ?_⟩
  rw [za6]
  refine zcq (fun c => ?_) (fun c => ?_)
  ·refine ⟨_, rfl, ⟨_, rfl⟩, rfl, hj, ?_⟩
   rw [ee, if_pos c, List.map_append]
   rfl
  ·refine ⟨⟨_, rfl⟩, rfl, hj, ?_⟩
   rw [ee, if_neg c, List.append_nil]
 ·obtain ⟨_, rfl, _, rfl⟩ := pv
  have fin : ∀ L : List V, L.length = cnt ks n → ∀ H', Same H2 H' → Q (.int (L.length : Nat)) H' := fun L e H' sm => by
   rw [e]
   exact q H' sm
  exact ⟨l, _, rfl, .inl (SqL.of zae), fin _ (by simp [cnt]) _ (zaj hl _)⟩
end
section
variable {P : Program} {w : World} {K : PySem.W.Frag} {mg : Str → Option Value} {base : Heap} {a : Adr} {d : Fds}
def zq9 : Sp := fun vs H Q _ => ∃ (u : Nat) (lo hi : Int) (ks : List Nat) (n : Nat) (v : V), vs = [v, .int n] ∧ Dn H (Tie.bough u lo hi ks).toD v ∧ ks.length ≤ 1000 ∧ ∀ H', Same H H' → Q (.bl ((Tie.bough u lo hi ks).keep n)) H'
theorem zio (T : Txt K mg a d) : zbd P w K mg base CX0 3 a.f_keeps_bough d.f_keeps_bough ["bough", "some"] zq9 := by
 have G_has := zdx (P := P) (w := w) (base := base) T
 have G_count_in := zfn (P := P) (w := w) (base := base) T
 refine T.K_keeps_bough.ok sc_keeps_bough (fun vs H Q E h => ?_) (fun cdv A outer s H vs Q E hr h => ?_)
 ·obtain ⟨u, lo, hi, ks, n, v, rfl, _⟩ := h
  rfl
 obtain ⟨u, lo, hi, ks, n, v, rfl, hd, hk, q⟩ := h
 obtain ⟨p, pk, rfl, hp, hpk⟩ := zd4 hd
 refine ⟨_, (zaf (zax (i := 2) sc_keeps_bough.nd rfl (Or.inl rfl) (zag G_count_in hr.lv rfl T.g_count_in T.K_count_in.kp T.B_count_in .nil zal (zaa (zan (ixT (K := K)) (pv 0) zad (fun _ _ => rfl)) (zaa (pv 1) zac))))
   (zaf (za9 (zc7 (zag G_has hr.lv rfl T.g_has T.K_has.kp T.B_has .nil zal (zaa (pv 1) (zaa (zan (ixT (K := K)) (pv 0) zad (fun _ _ => rfl)) zac)))) (zai (zam (zr3 zia zia (zan (ixT (K := K)) (pv 0) zad (fun _ _ => rfl)) (pv 2) (zan (ixT (K := K)) (pv 0) zad (fun _ _ => rfl))))) zau)
   (zai (zam (zce zb4 (pv 2) zad (zaq _)))))), ?_⟩
 refine ⟨_, rfl, p, _, _, _, rfl, rfl, sqT hp, at3, _, rfl, pk, ks, n, rfl, hpk, hk, fun H1 s1 => ?_⟩
 have hp1 := s1 _ _ hp
 have q1 := q H1 s1
 refine ⟨_, rfl, _, rfl, p, _, _, _, rfl, rfl, sqT hp1, at0, _, _, rfl, _, rfl, ?_⟩
 rw [za6]
 refine zcq (fun c => ?_) (fun c => ?_)
 ·rw [zs4 c] at q1
  refine ⟨_, rfl, p, _, _, _, rfl, rfl, sqT hp1, at1, _, rfl, _, _, rfl, rfl, _, rfl, ?_⟩
  refine zcq (fun c2 => ?_) (fun c2 => ?_)
  ·refine ⟨_, rfl, p, _, _, _, rfl, rfl, sqT hp1, at2, _, _, rfl, rfl, ?_⟩
   rw [c2, Bool.true_and] at q1
   exact q1
  ·rw [Bool.eq_false_iff.mpr c2, Bool.false_and] at q1
   exact q1
 ·rw [zsv c] at q1
  refine ⟨_, rfl, rfl, ?_⟩
  have e : decide (V.int (cnt ks n : Nat) = V.int 0) = decide (cnt ks n = 0) := by
   rw [zfw]
   by_cases z : cnt ks n = 0
   ·rw [z]; rfl
   ·rw [decide_eq_false z]
    simpa using z
  show Q (.bl (decide (V.int (cnt ks n : Nat) = V.int 0))) H1
  rw [e]
  exact q1
end
section
variable {P : Program} {w : World} {K : PySem.W.Frag} {mg : Str → Option Value} {base : Heap} {a : Adr} {d : Fds}
theorem zrr (T : Txt K mg a d) : zbd P w K mg base CX0 4 a.f_keeps d.f_keeps ["tie", "some"] zte := by
 have G_has := zdx (P := P) (w := w) (base := base) T
 have G_keeps_bough := zio (P := P) (w := w) (base := base) T
 refine T.K_keeps.ok zqd (fun vs H Q E h => ?_) (fun cdv A outer s H vs Q E hr h => ?_)
 ·obtain ⟨t, m, n, v, rfl, _⟩ := h
  rfl
 obtain ⟨t, m, n, v, rfl, hd, ok, hm, q⟩ := h
 have q0 := q H (Same.refl H)
 refine ⟨_, (zaf (za9 (zar zb4 (zan (ixT (K := K)) (pv 0) zad (fun _ _ => rfl)) za5 (zaq _)) (zai (zam (zj8 (zgr (zag G_has hr.lv rfl T.g_has T.K_has.kp T.B_has .nil zal (zaa (pv 1) (zaa (zan (ixT (K := K)) (pv 0) zad (fun _ _ => rfl)) zac)))) (zc5 (zag G_has hr.lv rfl T.g_has T.K_has.kp T.B_has .nil zal (zaa (pv 1) (zaa (zan (ixT (K := K)) (pv 0) zad (fun _ _ => rfl)) zac))))))) zau)
   (zaf (za9 (zar zb4 (zan (ixT (K := K)) (pv 0) zad (fun _ _ => rfl)) za5 (zaq _)) (zai (zam (zj8 (zgr (zag G_has hr.lv rfl T.g_has T.K_has.kp T.B_has .nil zal (zaa (pv 1) (zaa (zan (ixT (K := K)) (pv 0) zad (fun _ _ => rfl)) zac)))) (zc5 (zgr (zag G_has hr.lv rfl T.g_has T.K_has.kp T.B_has .nil zal (zaa (pv 1) (zaa (zan (ixT (K := K)) (pv 0) zad (fun _ _ => rfl)) zac)))))))) zau)
   (zaf (za9 (zar zb4 (zan (ixT (K := K)) (pv 0) zad (fun _ _ => rfl)) za5 (zaq _)) (zai (zam (zce zia (za1 (zdq rfl) rfl T.m_sum PyProof.Rows.boot_sum (zaa (ziu (sc0 := zab zdr) (XN := ["tie", "some"]) (N' := ["k", "number", "some"]) (n := 2) (kp := [1]) rfl (piT (K := K) (zan (ixT (K := K)) (pv 0) zad (fun _ _ => rfl))) rfl rfl (by decide +kernel) (fun _ _ _ _ _ => (pgT (K := K) (n := 2) rfl (zbe (za3 (i := 0) (by show List.Nodup (["k", "number", "some"] : List Str); decide +kernel) rfl (Or.inl rfl)) (zbe (za3 (i := 1) (by show List.Nodup (["k", "number", "some"] : List Str); decide +kernel) rfl (Or.inl rfl)) zdp)))) (fun _ _ _ _ _ => (zef (zc7 (zag G_has hr.lv rfl T.g_has T.K_has.kp T.B_has .nil zal (zaa (pv 2) (zaa (pv 0) zac)))))) (fun _ _ _ _ _ => (pv 1))) zac)) (zan (ixT (K := K)) (pv 0) zad (fun _ _ => rfl)) (zaq _)))) zau)
   (zai (zam (zag G_keeps_bough hr.lv rfl T.g_keeps_bough T.K_keeps_bough.kp T.B_keeps_bough .nil zal (zaa (pv 0) (zaa (pv 1) zac)))))))), ?_⟩
 cases t with
 | needs x y =>
  obtain ⟨p, rfl, hp⟩ := zfy hd
  refine ⟨_, rfl, p, _, _, _, rfl, rfl, sqT hp, at0, rfl, _, rfl, ?_⟩
  refine zd5 rfl ?_
  refine ⟨_, rfl, _, rfl, p, _, _, _, rfl, rfl, sqT hp, at1, _, _, rfl, _, rfl, _, rfl, ?_⟩
  rw [za6]
  have q1 : Q (.bl (!n.testBit x || n.testBit y)) H := q0
  refine zcq (fun c => ?_) (fun c => ?_)
  ·rw [c, Bool.true_or] at q1
   exact q1
  ·refine ⟨_, rfl, _, rfl, p, _, _, _, rfl, rfl, sqT hp, at2, _, _, rfl, ?_⟩
   rw [za6]
   rw [Bool.eq_false_iff.mpr c, Bool.false_or] at q1
   exact q1
 | bans x y =>
  obtain ⟨p, rfl, hp⟩ := zfy hd
  refine ⟨_, rfl, p, _, _, _, rfl, rfl, sqT hp, at0, rfl, _, rfl, ?_⟩
  refine zb5 zgh ?_
  refine ⟨_, rfl, p, _, _, _, rfl, rfl, sqT hp, at0, rfl, _, rfl, ?_⟩
  refine zd5 rfl ?_
  refine ⟨_, rfl, _, rfl, p, _, _, _, rfl, rfl, sqT hp, at1, _, _, rfl, _, rfl, _, rfl, ?_⟩
  rw [za6]
  have q1 : Q (.bl (!n.testBit x || !n.testBit y)) H := q0
  refine zcq (fun c => ?_) (fun c => ?_)
  ·rw [c, Bool.true_or] at q1
   exact q1
  ·refine ⟨_, rfl, _, rfl, p, _, _, _, rfl, rfl, sqT hp, at2, _, _, rfl, _, rfl, ?_⟩
   rw [za6]
   rw [Bool.eq_false_iff.mpr c, Bool.false_or] at q1
   exact q1
 | most top ps =>
  obtain ⟨p, pq, xs, rfl, hp, hq, hps⟩ := zll hd
  have lx : xs.length = ps.length := by rw [← hps.length, List.length_map]
  have few : ps.length ≤ m := ok.2.2.2
  refine ⟨_, rfl, p, _, _, _, rfl, rfl, sqT hp, at0, rfl, _, rfl, ?_⟩
  refine zb5 zgj ?_
  refine ⟨_, rfl, p, _, _, _, rfl, rfl, sqT hp, at0, rfl, _, rfl, ?_⟩
  refine zb5 zhv ?_
  refine ⟨_, rfl, p, _, _, _, rfl, rfl, sqT hp, at0, rfl, _, rfl, ?_⟩
  refine zd5 rfl ?_
  refine ⟨_, rfl, p, _, _, _, rfl, rfl, sqT hp, at2, pq, rfl, ⟨_, sqT hq⟩, ?_⟩
  refine zly (K := K) (a := pq) (xs := xs) (fun i ys σ H2 => (∃ v v', σ = [v, v', some (.int n)]) ∧ H2 = H ∧ i ≤ ps.length ∧ ys = (((ps.take i).filter fun p => n.testBit p.1).map (·.2)).map V.int) ⟨⟨none, none, rfl⟩, rfl, Nat.zero_le _, rfl⟩ (fun i ys σ H2 hi pv => ?_) (fun i ys σ H2 hi pv => ?_) (fun i x ys σ H2 hx pv => ?_) (fun ys σ H2 pv l hl => ?_)
  ·obtain ⟨_, _, h1, rfl⟩ := pv
   rw [List.length_map, List.length_map]
   refine small (Nat.le_trans (List.length_filter_le _ _) ?_)
   rw [List.length_take]
   omega
  ·rw [pv.2.1]
   exact sqT hq
  ·obtain ⟨⟨v, v', rfl⟩, rfl, h1, rfl⟩ := pv
   obtain ⟨pr, r, hpr, rfl, hr'⟩ := zl3 hps hx
   have hj : i < ps.length := (List.getElem?_eq_some_iff.mp hpr).1
   have ee := PySem.take_succ_filter (fun p : Nat × Int => n.testBit p.1) ps i pr hpr
   refine ⟨r, _, rfl, sqT hr', rfl, _, _, rfl, _, _, rfl, rfl, ?_⟩
   refine ⟨_, rfl, _, rfl, _, _, rfl, _, rfl, ?_⟩
   rw [za6]
   refine zcq (fun c => ?_) (fun c => ?_)
   ·refine ⟨_, rfl, ⟨_, _, rfl⟩, rfl, hj, ?_⟩
    rw [ee, if_pos c, List.map_append, List.map_append]
    rfl
   ·refine ⟨⟨_, _, rfl⟩, rfl, hj, ?_⟩
    rw [ee, if_neg c, List.append_nil]
  ·obtain ⟨_, rfl, _, rfl⟩ := pv
   have sm := zaj hl (.lst ((((ps.take xs.length).filter fun p => n.testBit p.1).map (·.2)).map V.int))
   refine ⟨l, _, rfl, SqL.of zae, _, rfl, p, _, _, _, rfl, rfl, sqT (sm _ _ hp), at1, _, _, rfl, rfl, ?_⟩
   have q1 := q _ sm
   have e : (Tie.most top ps).keep n = decide ((((ps.take xs.length).filter fun p => n.testBit p.1).map (·.2)).sum ≤ top) := by
    rw [lx, List.take_length]
    rfl
   rw [e] at q1
   exact q1
 | bough u lo hi ks =>
  obtain ⟨p, pk, e, hp, hpk⟩ := zd4 hd
  have ok' : Tie.BoughOk m u lo hi ks := ok
  have few := ok'.few
  subst e
  refine ⟨_, rfl, p, _, _, _, rfl, rfl, sqT hp, at0, rfl, _, rfl, ?_⟩
  refine zb5 int_str ?_
  refine ⟨_, rfl, p, _, _, _, rfl, rfl, sqT hp, at0, rfl, _, rfl, ?_⟩
  refine zb5 int_str ?_
  refine ⟨_, rfl, p, _, _, _, rfl, rfl, sqT hp, at0, rfl, _, rfl, ?_⟩
  refine zb5 int_str ?_
  exact ⟨_, rfl, _, rfl, u, lo, hi, ks, n, _, rfl, hd, by omega, q⟩
end
section
variable {P : Program} {w : World} {K : PySem.W.Frag} {mg : Str → Option Value} {base : Heap} {a : Adr} {d : Fds}
theorem zdd (T : Txt K mg a d) : zbd P w K mg base CX0 2 a.f_every_tie d.f_every_tie ["wood"] zsz := by
 have G_many_ties := zkw (P := P) (w := w) (base := base) T
 refine T.K_every_tie.ok zlc (fun vs H Q E h => ?_) (fun cdv A outer s H vs Q E hr h => ?_)
 ·obtain ⟨wd, m, ts, rfl, _⟩ := h
  rfl
 obtain ⟨wd, m, ts, rfl, W, q⟩ := h
 have p62 : (2 : Int) ^ 62 = 4611686018427387904 := by decide
 obtain ⟨xs, ys, WA, dn⟩ := W.ex
 have few := W.few
 have ln : ts.length = xs.length + ys.length := by
  have := dn.length
  rw [List.length_map, List.length_append] at this
  exact this
 refine ⟨_, (zai (zam (zcy (zjv rfl) rfl T.m_list PyProof.Rows.boot_list (zaa (zcy zpr rfl T.m_range PyProof.Rows.boot_range (zaa (zag G_many_ties hr.lv rfl T.g_many_ties T.K_many_ties.kp T.B_many_ties .nil zal (zaa (pv 0) zac)) zac)) zac)))), ?_⟩
 refine ⟨_, rfl, wd, m, xs, ys, rfl, WA, _, rfl, fun rp hrp => ?_⟩
 refine ⟨rp, 0, _, rfl, zae, by rw [p62]; omega, by rw [p62]; omega, by rw [p62]; omega, by rw [p62]; omega, by omega, fun l hl => ?_⟩
 have e : ((List.range' 0 ((xs.length : Int) + (ys.length : Int) - 0).toNat).map fun i : Nat => V.int (0 + (i : Int))) = (List.range ts.length).map fun i : Nat => V.int (i : Int) := by
  have e1 : ((xs.length : Int) + (ys.length : Int) - 0).toNat = ts.length := by omega
  rw [e1, List.range_eq_range']
  simp
 rw [e]
 have s1 := (zaj hrp (.rng 0 ((xs.length : Int) + (ys.length : Int)))).trans (zaj hl (.lst ((List.range ts.length).map fun i : Nat => V.int (i : Int))))
 exact q l _ s1 ((zaj hrp (.rng 0 ((xs.length : Int) + (ys.length : Int)))).free hl) zae
end
section
variable {P : Program} {w : World} {K : PySem.W.Frag} {mg : Str → Option Value} {base : Heap} {a : Adr} {d : Fds}
theorem zig (T : Txt K mg a d) : zbd P w K mg base CX0 5 a.f_first_broken d.f_first_broken ["wood", "some"] zrd := by
 have G_every_tie := zdd (P := P) (w := w) (base := base) T
 have G_tie_at := zhx (P := P) (w := w) (base := base) T
 have G_keeps := zrr (P := P) (w := w) (base := base) T
 refine T.K_first_broken.ok sc_first_broken (fun vs H Q E h => ?_) (fun cdv A outer s H vs Q E hr h => ?_)
 ·obtain ⟨wd, m, ts, n, rfl, _⟩ := h
  rfl
 obtain ⟨wd, m, ts, n, rfl, W, q⟩ := h
 have m9 := W.m9
 refine ⟨_, (zaf (zgs PassesOwn.never rfl (piL (K := K) (zag G_every_tie hr.lv rfl T.g_every_tie T.K_every_tie.kp T.B_every_tie .nil zal (zaa (pv 0) zac))) (za3 (i := 2) sc_first_broken.nd rfl (Or.inl rfl)) (zai (za9 (zhn (zc7 (zag G_keeps hr.lv rfl T.g_keeps T.K_keeps.kp T.B_keeps .nil zal (zaa (zag G_tie_at hr.lv rfl T.g_tie_at T.K_tie_at.kp T.B_tie_at .nil zal (zaa (pv 0) (zaa (pv 2) zac))) (zaa (pv 1) zac))))) (zai (zam (pv 2))) zau)))
   (zai (zam zdc))), ?_⟩
 refine ⟨_, rfl, wd, m, ts, rfl, W, fun l H1 s1 n1 e1 => ?_⟩
 refine ⟨l, rfl, ⟨_, SqL.of e1⟩, ?_⟩
 refine zgx (K := K) (a := l) (xs := (List.range ts.length).map fun i : Nat => V.int (i : Int)) (fun i σ H2 => (∃ v, σ = [some (.ref wd), some (.int n), v]) ∧ Same H1 H2 ∧ ∀ j x, j < i → ts[j]? = some x → x.keep n = true) ⟨⟨_, rfl⟩, Same.refl _, fun j x hj => absurd hj (Nat.not_lt_zero j)⟩ (fun i σ H2 _ z => SqL.of (z.2.1 _ _ e1)) ?_ ?_
 ·rintro i x σ H2 hx ⟨⟨v, rfl⟩, s2, hb⟩
  obtain ⟨hi, rfl⟩ := zpq hx
  have W2 := W.same (s1.trans s2)
  obtain ⟨xs, ys, WA, dn⟩ := W2.ex
  have ht : ts[i]? = some ts[i] := List.getElem?_eq_getElem hi
  obtain ⟨v2, hv2, hd⟩ := DnL.get' dn (i := i) (d := ts[i].toD) (by rw [List.getElem?_map, ht]; rfl)
  refine ⟨_, rfl, _, rfl, wd, m, xs, ys, i, v2, rfl, WA, hv2, ?_⟩
  refine ⟨_, rfl, ts[i], m, n, v2, rfl, hd, W.ok _ (List.getElem_mem hi), by omega, fun H3 s3 => ?_⟩
  refine ⟨_, rfl, ?_⟩
  refine zcq (fun c => ?_) (fun c => ?_)
  ·have c' : (ts[i]).keep n = false := by simpa using c
   have q1 := q H3 ((s1.trans s2).trans s3)
   rw [zms ht c' hb] at q1
   exact ⟨_, rfl, q1⟩
  ·have c' : (ts[i]).keep n = true := by simpa using c
   refine ⟨⟨_, rfl⟩, s2.trans s3, fun j x hj hx2 => ?_⟩
   by_cases e : j = i
   ·subst e
    rw [ht] at hx2
    cases hx2
    exact c'
   ·exact hb j x (by omega) hx2
 ·rintro σ H2 ⟨⟨v, rfl⟩, s2, hb⟩
  have q1 := q H2 (s1.trans s2)
  rw [List.length_map, List.length_range] at hb
  rw [zma hb] at q1
  exact q1
end
section
variable {P : Program} {w : World} {K : PySem.W.Frag} {mg : Str → Option Value} {base : Heap} {a : Adr} {d : Fds}
theorem zn7 (T : Txt K mg a d) : zbd P w K mg base CX0 6 a.f_is_ware d.f_is_ware ["wood", "some"] zsx := by
 have G_has := zdx (P := P) (w := w) (base := base) T
 have G_first_broken := zig (P := P) (w := w) (base := base) T
 refine T.K_is_ware.ok zof (fun vs H Q E h => ?_) (fun cdv A outer s H vs Q E hr h => ?_)
 ·obtain ⟨wd, m, ts, n, rfl, _⟩ := h
  rfl
 obtain ⟨wd, m, ts, n, rfl, W, q⟩ := h
 refine ⟨_, (zai (zam (zd2 (zag G_has hr.lv rfl T.g_has T.K_has.kp T.B_has .nil zal (zaa (pv 1) (zaa zad zac))) (zc5 (zce zol (zag G_first_broken hr.lv rfl T.g_first_broken T.K_first_broken.kp T.B_first_broken .nil zal (zaa (pv 0) (zaa (pv 1) zac))) zdc (zaq _)))))), ?_⟩
 refine ⟨_, rfl, _, _, rfl, _, rfl, ?_⟩
 have e0 : zlw (n : Int) 0 = n.testBit 0 := za6 n 0
 rw [e0]
 refine zcq (fun c => ?_) (fun c => ?_)
 ·refine ⟨_, rfl, _, rfl, wd, m, ts, n, rfl, W, fun H1 s1 => ?_⟩
  have q1 := q H1 s1
  rw [zh5, c, Bool.true_and, ← zrl] at q1
  exact ⟨rfl, q1⟩
 ·have q1 := q H (Same.refl H)
  rw [zh5, Bool.eq_false_iff.mpr c, Bool.false_and] at q1
  exact q1
end
section
variable {P : Program} {w : World} {K : PySem.W.Frag} {mg : Str → Option Value} {base : Heap} {a : Adr} {d : Fds}
theorem zfa (T : Txt K mg a d) : zbd P w K mg base CX0 3 a.f_sure_broken_bough d.f_sure_broken_bough ["bough", "yes", "no"] (zor Tie.sb) := by
 have G_has := zdx (P := P) (w := w) (base := base) T
 have G_count_in := zfn (P := P) (w := w) (base := base) T
 refine T.K_sure_broken_bough.ok sc_sure_broken_bough (fun vs H Q E h => ?_) (fun cdv A outer s H vs Q E hr h => ?_)
 ·obtain ⟨u, lo, hi, ks, m, y, n, v, rfl, _⟩ := h
  rfl
 obtain ⟨u, lo, hi, ks, m, y, n, v, rfl, hd, ok, hm, q⟩ := h
 obtain ⟨p, pk, rfl, hp, hpk⟩ := zd4 hd
 have few := ok.few
 have rest4 : ∃ t, PSs (zdh CX0 P w K mg base ["bough", "yes", "no", "least", "greatest", "some_with_up", "some_without_up"] "sure_broken_bough" (zab zas) a.f_sure_broken_bough cdv A outer s H E).nox ((zah zas).drop 4) t ∧ ∀ (v3 v4 : Option V) (b5 b6 : Bool) (H1 : Hp), Same H H1 → (!b5 && !b6) = (Tie.bough u lo hi ks).sb y n → t { nx := fun _ H' => Q .non H', rt := Q } [some (.ref p), some (.int y), some (.int n), v3, v4, some (.bl b5), some (.bl b6)] H1 := by
  refine ⟨_, (zai (zam (zd2 (zgr (pv 5)) (zc5 (zgr (pv 6)))))), ?_⟩
  intro v3 v4 b5 b6 H1 s1 e
  have q1 := q H1 s1
  rw [← e] at q1
  refine ⟨_, rfl, _, rfl, _, rfl, ?_⟩
  refine zcq (fun c => ?_) (fun c => ?_)
  ·rw [c, Bool.true_and] at q1
   exact ⟨_, rfl, _, rfl, q1⟩
  ·rw [Bool.eq_false_iff.mpr c, Bool.false_and] at q1
   exact q1
 obtain ⟨t4, h4, r4⟩ := rest4
 have rest3 : ∃ t, PSs (zdh CX0 P w K mg base ["bough", "yes", "no", "least", "greatest", "some_with_up", "some_without_up"] "sure_broken_bough" (zab zas) a.f_sure_broken_bough cdv A outer s H E).nox ((zah zas).drop 3) t ∧ ∀ (g : Int) (b5 : Bool) (H1 : Hp), Same H H1 → g = (ks.length : Int) - cnt ks n → b5 = (!n.testBit u && (decide ((cnt ks y : Int) ≤ hi) && decide (lo ≤ g))) → t { nx := fun _ H' => Q .non H', rt := Q } [some (.ref p), some (.int y), some (.int n), some (.int (cnt ks y : Nat)), some (.int g), some (.bl b5), none] H1 := by
  refine ⟨_, (zaf (zax (i := 6) sc_sure_broken_bough.nd rfl (Or.inl rfl) (zd2 (zgr (zag G_has hr.lv rfl T.g_has T.K_has.kp T.B_has .nil zal (zaa (pv 1) (zaa (zan (ixT (K := K)) (pv 0) zad (fun _ _ => rfl)) zac)))) (zc5 (zce zb4 (pv 3) zad (zaq _)))))
   h4), ?_⟩
  intro g b5 H1 s1 eg e5
  have hp1 := s1 _ _ hp
  refine ⟨_, rfl, _, rfl, p, _, _, _, rfl, rfl, sqT hp1, at0, _, _, rfl, _, rfl, _, rfl, ?_⟩
  rw [za6]
  refine zcq (fun c => ?_) (fun c => ?_)
  ·refine ⟨_, rfl, rfl, ?_⟩
   refine r4 _ _ _ _ _ s1 ?_
   rw [e5, eg, zjk]
   show _ = (!_ && !(!y.testBit u && decide (cnt ks y = 0)))
   rw [c, Bool.true_and]
  ·refine r4 _ _ _ _ _ s1 ?_
   rw [e5, eg]
   show _ = (!_ && !(!y.testBit u && decide (cnt ks y = 0)))
   rw [Bool.eq_false_iff.mpr c, Bool.false_and]
 obtain ⟨t3, h3, r3⟩ := rest3
 have rest2 : ∃ t, PSs (zdh CX0 P w K mg base ["bough", "yes", "no", "least", "greatest", "some_with_up", "some_without_up"] "sure_broken_bough" (zab zas) a.f_sure_broken_bough cdv A outer s H E).nox ((zah zas).drop 2) t ∧ ∀ (g : Int) (H1 : Hp), Same H H1 → g = (ks.length : Int) - cnt ks n → t { nx := fun _ H' => Q .non H', rt := Q } [some (.ref p), some (.int y), some (.int n), some (.int (cnt ks y : Nat)), some (.int g), none, none] H1 := by
  refine ⟨_, (zaf (zax (i := 5) sc_sure_broken_bough.nd rfl (Or.inl rfl) (zd2 (zgr (zag G_has hr.lv rfl T.g_has T.K_has.kp T.B_has .nil zal (zaa (pv 2) (zaa (zan (ixT (K := K)) (pv 0) zad (fun _ _ => rfl)) zac)))) (zd2 (zce zia (pv 3) (zan (ixT (K := K)) (pv 0) zad (fun _ _ => rfl)) (zaq _)) (zc5 (zce zia (zan (ixT (K := K)) (pv 0) zad (fun _ _ => rfl)) (pv 4) (zaq _))))))
   h3), ?_⟩
  intro g H1 s1 eg
  have hp1 := s1 _ _ hp
  refine ⟨_, rfl, _, rfl, p, _, _, _, rfl, rfl, sqT hp1, at0, _, _, rfl, _, rfl, _, rfl, ?_⟩
  rw [za6]
  refine zcq (fun c => ?_) (fun c => ?_)
  ·refine ⟨_, rfl, _, rfl, p, _, _, _, rfl, rfl, sqT hp1, at2, _, _, rfl, rfl, _, rfl, ?_⟩
   refine zcq (fun c2 => ?_) (fun c2 => ?_)
   ·refine ⟨_, rfl, p, _, _, _, rfl, rfl, sqT hp1, at1, _, rfl, _, _, rfl, rfl, ?_⟩
    exact r3 _ _ _ s1 eg (by rw [c, Bool.true_and, c2, Bool.true_and])
   ·exact r3 _ _ _ s1 eg (by rw [c, Bool.true_and, Bool.eq_false_iff.mpr c2, Bool.false_and])
  ·exact r3 _ _ _ s1 eg (by rw [Bool.eq_false_iff.mpr c, Bool.false_and])
 obtain ⟨t2, h2, r2⟩ := rest2
 refine ⟨_, (zaf (zax (i := 3) sc_sure_broken_bough.nd rfl (Or.inl rfl) (zag G_count_in hr.lv rfl T.g_count_in T.K_count_in.kp T.B_count_in .nil zal (zaa (zan (ixT (K := K)) (pv 0) zad (fun _ _ => rfl)) (zaa (pv 1) zac))))
   (zaf (zax (i := 4) sc_sure_broken_bough.nd rfl (Or.inl rfl) (zaz zfe (za1 (ze9 (K := K)) rfl T.m_len PySem.boot_len (zaa (zan (ixT (K := K)) (pv 0) zad (fun _ _ => rfl)) zac)) (zag G_count_in hr.lv rfl T.g_count_in T.K_count_in.kp T.B_count_in .nil zal (zaa (zan (ixT (K := K)) (pv 0) zad (fun _ _ => rfl)) (zaa (pv 2) zac)))))
   h2)), ?_⟩
 refine ⟨_, rfl, p, _, _, _, rfl, rfl, sqT hp, at3, _, rfl, pk, ks, y, rfl, hpk, by omega, fun H1 s1 => ?_⟩
 have hp1 := s1 _ _ hp
 have hpk1 := s1 _ _ hpk
 refine ⟨_, rfl, p, _, _, _, rfl, rfl, sqT hp1, at3, pk, _, rfl, .inr (sqT hpk1), ?_⟩
 refine ⟨_, rfl, p, _, _, _, rfl, rfl, sqT hp1, at3, _, rfl, pk, ks, n, rfl, hpk1, by omega, fun H2 s2 => ?_⟩
 refine ⟨_, _, rfl, rfl, ?_⟩
 exact r2 _ _ (s1.trans s2) (by rw [List.length_map])
end
section
variable {P : Program} {w : World} {K : PySem.W.Frag} {mg : Str → Option Value} {base : Heap} {a : Adr} {d : Fds}
theorem zlj (T : Txt K mg a d) : zbd P w K mg base CX0 2 a.f_least_sum d.f_least_sum ["pairs", "yes", "no"] (ztn zet) := by
 have G_has := zdx (P := P) (w := w) (base := base) T
 refine T.K_least_sum.ok zky (fun vs H Q E h => ?_) (fun cdv A outer s H vs Q E hr h => ?_)
 ·obtain ⟨pq, xs, ps, y, n, rfl, _⟩ := h
  rfl
 obtain ⟨pq, xs, ps, y, n, rfl, hq, hps, few, q⟩ := h
 have lx : xs.length = ps.length := by rw [← hps.length, List.length_map]
 refine ⟨_, (zai (zam (za1 (zdq rfl) rfl T.m_sum PyProof.Rows.boot_sum (zaa (ziu (sc0 := zab zb8) (XN := ["pairs", "yes", "no"]) (N' := ["k", "number", "yes", "no"]) (n := 2) (kp := [1, 2]) rfl (piT (K := K) (pv 0)) rfl rfl (by decide +kernel) (fun _ _ _ _ _ => (pgT (K := K) (n := 2) rfl (zbe (za3 (i := 0) (by show List.Nodup (["k", "number", "yes", "no"] : List Str); decide +kernel) rfl (Or.inl rfl)) (zbe (za3 (i := 1) (by show List.Nodup (["k", "number", "yes", "no"] : List Str); decide +kernel) rfl (Or.inl rfl)) zdp)))) (fun _ _ _ _ _ => (zef (PW.pt (zj7 (zc7 (zag G_has hr.lv rfl T.g_has T.K_has.kp T.B_has .nil zal (zaa (pv 2) (zaa (pv 0) zac)))) (zhw (PW.pt (zhu (zar zo3 (pv 1) zad (zaq _)) (zf3 (zhn (zc7 (zag G_has hr.lv rfl T.g_has T.K_has.kp T.B_has .nil zal (zaa (pv 3) (zaa (pv 0) zac))))))))))))) (fun _ _ _ _ _ => (pv 1))) zac)))), ?_⟩
 refine ⟨_, rfl, pq, rfl, ⟨_, sqT hq⟩, ?_⟩
 refine zly (K := K) (a := pq) (xs := xs) (fun i ys σ H2 => (∃ v v', σ = [v, v', some (.int y), some (.int n)]) ∧ H2 = H ∧ i ≤ ps.length ∧ ys = (((ps.take i).filter fun p => y.testBit p.1 || (decide (p.2 < 0) && !n.testBit p.1)).map (·.2)).map V.int) ⟨⟨none, none, rfl⟩, rfl, Nat.zero_le _, rfl⟩ (fun i ys σ H2 hi pv => ?_) (fun i ys σ H2 hi pv => ?_) (fun i x ys σ H2 hx pv => ?_) (fun ys σ H2 pv l hl => ?_)
 ·obtain ⟨_, _, h1, rfl⟩ := pv
  rw [List.length_map, List.length_map]
  refine small (Nat.le_trans (List.length_filter_le _ _) ?_)
  rw [List.length_take]
  omega
 ·rw [pv.2.1]
  exact sqT hq
 ·obtain ⟨⟨v, v', rfl⟩, rfl, h1, rfl⟩ := pv
  obtain ⟨pr, r, hpr, rfl, hr'⟩ := zl3 hps hx
  have hj : i < ps.length := (List.getElem?_eq_some_iff.mp hpr).1
  have ee := PySem.take_succ_filter (fun p : Nat × Int => y.testBit p.1 || (decide (p.2 < 0) && !n.testBit p.1)) ps i pr hpr
  have yes : (y.testBit pr.1 || (decide (pr.2 < 0) && !n.testBit pr.1)) = true → ((((ps.take i).filter fun p => y.testBit p.1 || (decide (p.2 < 0) && !n.testBit p.1)).map (·.2)).map V.int) ++ [V.int pr.2] = (((ps.take (i + 1)).filter fun p => y.testBit p.1 || (decide (p.2 < 0) && !n.testBit p.1)).map (·.2)).map V.int := fun c => by
   rw [ee, if_pos c, List.map_append, List.map_append]
   rfl
  have noo : (y.testBit pr.1 || (decide (pr.2 < 0) && !n.testBit pr.1)) = false → ((((ps.take i).filter fun p => y.testBit p.1 || (decide (p.2 < 0) && !n.testBit p.1)).map (·.2)).map V.int) = (((ps.take (i + 1)).filter fun p => y.testBit p.1 || (decide (p.2 < 0) && !n.testBit p.1)).map (·.2)).map V.int := fun c => by
   rw [ee, if_neg (by rw [c]; exact Bool.false_ne_true), List.append_nil]
  refine ⟨r, _, rfl, sqT hr', rfl, _, _, rfl, _, _, rfl, rfl, ?_⟩
  refine ⟨_, rfl, _, rfl, _, _, rfl, _, rfl, ?_⟩
  rw [za6]
  refine zcq (fun c => ?_) (fun c => ?_)
  ·refine zok ?_
   exact ⟨_, rfl, ⟨_, _, rfl⟩, rfl, hj, yes (by rw [c, Bool.true_or])⟩
  ·have c' := Bool.eq_false_iff.mpr c
   refine ⟨_, rfl, _, _, rfl, rfl, _, rfl, ?_⟩
   refine zcq (fun c2 => ?_) (fun c2 => ?_)
   ·refine ⟨_, rfl, _, rfl, _, _, rfl, _, rfl, ?_⟩
    rw [za6]
    refine zcq (fun c3 => ?_) (fun c3 => ?_)
    ·exact ⟨_, rfl, ⟨_, _, rfl⟩, rfl, hj, yes (by rw [c', Bool.false_or, c2, Bool.true_and, c3])⟩
    ·exact ⟨⟨_, _, rfl⟩, rfl, hj, noo (by rw [c', Bool.false_or, c2, Bool.true_and, Bool.eq_false_iff.mpr c3])⟩
   ·refine zhk ?_
    exact ⟨⟨_, _, rfl⟩, rfl, hj, noo (by rw [c', Bool.false_or, Bool.eq_false_iff.mpr c2, Bool.false_and])⟩
 ·obtain ⟨_, rfl, _, rfl⟩ := pv
  refine ⟨l, _, rfl, SqL.of zae, ?_⟩
  have q1 := q _ (zaj hl (.lst ((((ps.take xs.length).filter fun p => y.testBit p.1 || (decide (p.2 < 0) && !n.testBit p.1)).map (·.2)).map V.int)))
  have e : zet ps y n = (((ps.take xs.length).filter fun p => y.testBit p.1 || (decide (p.2 < 0) && !n.testBit p.1)).map (·.2)).sum := by
   rw [lx, List.take_length]
   rfl
  rw [e] at q1
  exact q1
end
section
variable {P : Program} {w : World} {K : PySem.W.Frag} {mg : Str → Option Value} {base : Heap} {a : Adr} {d : Fds}
theorem zjt (T : Txt K mg a d) : zbd P w K mg base CX0 4 a.f_sure_broken d.f_sure_broken ["tie", "yes", "no"] (zq3 Tie.sb) := by
 have G_has := zdx (P := P) (w := w) (base := base) T
 have G_least_sum := zlj (P := P) (w := w) (base := base) T
 have G_sure_broken_bough := zfa (P := P) (w := w) (base := base) T
 refine T.K_sure_broken.ok zjm (fun vs H Q E h => ?_) (fun cdv A outer s H vs Q E hr h => ?_)
 ·obtain ⟨t, m, y, n, v, rfl, _⟩ := h
  rfl
 obtain ⟨t, m, y, n, v, rfl, hd, ok, hm, q⟩ := h
 have q0 := q H (Same.refl H)
 refine ⟨_, (zaf (za9 (zar zb4 (zan (ixT (K := K)) (pv 0) zad (fun _ _ => rfl)) za5 (zaq _)) (zai (zam (zd2 (zag G_has hr.lv rfl T.g_has T.K_has.kp T.B_has .nil zal (zaa (pv 1) (zaa (zan (ixT (K := K)) (pv 0) zad (fun _ _ => rfl)) zac))) (zc5 (zag G_has hr.lv rfl T.g_has T.K_has.kp T.B_has .nil zal (zaa (pv 2) (zaa (zan (ixT (K := K)) (pv 0) zad (fun _ _ => rfl)) zac))))))) zau)
   (zaf (za9 (zar zb4 (zan (ixT (K := K)) (pv 0) zad (fun _ _ => rfl)) za5 (zaq _)) (zai (zam (zd2 (zag G_has hr.lv rfl T.g_has T.K_has.kp T.B_has .nil zal (zaa (pv 1) (zaa (zan (ixT (K := K)) (pv 0) zad (fun _ _ => rfl)) zac))) (zc5 (zag G_has hr.lv rfl T.g_has T.K_has.kp T.B_has .nil zal (zaa (pv 1) (zaa (zan (ixT (K := K)) (pv 0) zad (fun _ _ => rfl)) zac))))))) zau)
   (zaf (za9 (zar zb4 (zan (ixT (K := K)) (pv 0) zad (fun _ _ => rfl)) za5 (zaq _)) (zai (zam (zce zh2 (zag G_least_sum hr.lv rfl T.g_least_sum T.K_least_sum.kp T.B_least_sum .nil zal (zaa (zan (ixT (K := K)) (pv 0) zad (fun _ _ => rfl)) (zaa (pv 1) (zaa (pv 2) zac)))) (zan (ixT (K := K)) (pv 0) zad (fun _ _ => rfl)) (zaq _)))) zau)
   (zai (zam (zag G_sure_broken_bough hr.lv rfl T.g_sure_broken_bough T.K_sure_broken_bough.kp T.B_sure_broken_bough .nil zal (zaa (pv 0) (zaa (pv 1) (zaa (pv 2) zac))))))))), ?_⟩
 cases t with
 | needs x z =>
  obtain ⟨p, rfl, hp⟩ := zfy hd
  refine ⟨_, rfl, p, _, _, _, rfl, rfl, sqT hp, at0, rfl, _, rfl, ?_⟩
  refine zd5 rfl ?_
  refine ⟨_, rfl, _, rfl, p, _, _, _, rfl, rfl, sqT hp, at1, _, _, rfl, _, rfl, ?_⟩
  rw [za6]
  have q1 : Q (.bl (y.testBit x && n.testBit z)) H := q0
  refine zcq (fun c => ?_) (fun c => ?_)
  ·rw [c, Bool.true_and] at q1
   refine ⟨_, rfl, _, rfl, p, _, _, _, rfl, rfl, sqT hp, at2, _, _, rfl, ?_⟩
   rw [za6]
   exact q1
  ·rw [Bool.eq_false_iff.mpr c, Bool.false_and] at q1
   exact q1
 | bans x z =>
  obtain ⟨p, rfl, hp⟩ := zfy hd
  refine ⟨_, rfl, p, _, _, _, rfl, rfl, sqT hp, at0, rfl, _, rfl, ?_⟩
  refine zb5 zgh ?_
  refine ⟨_, rfl, p, _, _, _, rfl, rfl, sqT hp, at0, rfl, _, rfl, ?_⟩
  refine zd5 rfl ?_
  refine ⟨_, rfl, _, rfl, p, _, _, _, rfl, rfl, sqT hp, at1, _, _, rfl, _, rfl, ?_⟩
  rw [za6]
  have q1 : Q (.bl (y.testBit x && y.testBit z)) H := q0
  refine zcq (fun c => ?_) (fun c => ?_)
  ·rw [c, Bool.true_and] at q1
   refine ⟨_, rfl, _, rfl, p, _, _, _, rfl, rfl, sqT hp, at2, _, _, rfl, ?_⟩
   rw [za6]
   exact q1
  ·rw [Bool.eq_false_iff.mpr c, Bool.false_and] at q1
   exact q1
 | most top ps =>
  obtain ⟨p, pq, xs, rfl, hp, hq, hps⟩ := zll hd
  have few : ps.length ≤ m := ok.2.2.2
  refine ⟨_, rfl, p, _, _, _, rfl, rfl, sqT hp, at0, rfl, _, rfl, ?_⟩
  refine zb5 zgj ?_
  refine ⟨_, rfl, p, _, _, _, rfl, rfl, sqT hp, at0, rfl, _, rfl, ?_⟩
  refine zb5 zhv ?_
  refine ⟨_, rfl, p, _, _, _, rfl, rfl, sqT hp, at0, rfl, _, rfl, ?_⟩
  refine zd5 rfl ?_
  refine ⟨_, rfl, p, _, _, _, rfl, rfl, sqT hp, at2, _, rfl, _, rfl, pq, xs, ps, y, n, rfl, hq, hps, by omega, fun H1 s1 => ?_⟩
  exact ⟨_, rfl, p, _, _, _, rfl, rfl, sqT (s1 _ _ hp), at1, _, _, rfl, rfl, q H1 s1⟩
 | bough u lo hi ks =>
  obtain ⟨p, pk, e, hp, hpk⟩ := zd4 hd
  subst e
  refine ⟨_, rfl, p, _, _, _, rfl, rfl, sqT hp, at0, rfl, _, rfl, ?_⟩
  refine zb5 int_str ?_
  refine ⟨_, rfl, p, _, _, _, rfl, rfl, sqT hp, at0, rfl, _, rfl, ?_⟩
  refine zb5 int_str ?_
  refine ⟨_, rfl, p, _, _, _, rfl, rfl, sqT hp, at0, rfl, _, rfl, ?_⟩
  refine zb5 int_str ?_
  exact ⟨_, rfl, _, rfl, _, rfl, u, lo, hi, ks, m, y, n, _, rfl, hd, ok, hm, q⟩
end
section
variable {P : Program} {w : World} {K : PySem.W.Frag} {mg : Str → Option Value} {base : Heap} {a : Adr} {d : Fds}
theorem zgi (T : Txt K mg a d) : zbd P w K mg base CX0 3 a.f_sure_kept_bough d.f_sure_kept_bough ["bough", "yes", "no"] (zor Tie.sk) := by
 have G_has := zdx (P := P) (w := w) (base := base) T
 have G_count_in := zfn (P := P) (w := w) (base := base) T
 refine T.K_sure_kept_bough.ok sc_sure_kept_bough (fun vs H Q E h => ?_) (fun cdv A outer s H vs Q E hr h => ?_)
 ·obtain ⟨u, lo, hi, ks, m, y, n, v, rfl, _⟩ := h
  rfl
 obtain ⟨u, lo, hi, ks, m, y, n, v, rfl, hd, ok, hm, q⟩ := h
 obtain ⟨p, pk, rfl, hp, hpk⟩ := zd4 hd
 have few := ok.few
 have rest4 : ∃ t, PSs (zdh CX0 P w K mg base ["bough", "yes", "no", "least", "greatest", "all_with_up", "all_without_up"] "sure_kept_bough" (zab zaw) a.f_sure_kept_bough cdv A outer s H E).nox ((zah zaw).drop 4) t ∧ ∀ (v3 v4 : Option V) (b5 b6 : Bool) (H1 : Hp), Same H H1 → (b5 && b6) = (Tie.bough u lo hi ks).sk y n → t { nx := fun _ H' => Q .non H', rt := Q } [some (.ref p), some (.int y), some (.int n), v3, v4, some (.bl b5), some (.bl b6)] H1 := by
  refine ⟨_, (zai (zam (zd2 (pv 5) (zc5 (pv 6))))), ?_⟩
  intro v3 v4 b5 b6 H1 s1 e
  have q1 := q H1 s1
  rw [← e] at q1
  refine ⟨_, rfl, _, rfl, ?_⟩
  refine zcq (fun c => ?_) (fun c => ?_)
  ·rw [c, Bool.true_and] at q1
   exact ⟨_, rfl, q1⟩
  ·rw [Bool.eq_false_iff.mpr c, Bool.false_and] at q1
   exact q1
 obtain ⟨t4, h4, r4⟩ := rest4
 have rest3 : ∃ t, PSs (zdh CX0 P w K mg base ["bough", "yes", "no", "least", "greatest", "all_with_up", "all_without_up"] "sure_kept_bough" (zab zaw) a.f_sure_kept_bough cdv A outer s H E).nox ((zah zaw).drop 3) t ∧ ∀ (g : Int) (b5 : Bool) (H1 : Hp), Same H H1 → g = (ks.length : Int) - cnt ks n → b5 = (n.testBit u || (decide (lo ≤ (cnt ks y : Int)) && decide (g ≤ hi))) → t { nx := fun _ H' => Q .non H', rt := Q } [some (.ref p), some (.int y), some (.int n), some (.int (cnt ks y : Nat)), some (.int g), some (.bl b5), none] H1 := by
  refine ⟨_, (zaf (zax (i := 6) sc_sure_kept_bough.nd rfl (Or.inl rfl) (zj8 (zag G_has hr.lv rfl T.g_has T.K_has.kp T.B_has .nil zal (zaa (pv 1) (zaa (zan (ixT (K := K)) (pv 0) zad (fun _ _ => rfl)) zac))) (zc5 (zce zb4 (pv 4) zad (zaq _)))))
   h4), ?_⟩
  intro g b5 H1 s1 eg e5
  have hp1 := s1 _ _ hp
  refine ⟨_, rfl, _, rfl, p, _, _, _, rfl, rfl, sqT hp1, at0, _, _, rfl, _, rfl, ?_⟩
  rw [za6]
  refine zcq (fun c => ?_) (fun c => ?_)
  ·refine r4 _ _ _ _ _ s1 ?_
   rw [e5, eg]
   show _ = ((n.testBit u || (decide (lo ≤ (cnt ks y : Int)) && decide ((ks.length : Int) - cnt ks n ≤ hi))) && (y.testBit u || decide ((ks.length : Int) - cnt ks n = 0)))
   rw [c, Bool.true_or]
  ·refine ⟨_, rfl, rfl, ?_⟩
   refine r4 _ _ _ _ _ s1 ?_
   rw [e5, zqa, eg]
   show _ = ((n.testBit u || (decide (lo ≤ (cnt ks y : Int)) && decide ((ks.length : Int) - cnt ks n ≤ hi))) && (y.testBit u || decide ((ks.length : Int) - cnt ks n = 0)))
   rw [Bool.eq_false_iff.mpr c, Bool.false_or]
 obtain ⟨t3, h3, r3⟩ := rest3
 have rest2 : ∃ t, PSs (zdh CX0 P w K mg base ["bough", "yes", "no", "least", "greatest", "all_with_up", "all_without_up"] "sure_kept_bough" (zab zaw) a.f_sure_kept_bough cdv A outer s H E).nox ((zah zaw).drop 2) t ∧ ∀ (g : Int) (H1 : Hp), Same H H1 → g = (ks.length : Int) - cnt ks n → t { nx := fun _ H' => Q .non H', rt := Q } [some (.ref p), some (.int y), some (.int n), some (.int (cnt ks y : Nat)), some (.int g), none, none] H1 := by
  refine ⟨_, (zaf (zax (i := 5) sc_sure_kept_bough.nd rfl (Or.inl rfl) (zj8 (zag G_has hr.lv rfl T.g_has T.K_has.kp T.B_has .nil zal (zaa (pv 2) (zaa (zan (ixT (K := K)) (pv 0) zad (fun _ _ => rfl)) zac))) (zc5 (zd2 (zce zia (zan (ixT (K := K)) (pv 0) zad (fun _ _ => rfl)) (pv 3) (zaq _)) (zc5 (zce zia (pv 4) (zan (ixT (K := K)) (pv 0) zad (fun _ _ => rfl)) (zaq _)))))))
   h3), ?_⟩
  intro g H1 s1 eg
  have hp1 := s1 _ _ hp
  refine ⟨_, rfl, _, rfl, p, _, _, _, rfl, rfl, sqT hp1, at0, _, _, rfl, _, rfl, ?_⟩
  rw [za6]
  refine zcq (fun c => ?_) (fun c => ?_)
  ·exact r3 _ _ _ s1 eg (by rw [c, Bool.true_or])
  ·refine ⟨_, rfl, p, _, _, _, rfl, rfl, sqT hp1, at1, _, rfl, _, _, rfl, rfl, _, rfl, ?_⟩
   refine zcq (fun c2 => ?_) (fun c2 => ?_)
   ·refine ⟨_, rfl, _, rfl, p, _, _, _, rfl, rfl, sqT hp1, at2, _, _, rfl, rfl, ?_⟩
    exact r3 _ _ _ s1 eg (by rw [Bool.eq_false_iff.mpr c, Bool.false_or, c2, Bool.true_and])
   ·exact r3 _ _ _ s1 eg (by rw [Bool.eq_false_iff.mpr c, Bool.false_or, Bool.eq_false_iff.mpr c2, Bool.false_and])
 obtain ⟨t2, h2, r2⟩ := rest2
 refine ⟨_, (zaf (zax (i := 3) sc_sure_kept_bough.nd rfl (Or.inl rfl) (zag G_count_in hr.lv rfl T.g_count_in T.K_count_in.kp T.B_count_in .nil zal (zaa (zan (ixT (K := K)) (pv 0) zad (fun _ _ => rfl)) (zaa (pv 1) zac))))
   (zaf (zax (i := 4) sc_sure_kept_bough.nd rfl (Or.inl rfl) (zaz zfe (za1 (ze9 (K := K)) rfl T.m_len PySem.boot_len (zaa (zan (ixT (K := K)) (pv 0) zad (fun _ _ => rfl)) zac)) (zag G_count_in hr.lv rfl T.g_count_in T.K_count_in.kp T.B_count_in .nil zal (zaa (zan (ixT (K := K)) (pv 0) zad (fun _ _ => rfl)) (zaa (pv 2) zac)))))
   h2)), ?_⟩
 refine ⟨_, rfl, p, _, _, _, rfl, rfl, sqT hp, at3, _, rfl, pk, ks, y, rfl, hpk, by omega, fun H1 s1 => ?_⟩
 have hp1 := s1 _ _ hp
 have hpk1 := s1 _ _ hpk
 refine ⟨_, rfl, p, _, _, _, rfl, rfl, sqT hp1, at3, pk, _, rfl, .inr (sqT hpk1), ?_⟩
 refine ⟨_, rfl, p, _, _, _, rfl, rfl, sqT hp1, at3, _, rfl, pk, ks, n, rfl, hpk1, by omega, fun H2 s2 => ?_⟩
 refine ⟨_, _, rfl, rfl, ?_⟩
 exact r2 _ _ (s1.trans s2) (by rw [List.length_map])
end
section
variable {P : Program} {w : World} {K : PySem.W.Frag} {mg : Str → Option Value} {base : Heap} {a : Adr} {d : Fds}
theorem zif (T : Txt K mg a d) : zbd P w K mg base CX0 2 a.f_greatest_sum d.f_greatest_sum ["pairs", "yes", "no"] (ztn zek) := by
 have G_has := zdx (P := P) (w := w) (base := base) T
 refine T.K_greatest_sum.ok zih (fun vs H Q E h => ?_) (fun cdv A outer s H vs Q E hr h => ?_)
 ·obtain ⟨pq, xs, ps, y, n, rfl, _⟩ := h
  rfl
 obtain ⟨pq, xs, ps, y, n, rfl, hq, hps, few, q⟩ := h
 have lx : xs.length = ps.length := by rw [← hps.length, List.length_map]
 refine ⟨_, (zai (zam (za1 (zdq rfl) rfl T.m_sum PyProof.Rows.boot_sum (zaa (ziu (sc0 := zab zbk) (XN := ["pairs", "yes", "no"]) (N' := ["k", "number", "yes", "no"]) (n := 2) (kp := [1, 2]) rfl (piT (K := K) (pv 0)) rfl rfl (by decide +kernel) (fun _ _ _ _ _ => (pgT (K := K) (n := 2) rfl (zbe (za3 (i := 0) (by show List.Nodup (["k", "number", "yes", "no"] : List Str); decide +kernel) rfl (Or.inl rfl)) (zbe (za3 (i := 1) (by show List.Nodup (["k", "number", "yes", "no"] : List Str); decide +kernel) rfl (Or.inl rfl)) zdp)))) (fun _ _ _ _ _ => (zef (PW.pt (zj7 (zc7 (zag G_has hr.lv rfl T.g_has T.K_has.kp T.B_has .nil zal (zaa (pv 2) (zaa (pv 0) zac)))) (zhw (PW.pt (zhu (zar zh2 (pv 1) zad (zaq _)) (zf3 (zhn (zc7 (zag G_has hr.lv rfl T.g_has T.K_has.kp T.B_has .nil zal (zaa (pv 3) (zaa (pv 0) zac))))))))))))) (fun _ _ _ _ _ => (pv 1))) zac)))), ?_⟩
 refine ⟨_, rfl, pq, rfl, ⟨_, sqT hq⟩, ?_⟩
 refine zly (K := K) (a := pq) (xs := xs) (fun i ys σ H2 => (∃ v v', σ = [v, v', some (.int y), some (.int n)]) ∧ H2 = H ∧ i ≤ ps.length ∧ ys = (((ps.take i).filter fun p => y.testBit p.1 || (decide (0 < p.2) && !n.testBit p.1)).map (·.2)).map V.int) ⟨⟨none, none, rfl⟩, rfl, Nat.zero_le _, rfl⟩ (fun i ys σ H2 hi pv => ?_) (fun i ys σ H2 hi pv => ?_) (fun i x ys σ H2 hx pv => ?_) (fun ys σ H2 pv l hl => ?_)
 ·obtain ⟨_, _, h1, rfl⟩ := pv
  rw [List.length_map, List.length_map]
  refine small (Nat.le_trans (List.length_filter_le _ _) ?_)
  rw [List.length_take]
  omega
 ·rw [pv.2.1]
  exact sqT hq
 ·obtain ⟨⟨v, v', rfl⟩, rfl, h1, rfl⟩ := pv
  obtain ⟨pr, r, hpr, rfl, hr'⟩ := zl3 hps hx
  have hj : i < ps.length := (List.getElem?_eq_some_iff.mp hpr).1
  have ee := PySem.take_succ_filter (fun p : Nat × Int => y.testBit p.1 || (decide (0 < p.2) && !n.testBit p.1)) ps i pr hpr
  have yes : (y.testBit pr.1 || (decide (0 < pr.2) && !n.testBit pr.1)) = true → ((((ps.take i).filter fun p => y.testBit p.1 || (decide (0 < p.2) && !n.testBit p.1)).map (·.2)).map V.int) ++ [V.int pr.2] = (((ps.take (i + 1)).filter fun p => y.testBit p.1 || (decide (0 < p.2) && !n.testBit p.1)).map (·.2)).map V.int := fun c => by
   rw [ee, if_pos c, List.map_append, List.map_append]
   rfl
  have noo : (y.testBit pr.1 || (decide (0 < pr.2) && !n.testBit pr.1)) = false → ((((ps.take i).filter fun p => y.testBit p.1 || (decide (0 < p.2) && !n.testBit p.1)).map (·.2)).map V.int) = (((ps.take (i + 1)).filter fun p => y.testBit p.1 || (decide (0 < p.2) && !n.testBit p.1)).map (·.2)).map V.int := fun c => by
   rw [ee, if_neg (by rw [c]; exact Bool.false_ne_true), List.append_nil]
  refine ⟨r, _, rfl, sqT hr', rfl, _, _, rfl, _, _, rfl, rfl, ?_⟩
  refine ⟨_, rfl, _, rfl, _, _, rfl, _, rfl, ?_⟩
  rw [za6]
  refine zcq (fun c => ?_) (fun c => ?_)
  ·refine zok ?_
   exact ⟨_, rfl, ⟨_, _, rfl⟩, rfl, hj, yes (by rw [c, Bool.true_or])⟩
  ·have c' := Bool.eq_false_iff.mpr c
   refine ⟨_, rfl, _, _, rfl, rfl, _, rfl, ?_⟩
   refine zcq (fun c2 => ?_) (fun c2 => ?_)
   ·refine ⟨_, rfl, _, rfl, _, _, rfl, _, rfl, ?_⟩
    rw [za6]
    refine zcq (fun c3 => ?_) (fun c3 => ?_)
    ·exact ⟨_, rfl, ⟨_, _, rfl⟩, rfl, hj, yes (by rw [c', Bool.false_or, c2, Bool.true_and, c3])⟩
    ·exact ⟨⟨_, _, rfl⟩, rfl, hj, noo (by rw [c', Bool.false_or, c2, Bool.true_and, Bool.eq_false_iff.mpr c3])⟩
   ·refine zhk ?_
    exact ⟨⟨_, _, rfl⟩, rfl, hj, noo (by rw [c', Bool.false_or, Bool.eq_false_iff.mpr c2, Bool.false_and])⟩
 ·obtain ⟨_, rfl, _, rfl⟩ := pv
  refine ⟨l, _, rfl, SqL.of zae, ?_⟩
  have q1 := q _ (zaj hl (.lst ((((ps.take xs.length).filter fun p => y.testBit p.1 || (decide (0 < p.2) && !n.testBit p.1)).map (·.2)).map V.int)))
  have e : zek ps y n = (((ps.take xs.length).filter fun p => y.testBit p.1 || (decide (0 < p.2) && !n.testBit p.1)).map (·.2)).sum := by
   rw [lx, List.take_length]
   rfl
  rw [e] at q1
  exact q1
end
section
variable {P : Program} {w : World} {K : PySem.W.Frag} {mg : Str → Option Value} {base : Heap} {a : Adr} {d : Fds}
theorem zk5 (T : Txt K mg a d) : zbd P w K mg base CX0 4 a.f_sure_kept d.f_sure_kept ["tie", "yes", "no"] (zq3 Tie.sk) := by
 have G_has := zdx (P := P) (w := w) (base := base) T
 have G_greatest_sum := zif (P := P) (w := w) (base := base) T
 have G_sure_kept_bough := zgi (P := P) (w := w) (base := base) T
 refine T.K_sure_kept.ok zlo (fun vs H Q E h => ?_) (fun cdv A outer s H vs Q E hr h => ?_)
 ·obtain ⟨t, m, y, n, v, rfl, _⟩ := h
  rfl
 obtain ⟨t, m, y, n, v, rfl, hd, ok, hm, q⟩ := h
 have q0 := q H (Same.refl H)
 refine ⟨_, (zaf (za9 (zar zb4 (zan (ixT (K := K)) (pv 0) zad (fun _ _ => rfl)) za5 (zaq _)) (zai (zam (zj8 (zag G_has hr.lv rfl T.g_has T.K_has.kp T.B_has .nil zal (zaa (pv 2) (zaa (zan (ixT (K := K)) (pv 0) zad (fun _ _ => rfl)) zac))) (zc5 (zag G_has hr.lv rfl T.g_has T.K_has.kp T.B_has .nil zal (zaa (pv 1) (zaa (zan (ixT (K := K)) (pv 0) zad (fun _ _ => rfl)) zac))))))) zau)
   (zaf (za9 (zar zb4 (zan (ixT (K := K)) (pv 0) zad (fun _ _ => rfl)) za5 (zaq _)) (zai (zam (zj8 (zag G_has hr.lv rfl T.g_has T.K_has.kp T.B_has .nil zal (zaa (pv 2) (zaa (zan (ixT (K := K)) (pv 0) zad (fun _ _ => rfl)) zac))) (zc5 (zag G_has hr.lv rfl T.g_has T.K_has.kp T.B_has .nil zal (zaa (pv 2) (zaa (zan (ixT (K := K)) (pv 0) zad (fun _ _ => rfl)) zac))))))) zau)
   (zaf (za9 (zar zb4 (zan (ixT (K := K)) (pv 0) zad (fun _ _ => rfl)) za5 (zaq _)) (zai (zam (zce zia (zag G_greatest_sum hr.lv rfl T.g_greatest_sum T.K_greatest_sum.kp T.B_greatest_sum .nil zal (zaa (zan (ixT (K := K)) (pv 0) zad (fun _ _ => rfl)) (zaa (pv 1) (zaa (pv 2) zac)))) (zan (ixT (K := K)) (pv 0) zad (fun _ _ => rfl)) (zaq _)))) zau)
   (zai (zam (zag G_sure_kept_bough hr.lv rfl T.g_sure_kept_bough T.K_sure_kept_bough.kp T.B_sure_kept_bough .nil zal (zaa (pv 0) (zaa (pv 1) (zaa (pv 2) zac))))))))), ?_⟩
 cases t with
 | needs x z =>
  obtain ⟨p, rfl, hp⟩ := zfy hd
  refine ⟨_, rfl, p, _, _, _, rfl, rfl, sqT hp, at0, rfl, _, rfl, ?_⟩
  refine zd5 rfl ?_
  refine ⟨_, rfl, _, rfl, p, _, _, _, rfl, rfl, sqT hp, at1, _, _, rfl, _, rfl, ?_⟩
  rw [za6]
  have q1 : Q (.bl (n.testBit x || y.testBit z)) H := q0
  refine zcq (fun c => ?_) (fun c => ?_)
  ·rw [c, Bool.true_or] at q1
   exact q1
  ·rw [Bool.eq_false_iff.mpr c, Bool.false_or] at q1
   refine ⟨_, rfl, _, rfl, p, _, _, _, rfl, rfl, sqT hp, at2, _, _, rfl, ?_⟩
   rw [za6]
   exact q1
 | bans x z =>
  obtain ⟨p, rfl, hp⟩ := zfy hd
  refine ⟨_, rfl, p, _, _, _, rfl, rfl, sqT hp, at0, rfl, _, rfl, ?_⟩
  refine zb5 zgh ?_
  refine ⟨_, rfl, p, _, _, _, rfl, rfl, sqT hp, at0, rfl, _, rfl, ?_⟩
  refine zd5 rfl ?_
  refine ⟨_, rfl, _, rfl, p, _, _, _, rfl, rfl, sqT hp, at1, _, _, rfl, _, rfl, ?_⟩
  rw [za6]
  have q1 : Q (.bl (n.testBit x || n.testBit z)) H := q0
  refine zcq (fun c => ?_) (fun c => ?_)
  ·rw [c, Bool.true_or] at q1
   exact q1
  ·rw [Bool.eq_false_iff.mpr c, Bool.false_or] at q1
   refine ⟨_, rfl, _, rfl, p, _, _, _, rfl, rfl, sqT hp, at2, _, _, rfl, ?_⟩
   rw [za6]
   exact q1
 | most top ps =>
  obtain ⟨p, pq, xs, rfl, hp, hq, hps⟩ := zll hd
  have few : ps.length ≤ m := ok.2.2.2
  refine ⟨_, rfl, p, _, _, _, rfl, rfl, sqT hp, at0, rfl, _, rfl, ?_⟩
  refine zb5 zgj ?_
  refine ⟨_, rfl, p, _, _, _, rfl, rfl, sqT hp, at0, rfl, _, rfl, ?_⟩
  refine zb5 zhv ?_
  refine ⟨_, rfl, p, _, _, _, rfl, rfl, sqT hp, at0, rfl, _, rfl, ?_⟩
  refine zd5 rfl ?_
  refine ⟨_, rfl, p, _, _, _, rfl, rfl, sqT hp, at2, _, rfl, _, rfl, pq, xs, ps, y, n, rfl, hq, hps, by omega, fun H1 s1 => ?_⟩
  exact ⟨_, rfl, p, _, _, _, rfl, rfl, sqT (s1 _ _ hp), at1, _, _, rfl, rfl, q H1 s1⟩
 | bough u lo hi ks =>
  obtain ⟨p, pk, e, hp, hpk⟩ := zd4 hd
  subst e
  refine ⟨_, rfl, p, _, _, _, rfl, rfl, sqT hp, at0, rfl, _, rfl, ?_⟩
  refine zb5 int_str ?_
  refine ⟨_, rfl, p, _, _, _, rfl, rfl, sqT hp, at0, rfl, _, rfl, ?_⟩
  refine zb5 int_str ?_
  refine ⟨_, rfl, p, _, _, _, rfl, rfl, sqT hp, at0, rfl, _, rfl, ?_⟩
  refine zb5 int_str ?_
  exact ⟨_, rfl, _, rfl, _, rfl, u, lo, hi, ks, m, y, n, _, rfl, hd, ok, hm, q⟩
end
section
variable {P : Program} {w : World} {K : PySem.W.Frag} {mg : Str → Option Value} {base : Heap} {a : Adr} {d : Fds}
theorem zds (T : Txt K mg a d) : zbd P w K mg base CX0 5 a.f_first_sure_broken d.f_first_sure_broken ["wood", "ties", "yes", "no"] zpc := by
 have G_tie_at := zhx (P := P) (w := w) (base := base) T
 have G_sure_broken := zjt (P := P) (w := w) (base := base) T
 refine T.K_first_sure_broken.ok sc_first_sure_broken (fun vs H Q E h => ?_) (fun cdv A outer s H vs Q E hr h => ?_)
 ·obtain ⟨wd, m, ts, tl, il, y, n, rfl, _⟩ := h
  rfl
 obtain ⟨wd, m, ts, tl, il, y, n, rfl, W, htl, ilt, q⟩ := h
 have m9 := W.m9
 refine ⟨_, (zaf (zgs PassesOwn.never rfl (piL (K := K) (pv 1)) (za3 (i := 4) sc_first_sure_broken.nd rfl (Or.inl rfl)) (zai (za9 (zc7 (zag G_sure_broken hr.lv rfl T.g_sure_broken T.K_sure_broken.kp T.B_sure_broken .nil zal (zaa (zag G_tie_at hr.lv rfl T.g_tie_at T.K_tie_at.kp T.B_tie_at .nil zal (zaa (pv 0) (zaa (pv 4) zac))) (zaa (pv 2) (zaa (pv 3) zac))))) (zai (zam (pv 4))) zau)))
   (zai (zam zdc))), ?_⟩
 refine ⟨_, rfl, tl, rfl, ⟨_, SqL.of htl⟩, ?_⟩
 refine zgx (K := K) (a := tl) (xs := zb2 il) (fun i σ H2 => (∃ v, σ = [some (.ref wd), some (.ref tl), some (.int y), some (.int n), v]) ∧ Same H H2 ∧ (il.take i).find? (fun i => zid ts i y n) = none) ⟨⟨_, rfl⟩, Same.refl _, rfl⟩ (fun i σ H2 _ z => SqL.of (z.2.1 _ _ htl)) ?_ ?_
 ·rintro i x σ H2 hx ⟨⟨v, rfl⟩, s2, hb⟩
  rw [List.getElem?_map] at hx
  obtain ⟨t, ht, rfl⟩ := Option.map_eq_some_iff.mp hx
  have htl' := ilt t (List.mem_of_getElem? ht)
  have W2 := W.same s2
  obtain ⟨xs, ys, WA, dn⟩ := W2.ex
  have hts : ts[t]? = some ts[t] := List.getElem?_eq_getElem htl'
  obtain ⟨v2, hv2, hd⟩ := DnL.get' dn (i := t) (d := ts[t].toD) (by rw [List.getElem?_map, hts]; rfl)
  have esb : zid ts t y n = ts[t].sb y n := by unfold zid; rw [hts]
  refine ⟨_, rfl, _, rfl, wd, m, xs, ys, t, v2, rfl, WA, hv2, ?_⟩
  refine ⟨_, rfl, _, rfl, ts[t], m, y, n, v2, rfl, hd, W.ok _ (List.getElem_mem htl'), by omega, fun H3 s3 => ?_⟩
  refine ⟨_, rfl, ?_⟩
  refine zcq (fun c => ?_) (fun c => ?_)
  ·have q1 := q H3 (s2.trans s3)
   have e : zba ts il y n = some t := by
    unfold zba
    have el : il = il.take i ++ t :: il.drop (i + 1) := by
     obtain ⟨hi, e⟩ := List.getElem?_eq_some_iff.mp ht
     rw [← e, List.getElem_cons_drop, List.take_append_drop]
    rw [el, List.find?_append, hb]
    simp [esb, c]
   rw [e] at q1
   exact ⟨_, rfl, q1⟩
  ·refine ⟨⟨_, rfl⟩, s2.trans s3, ?_⟩
   rw [List.take_add_one, ht, Option.toList_some, List.find?_append, hb]
   simp [esb, c]
 ·rintro σ H2 ⟨⟨v, rfl⟩, s2, hb⟩
  have q1 := q H2 s2
  rw [List.length_map, List.take_length] at hb
  have e : zba ts il y n = none := hb
  rw [e] at q1
  exact q1
end
section
variable {P : Program} {w : World} {K : PySem.W.Frag} {mg : Str → Option Value} {base : Heap} {a : Adr} {d : Fds}
theorem zhe (T : Txt K mg a d) : zbd P w K mg base CX0 5 a.f_all_sure_kept d.f_all_sure_kept ["wood", "yes", "no"] zty := by
 have G_every_tie := zdd (P := P) (w := w) (base := base) T
 have G_tie_at := zhx (P := P) (w := w) (base := base) T
 have G_sure_kept := zk5 (P := P) (w := w) (base := base) T
 refine T.K_all_sure_kept.ok zhh (fun vs H Q E h => ?_) (fun cdv A outer s H vs Q E hr h => ?_)
 ·obtain ⟨wd, m, ts, y, n, rfl, _⟩ := h
  rfl
 obtain ⟨wd, m, ts, y, n, rfl, W, q⟩ := h
 have m9 := W.m9
 have few := W.few
 refine ⟨_, (zai (zam (za1 (zmr rfl) rfl T.m_all PyProof.Rows.boot_all (zaa (ziu (sc0 := zab zbh) (XN := ["wood", "yes", "no"]) (N' := ["t", "yes", "no", "wood"]) (n := 1) (kp := [1, 2, 0]) rfl (piL (K := K) (zag G_every_tie hr.lv rfl T.g_every_tie T.K_every_tie.kp T.B_every_tie .nil zal (zaa (pv 0) zac))) rfl rfl (by decide +kernel) (fun _ _ _ _ _ => (za3 (i := 0) (by show List.Nodup (["t", "yes", "no", "wood"] : List Str); decide +kernel) rfl (Or.inl rfl))) (fun _ _ _ _ _ => zos) (fun _ _ _ _ _ => (zag G_sure_kept hr.lv rfl T.g_sure_kept T.K_sure_kept.kp T.B_sure_kept .nil zal (zaa (zag G_tie_at hr.lv rfl T.g_tie_at T.K_tie_at.kp T.B_tie_at .nil zal (zaa (pv 3) (zaa (pv 0) zac))) (zaa (pv 1) (zaa (pv 2) zac)))))) zac)))), ?_⟩
 refine ⟨_, rfl, wd, m, ts, rfl, W, fun l H1 s1 nl hl => ?_⟩
 refine ⟨l, rfl, ⟨_, SqL.of hl⟩, ?_⟩
 have lr : ((List.range ts.length).map fun i : Nat => V.int (i : Int)).length = ts.length := by rw [List.length_map, List.length_range]
 refine zim (K := K) (a := l) (xs := (List.range ts.length).map fun i : Nat => V.int (i : Int)) (fun i ys σ H2 => (∃ v, σ = [v, some (.int y), some (.int n), some (.ref wd)]) ∧ Same H1 H2 ∧ ys = ((ts.take i).map fun t => t.sk y n).map V.bl) ⟨⟨none, rfl⟩, Same.refl _, rfl⟩ (fun i ys σ H2 hi pv => ?_) (fun i ys σ H2 hi pv => ?_) (fun i x ys σ H2 hx pv => ?_) (fun ys σ H2 pv p hp => ?_)
 ·obtain ⟨_, _, rfl⟩ := pv
  rw [List.length_map, List.length_map, List.length_take]
  exact small (by omega)
 ·exact SqL.of (pv.2.1 _ _ hl)
 ·obtain ⟨⟨v, rfl⟩, s2, rfl⟩ := pv
  rw [List.getElem?_map] at hx
  obtain ⟨i', hi', rfl⟩ := Option.map_eq_some_iff.mp hx
  have il : i < ts.length := by
   have := (List.getElem?_eq_some_iff.mp hi').1
   rwa [List.length_range] at this
  rw [List.getElem?_range il] at hi'
  cases hi'
  have W2 := W.same (s1.trans s2)
  obtain ⟨xs, zs, WA, dn⟩ := W2.ex
  have hts : ts[i]? = some ts[i] := List.getElem?_eq_getElem il
  obtain ⟨v2, hv2, hd⟩ := DnL.get' dn (i := i) (d := ts[i].toD) (by rw [List.getElem?_map, hts]; rfl)
  refine ⟨_, rfl, _, rfl, wd, m, xs, zs, i, v2, rfl, WA, hv2, ?_⟩
  refine ⟨_, rfl, _, rfl, ts[i], m, y, n, v2, rfl, hd, W.ok _ (List.getElem_mem il), by omega, fun H3 s3 => ?_⟩
  refine ⟨⟨_, rfl⟩, s2.trans s3, ?_⟩
  rw [List.take_add_one, hts, Option.toList_some, List.map_append, List.map_append]
  rfl
 obtain ⟨_, s2, rfl⟩ := pv
 rw [lr, List.take_length] at *
 refine ⟨p, _, rfl, SqL.of zae, ?_⟩
 have e : (ts.map fun t => t.sk y n).all id = ts.all fun t => t.sk y n := by rw [List.all_map]; rfl
 rw [e]
 exact q _ ((s1.trans s2).trans (zaj hp _))
end
section
variable {P : Program} {w : World} {K : PySem.W.Frag} {mg : Str → Option Value} {base : Heap} {a : Adr} {d : Fds}
theorem zkl (T : Txt K mg a d) (f : Nat) {p : Addr} {C : Hp → Prop} {m : Nat} {leaf : Nat → Nat → Option PyData} {fdL : FuncData} {pl : List Str} {φ : Heap → Prop}
  (L_leaf_at : zbd P w K mg base CX0 7 p fdL pl (ztp C leaf)) (LB_leaf_at : Binds K fdL pl []) (LP_leaf_at : ∀ h : Heap, φ h → ∃ o fd', h.get? p = some o ∧ o.data = .func fd') (hC : ∀ H H', Same H H' → C H → C H') (hCp : ∀ H, C H → H p = some (.ext φ))
  (G_told_tree : f ≠ 0 → zbd P w K mg base CX0 (f + 7) a.f_told_tree d.f_told_tree ["wood", "ties", "yes", "no", "leaf_at"] (zl2 (f - 1) p C m leaf)) : zbd P w K mg base CX0 (f + 8) a.f_told_tree d.f_told_tree ["wood", "ties", "yes", "no", "leaf_at"] (zl2 f p C m leaf) := by
 have G_first_sure_broken := zds (P := P) (w := w) (base := base) T
 have G_open_options := zc6 (P := P) (w := w) (base := base) T
 have G_with_option := zcb (P := P) (w := w) (base := base) T
 refine T.K_told_tree.ok sc_told_tree (fun vs H Q E h => ?_) (fun cdv A outer s H vs Q E hr h => ?_)
 ·obtain ⟨wd, ts, tl, il, y, n, rfl, _⟩ := h
  rfl
 obtain ⟨wd, ts, tl, il, y, n, rfl, W, htl, ilt, hf, c0, ends, q⟩ := h
 have m9 := W.m9
 obtain ⟨R, r0, rs, re⟩ := ends
 have rest : ∃ t, PSs (zdh CX0 P w K mg base ["wood", "ties", "yes", "no", "leaf_at", "broken", "leaf", "k", "one", "other"] "told_tree" (zab zb0) a.f_told_tree cdv A outer s H E).nox ((zah zb0).drop 5) t ∧ (∀ (k : Nat) (r : List Nat) (v5 v6 : Option V) (H1 : Hp), Same H H1 → zay m y n = k :: r → zba ts il y n = none → leaf y n = none → t { nx := fun _ H' => Q .non H', rt := Q } [some (.ref wd), some (.ref tl), some (.int y), some (.int n), some (.ref p), v5, v6, some (.int (k : Int)), none, none] H1) := by
  by_cases hf0 : f = 0
  ·refine ⟨zk6, zel, ?_⟩
   intro k r v5 v6 H1 s1 ho hb
   rw [ho, hf0] at hf
   simp at hf
  ·have G_told_tree := G_told_tree hf0
   refine ⟨_, (zaf (zax (i := 8) sc_told_tree.nd rfl (Or.inl rfl) (zag G_told_tree hr.lv rfl T.g_told_tree T.K_told_tree.kp T.B_told_tree .nil zal (zaa (pv 0) (zaa (pv 1) (zaa (zag G_with_option hr.lv rfl T.g_with_option T.K_with_option.kp T.B_with_option .nil zal (zaa (pv 2) (zaa (pv 7) zac))) (zaa (pv 3) (zaa (pv 4) zac)))))))
   (zaf (zax (i := 9) sc_told_tree.nd rfl (Or.inl rfl) (zag G_told_tree hr.lv rfl T.g_told_tree T.K_told_tree.kp T.B_told_tree .nil zal (zaa (pv 0) (zaa (pv 1) (zaa (pv 2) (zaa (zag G_with_option hr.lv rfl T.g_with_option T.K_with_option.kp T.B_with_option .nil zal (zaa (pv 3) (zaa (pv 7) zac))) (zaa (pv 4) zac)))))))
   (zai (zam (za8 (zaa za5 (zaa (pv 7) (zaa (pv 8) (zaa (pv 9) zac))))))))), ?_⟩
   intro k r v5 v6 H1 s1 ho hb hlf
   have hk : k ∈ zay m y n := by rw [ho]; exact List.mem_cons_self
   have km := (mem_open.mp hk).1
   have l1 := zdn hk
   have l2 := zdl hk
   refine ⟨_, rfl, _, rfl, _, rfl, _, rfl, y, k, rfl, by omega, _, rfl, _, rfl, wd, ts, tl, il, y ||| 2 ^ k, n, rfl, W.same s1, s1 _ _ htl, ilt, by omega, hC _ _ s1 c0, ⟨R, (rs y n k r0 hk).1, rs, re⟩, fun v1 H2 s2 d1 => ?_⟩
   refine ⟨_, rfl, _, rfl, _, rfl, _, rfl, _, rfl, n, k, rfl, by omega, _, rfl, wd, ts, tl, il, y, n ||| 2 ^ k, rfl, W.same (s1.trans s2), (s1.trans s2) _ _ htl, ilt, by omega, hC _ _ (s1.trans s2) c0, ⟨R, (rs y n k r0 hk).2, rs, re⟩, fun v2 H3 s3 d2 => ?_⟩
   refine ⟨_, rfl, _, rfl, _, rfl, small (by show 4 ≤ 1000; decide), fun tp htp => ?_⟩
   have s4 := zaj htp (.tup [.str ("split" : Str), .int (k : Int), v1, v2])
   refine q _ _ (((s1.trans s2).trans s3).trans s4) ?_
   obtain ⟨f', rfl⟩ : ∃ f', f = f' + 1 := ⟨f - 1, by omega⟩
   rw [zib hb hlf ho]
   exact ⟨tp, _, rfl, zae, _, _, rfl, rfl, _, _, rfl, rfl, _, _, rfl, Dn.same (s3.trans s4) _ _ d1, _, _, rfl, Dn.same s4 _ _ d2, rfl⟩
 obtain ⟨t4, h4, r4⟩ := rest
 refine ⟨_, (zaf (zax (i := 5) sc_told_tree.nd rfl (Or.inl rfl) (zag G_first_sure_broken hr.lv rfl T.g_first_sure_broken T.K_first_sure_broken.kp T.B_first_sure_broken .nil zal (zaa (pv 0) (zaa (pv 1) (zaa (pv 2) (zaa (pv 3) zac))))))
   (zaf (za9 (zar zg2 (pv 5) zdc (zaq _)) (zai (zam (za8 (zaa za5 (zaa (pv 5) zac))))) zau)
   (zaf (zax (i := 6) sc_told_tree.nd rfl (Or.inl rfl) (zrq (i := 4) L_leaf_at hr.lv rfl (.inl rfl) LB_leaf_at LP_leaf_at (zaa (pv 2) (zaa (pv 3) zac))))
   (zaf (za9 (zar zg2 (pv 6) zdc (zaq _)) (zai (zam (pv 6))) zau)
   (zaf (zax (i := 7) sc_told_tree.nd rfl (Or.inl rfl) (zan (ixL (K := K)) (zag G_open_options hr.lv rfl T.g_open_options T.K_open_options.kp T.B_open_options .nil zal (zaa (zan (ixT (K := K)) (pv 0) zad (fun _ _ => rfl)) (zaa (pv 2) (zaa (pv 3) zac)))) zad (fun _ _ => rfl)))
   h4))))), ?_⟩
 refine ⟨_, rfl, _, rfl, _, rfl, _, rfl, wd, m, ts, tl, il, y, n, rfl, W, htl, ilt, fun H1 s1 => ?_⟩
 obtain ⟨o, ho⟩ : ∃ o, zba ts il y n = o := ⟨_, rfl⟩
 rw [ho]
 obtain ⟨xs, ys, ⟨tb, tc, hw, hb, hc⟩, dn⟩ := W.ex
 rcases o with _ | t
 ·refine ⟨_, rfl, rfl, _, rfl, ?_⟩
  refine ze6 rfl ?_
  refine ⟨rfl, _, rfl, _, rfl, hCp _ (hC _ _ s1 c0), y, n, rfl, hC _ _ s1 c0, fun v H2 s2 lv => ?_⟩
  unfold zg9 at lv
  cases hl : leaf y n with
  | some dd =>
   rw [hl] at lv
   obtain ⟨dv, pp, rfl⟩ := lv
   refine ⟨_, rfl, rfl, _, rfl, ?_⟩
   refine zng (by intro z; cases z) ?_
   refine ⟨_, rfl, ?_⟩
   refine q _ _ (s1.trans s2) ?_
   rw [zjd ho hl]
   exact dv
  | none =>
   rw [hl] at lv
   subst lv
   refine ⟨_, rfl, rfl, _, rfl, ?_⟩
   refine ze6 rfl ?_
   have s12 := s1.trans s2
   refine ⟨_, rfl, wd, _, _, _, rfl, rfl, sqT (s12 _ _ hw), at0, _, rfl, _, rfl, m, y, n, rfl, by omega, fun l H3 s3 nl hl3 => ?_⟩
   obtain ⟨ol, hol⟩ : ∃ ol, zay m y n = ol := ⟨_, rfl⟩
   rw [hol] at hl3
   rcases ol with _ | ⟨k, r⟩
   ·exact absurd hl (re y n r0 ho hol)
   ·refine ⟨l, _, _, _, rfl, rfl, SqL.of hl3, at0, ?_⟩
    exact r4 k r _ _ H3 (s12.trans s3) hol ho hl
 ·refine ⟨_, rfl, rfl, _, rfl, ?_⟩
  refine zng (by intro z; cases z) ?_
  refine ⟨_, rfl, small (by show 2 ≤ 1000; decide), fun tp htp => ?_⟩
  have s2 := zaj htp (.tup [.str ("broken" : Str), .int (t : Int)])
  refine q _ _ (s1.trans s2) ?_
  rw [zhd ho]
  exact ⟨tp, _, rfl, zae, _, _, rfl, rfl, _, _, rfl, rfl, rfl⟩
theorem zey (T : Txt K mg a d) {p : Addr} {C : Hp → Prop} {m : Nat} {leaf : Nat → Nat → Option PyData} {fdL : FuncData} {pl : List Str} {φ : Heap → Prop}
  (L : zbd P w K mg base CX0 7 p fdL pl (ztp C leaf)) (LB : Binds K fdL pl []) (LP : ∀ h : Heap, φ h → ∃ o fd', h.get? p = some o ∧ o.data = .func fd') (hC : ∀ H H', Same H H' → C H → C H') (hCp : ∀ H, C H → H p = some (.ext φ)) :
  ∀ f : Nat, zbd P w K mg base CX0 (f + 8) a.f_told_tree d.f_told_tree ["wood", "ties", "yes", "no", "leaf_at"] (zl2 f p C m leaf)
 | 0 => zkl T 0 L LB LP hC hCp fun h => absurd rfl h
 | f + 1 => zkl T (f + 1) L LB LP hC hCp fun _ => zey T L LB LP hC hCp f
end
section
variable {P : Program} {w : World} {K : PySem.W.Frag} {mg : Str → Option Value} {base : Heap} {a : Adr} {d : Fds}
def zn4 : Sp := fun vs H Q _ => ∃ (wd : Addr) (m : Nat) (ts : List Tie) (y n : Nat), vs = [.ref wd, .int y, .int n] ∧ WoodT H wd m ts ∧ ∀ (v : V) (H' : Hp), Same H H' → zg9 (zdu m) y n H' v → Q v H'
theorem zlp (T : Txt K mg a d) : zbd P w K mg base CX0 3 a.f_ware_leaf d.f_ware_leaf ["wood", "yes", "no"] zn4 := by
 have G_open_options := zc6 (P := P) (w := w) (base := base) T
 refine T.K_ware_leaf.ok zk9 (fun vs H Q E h => ?_) (fun cdv A outer s H vs Q E hr h => ?_)
 ·obtain ⟨wd, m, ts, y, n, rfl, _⟩ := h
  rfl
 obtain ⟨wd, m, ts, y, n, rfl, W, q⟩ := h
 have m9 := W.m9
 refine ⟨_, (zaf (za9 (zar zb4 (za1 (ze9 (K := K)) rfl T.m_len PySem.boot_len (zaa (zag G_open_options hr.lv rfl T.g_open_options T.K_open_options.kp T.B_open_options .nil zal (zaa (zan (ixT (K := K)) (pv 0) zad (fun _ _ => rfl)) (zaa (pv 1) (zaa (pv 2) zac)))) zac)) zad (zaq _)) (zai (zam (za8 (zaa za5 zac)))) zau)
   (zai (zam zdc))), ?_⟩
 obtain ⟨xs, ys, ⟨tb, tc, hw, hb, hc⟩, dn⟩ := W.ex
 refine ⟨_, rfl, wd, _, _, _, rfl, rfl, sqT hw, at0, _, rfl, _, rfl, m, y, n, rfl, by omega, fun l H2 s2 nl hl => ?_⟩
 refine ⟨l, _, rfl, .inl (SqL.of hl), rfl, _, rfl, ?_⟩
 rw [zjk, List.length_map]
 obtain ⟨ol, hol⟩ : ∃ ol, zay m y n = ol := ⟨_, rfl⟩
 rw [hol]
 rcases ol with _ | ⟨k, r⟩
 ·refine zd5 rfl ?_
  refine ⟨small (by show 1 ≤ 1000; decide), fun tp htp => ?_⟩
  have s3 := zaj htp (.tup [.str ("ware" : Str)])
  refine q _ _ (s2.trans s3) ?_
  unfold zg9 zdu
  rw [if_pos hol]
  exact ⟨⟨tp, _, rfl, zae, _, _, rfl, rfl, rfl⟩, tp, rfl⟩
 ·refine zb5 (by simp) ?_
  refine q _ _ s2 ?_
  unfold zg9 zdu
  rw [if_neg (by rw [hol]; simp)]
end
section
variable {P : Program} {w : World} {K : PySem.W.Frag} {mg : Str → Option Value} {base : Heap} {a : Adr} {d : Fds}
theorem zmd (T : Txt K mg a d) (LB : zgm mg base a.c_cases_of a.t_cases_of) (f : Nat) : zbd P w K mg base CX0 (f + 9) a.f_cases_of d.f_cases_of ["wood", "ties", "yes", "no"] (spT a.t_cases_of (zrn f)) := by
 refine T.K_cases_of.okC znf (fun vs H Q E h => ?_) (fun cdv A outer s H vs Q E hcd hr h => ?_)
 ·obtain ⟨_, wd, m, ts, tl, il, y, n, rfl, _⟩ := h
  rfl
 obtain ⟨tb, wd, m, ts, tl, il, y, n, rfl, W, htl, ilt, hf, q⟩ := h
 have LC : ((zdh CX0 P w K mg base ["wood", "ties", "yes", "no"] "cases_of" (zab zbq) a.f_cases_of cdv A outer s H E).nox).env.code = .ref a.c_cases_of := hcd.symm.trans T.code_cases_of
 have LF : ∀ y ∈ (zg3 (zik (zs5 (zah zbq)[0]?))).names, y.2 = .free → ∃ c, ((zdh CX0 P w K mg base ["wood", "ties", "yes", "no"] "cases_of" (zab zbq) a.f_cases_of cdv A outer s H E).nox).env.cells.lookup y.1 = some c := by
  intro y hy hz
  have e : y = (("wood" : Str), NameKind.free) := by
   have h := (by decide +kernel : ∀ y ∈ (zg3 (zik (zs5 (zah zbq)[0]?))).names, y.2 = NameKind.free → y = (("wood" : Str), NameKind.free))
   exact h y hy hz
  subst e
  exact ⟨_, rfl⟩
 refine ⟨_, (zai (zam (zmm (k := f + 8) hr.lv rfl T.g_told_tree T.K_told_tree.kp T.B_told_tree (fun _ => rfl) (zaa (pv 0) (zaa (pv 1) (zaa (pv 2) (zaa (pv 3) (zaa (zq7 LC LB rfl LF) zac)))))))), ?_⟩
 refine ⟨_, rfl, _, rfl, _, rfl, _, rfl, tb, fun p c' H1 np s1 hp hc base' ci _ _ => ?_⟩
 obtain ⟨cw, u, e1, r1, ic⟩ := ci 0 "wood" (.ref wd) rfl rfl rfl
 have hcells : ((zdh CX0 P w K mg base ["wood", "ties", "yes", "no"] "cases_of" (zab zbq) a.f_cases_of cdv A outer s H E).nox).env.cells = [(("wood" : Str), cw)] := by
  have z : cw = s.heap.objs.size + 1 := (Option.some.inj (show some (s.heap.objs.size + 1) = some cw from e1)).symm
  rw [z]
  rfl
 have G_ware_leaf := zlp (P := P) (w := w) (base := base') T
 have L := zqo (P := P) (w := w) (K := K) (mg := mg) (base := base') (ps := ["come", "gone"]) (fr := ["wood"]) (fv := [.ref wd]) (k := 6) (leaf := zdu m) (fun H => WoodT H wd m ts) hp ⟨rfl, rfl, rfl, by decide +kernel, by decide +kernel, by decide +kernel, by decide +kernel⟩
  (fun x cc h => by
   have h' := zca LF h
   rw [hcells] at h'
   obtain ⟨_, rfl⟩ := zdi h'
   exact ⟨_, ic⟩)
  (fun x y cc h1 h2 => by
   have h1' := zca LF h1
   have h2' := zca LF h2
   rw [hcells] at h1' h2'
   rw [(zdi h1').1, (zdi h2').1])
  (fun y hy hz => by
   obtain ⟨c, hc⟩ := LF y hy hz
   exact ⟨c, zfx LF (by rw [← hz]; exact hy) hc⟩)
  (fun i x v h1 h2 => by
   cases i with
   | zero =>
    cases h1
    cases h2
    exact ⟨cw, u, zfx LF (by decide +kernel) e1, r1, ic⟩
   | succ i => cases h1)
  rfl (fun _ _ _ => rfl) rfl
  (fun q A outer s H y n Q hr W0 q' => ⟨_, zag G_ware_leaf (hr.mono (by decide)) rfl T.g_ware_leaf T.K_ware_leaf.kp T.B_ware_leaf .nil zal (zaa (pv 2) (zaa (pv 0) (zaa (pv 1) zac))), ⟨_, rfl, _, rfl, _, rfl, wd, m, ts, y, n, rfl, W0, q'⟩⟩)
 have G := zey (P := P) (w := w) (base := base') (m := m) T L (.all fun us hl => match us, hl with | [_, _], _ => rfl) zow (fun H H' s h => ⟨h.1.same s, s _ _ h.2.1, s _ _ h.2.2⟩) (fun H h => h.2.1) f
 refine ⟨_, G, wd, ts, tl, il, y, n, rfl, W.same s1, s1 _ _ htl, ilt, hf, ⟨W.same s1, hp, hc⟩, EndsR.all (fun y n hb ho => by unfold zdu; rw [if_pos ho]; simp) _ _, fun v H' s2 dv => q v H' (s1.trans s2) ?_⟩
 rw [← zgt f y n hf]
 exact dv
end
section
variable {P : Program} {w : World} {K : PySem.W.Frag} {mg : Str → Option Value} {base : Heap} {a : Adr} {d : Fds}
theorem zrp (T : Txt K mg a d) (LB : zgm mg base a.c_cases_of a.t_cases_of) : zbd P w K mg base CX0 19 a.f_cases d.f_cases ["wood", "yes", "no"] (spT a.t_cases_of zs9) := by
 have G_cases_of := zmd (P := P) (w := w) (base := base) T LB 9
 have G_every_tie := zdd (P := P) (w := w) (base := base) T
 refine T.K_cases.ok zrf (fun vs H Q E h => ?_) (fun cdv A outer s H vs Q E hr h => ?_)
 ·obtain ⟨_, wd, m, ts, y, n, rfl, _⟩ := h
  rfl
 obtain ⟨tb, wd, m, ts, y, n, rfl, W, m9, q⟩ := h
 have of := zgu m y n
 refine ⟨_, (zai (zam (zag G_cases_of hr.lv rfl T.g_cases_of T.K_cases_of.kp T.B_cases_of .nil zal (zaa (pv 0) (zaa (zag G_every_tie hr.lv rfl T.g_every_tie T.K_every_tie.kp T.B_every_tie .nil zal (zaa (pv 0) zac)) (zaa (pv 1) (zaa (pv 2) zac))))))), ?_⟩
 refine ⟨_, rfl, _, rfl, wd, m, ts, rfl, W, fun l H1 s1 nl hl => ?_⟩
 refine ⟨_, rfl, _, rfl, s1.tab tb, wd, m, ts, l, zf8 ts, y, n, rfl, W.same s1, hl, fun i hi => List.mem_range.mp hi, by omega, fun v H2 s2 dv => ?_⟩
 exact q v H2 (s1.trans s2) dv
end
section
variable {P : Program} {w : World} {K : PySem.W.Frag} {mg : Str → Option Value} {base : Heap} {a : Adr} {d : Fds}
theorem zge (T : Txt K mg a d) (f : Nat) (G_wares_in : f ≠ 0 → zbd P w K mg base CX0 (f + 1) a.f_wares_in d.f_wares_in ["yes", "tree"] (zir (f - 1))) : zbd P w K mg base CX0 (f + 2) a.f_wares_in d.f_wares_in ["yes", "tree"] (zir f) := by
 have G_with_option := zcb (P := P) (w := w) (base := base) T
 refine T.K_wares_in.ok zm8 (fun vs H Q E h => ?_) (fun cdv A outer s H vs Q E hr h => ?_)
 ·obtain ⟨y, t, v, rfl, _⟩ := h
  rfl
 obtain ⟨y, t, v, rfl, hd, hdp, f9, sml, q⟩ := h
 cases t with
 | ware =>
  refine ⟨_, zaf (za9 (zar zb4 (zan zkz (pv 1) zad (fun _ _ => rfl)) za5 (zaq _)) (zai (zam (zcn (zaa (pv 0) zac)))) zau) zel, ?_⟩
  obtain ⟨p, rfl, hp⟩ := zsf hd
  refine ⟨_, rfl, p, _, _, _, rfl, rfl, sqT hp, at0, rfl, _, rfl, ?_⟩
  refine zd5 rfl ?_
  refine ⟨_, rfl, small (by show 1 ≤ 1000; decide), fun l hl => ?_⟩
  exact q l _ (zaj hl _) hl zae
 | broken tt =>
  refine ⟨_, zaf (za9 (zar zb4 (zan zkz (pv 1) zad (fun _ _ => rfl)) za5 (zaq _)) zel zau) (zaf (za9 (zar zb4 (zan zkz (pv 1) zad (fun _ _ => rfl)) za5 (zaq _)) zel zau) (zai (zam (zcn zac)))), ?_⟩
  obtain ⟨p, rfl, hp⟩ := zpx hd
  refine ⟨_, rfl, p, _, _, _, rfl, rfl, sqT hp, at0, rfl, _, rfl, ?_⟩
  refine zb5 zmy ?_
  refine ⟨_, rfl, p, _, _, _, rfl, rfl, sqT hp, at0, rfl, _, rfl, ?_⟩
  refine zb5 zlf ?_
  refine ⟨small (by decide), fun l hl => ?_⟩
  exact q l _ (zaj hl _) hl zae
 | split k ta tb =>
  have hf0 : f ≠ 0 := fun z => by rw [z] at hdp; simp [CT.depth] at hdp
  have G_wares_in := G_wares_in hf0
  have hdp' : max ta.depth tb.depth + 1 ≤ f := hdp
  refine ⟨_, (zaf (za9 (zar zb4 (zan (ixT (K := K)) (pv 1) zad (fun _ _ => rfl)) za5 (zaq _)) (zai (zam (zcn (zaa (pv 0) zac)))) zau)
   (zaf (za9 (zar zb4 (zan (ixT (K := K)) (pv 1) zad (fun _ _ => rfl)) za5 (zaq _)) (zai (zam (zaz zqc (zag G_wares_in hr.lv rfl T.g_wares_in T.K_wares_in.kp T.B_wares_in .nil zal (zaa (zag G_with_option hr.lv rfl T.g_with_option T.K_with_option.kp T.B_with_option .nil zal (zaa (pv 0) (zaa (zan (ixT (K := K)) (pv 1) zad (fun _ _ => rfl)) zac))) (zaa (zan (ixT (K := K)) (pv 1) zad (fun _ _ => rfl)) zac))) (zag G_wares_in hr.lv rfl T.g_wares_in T.K_wares_in.kp T.B_wares_in .nil zal (zaa (pv 0) (zaa (zan (ixT (K := K)) (pv 1) zad (fun _ _ => rfl)) zac)))))) zau)
   (zai (zam (zcn zac))))), ?_⟩
  obtain ⟨p, va, vb, rfl, hp, da, db⟩ := zq0 hd
  obtain ⟨k1, sa, sb⟩ := sml
  refine ⟨_, rfl, p, _, _, _, rfl, rfl, sqT hp, at0, rfl, _, rfl, ?_⟩
  refine zb5 zn2 ?_
  refine ⟨_, rfl, p, _, _, _, rfl, rfl, sqT hp, at0, rfl, _, rfl, ?_⟩
  refine zd5 rfl ?_
  refine ⟨_, rfl, _, rfl, p, _, _, _, rfl, rfl, sqT hp, at1, y, k, rfl, k1, _, rfl, p, _, _, _, rfl, rfl, sqT hp, at2, y ||| 2 ^ k, ta, va, rfl, da, by omega, by omega, sa, fun l1 H1 s1 n1 h1 => ?_⟩
  refine ⟨_, rfl, _, rfl, p, _, _, _, rfl, rfl, sqT (s1 _ _ hp), at3, y, tb, vb, rfl, Dn.same s1 _ _ db, by omega, by omega, sb, fun l2 H2 s2 n2 h2 => ?_⟩
  have f1 := ze4 ta (y ||| 2 ^ k)
  have f2 := ze4 tb y
  have p1 : 2 ^ ta.depth ≤ 2 ^ 8 := Nat.pow_le_pow_right (by decide) (by omega)
  have p2 : 2 ^ tb.depth ≤ 2 ^ 8 := Nat.pow_le_pow_right (by decide) (by omega)
  refine ⟨l1, l2, _, _, rfl, rfl, s2 _ _ h1, h2, (by rw [List.length_map, List.length_map]; exact small (by omega)), fun l3 h3 => ?_⟩
  have e : zb2 (ta.leaves (y ||| 2 ^ k)) ++ zb2 (tb.leaves y) = zb2 ((CT.split k ta tb).leaves y) := by
   show _ = zb2 (ta.leaves (y ||| 2 ^ k) ++ tb.leaves y)
   rw [zb2, zb2, zb2, List.map_append]
  rw [e]
  exact q l3 _ ((s1.trans s2).trans (zaj h3 _)) ((s1.trans s2).free h3) zae
theorem zh1 (T : Txt K mg a d) : ∀ f : Nat, zbd P w K mg base CX0 (f + 2) a.f_wares_in d.f_wares_in ["yes", "tree"] (zir f)
 | 0 => zge T 0 fun h => absurd rfl h
 | f + 1 => zge T (f + 1) fun _ => zh1 T f
end
section
variable {P : Program} {w : World} {K : PySem.W.Frag} {mg : Str → Option Value} {base : Heap} {a : Adr} {d : Fds}
theorem zmj (T : Txt K mg a d) (LB : zgm mg base a.c_cases_of a.t_cases_of) : zbd P w K mg base CX0 20 a.f_wares d.f_wares ["wood"] (spT a.t_cases_of zs8) := by
 have G_cases := zrp (P := P) (w := w) (base := base) T LB
 have G_wares_in := zh1 (P := P) (w := w) (base := base) T 9
 have G_with_option := zcb (P := P) (w := w) (base := base) T
 refine T.K_wares.ok sc_wares (fun vs H Q E h => ?_) (fun cdv A outer s H vs Q E hr h => ?_)
 ·obtain ⟨_, wd, m, ts, rfl, _⟩ := h
  rfl
 obtain ⟨tb, wd, m, ts, rfl, W, m1, m9, q⟩ := h
 have of := zgu m 1 0
 have dp := ze1 (ts := ts) (il := zf8 ts) (m := m) 9 1 0
 have sml := ze0 (ts := ts) (il := zf8 ts) (m := m) (by omega) 9 1 0
 have pm := znq W.ok m1 9 (by omega)
 refine ⟨_, (zaf (zax (i := 1) sc_wares.nd rfl (Or.inl rfl) (zag G_with_option hr.lv rfl T.g_with_option T.K_with_option.kp T.B_with_option .nil zal (zaa zad (zaa zad zac))))
   (zai (zam (za1 zlh rfl T.m_sorted PyProof.Rows.boot_sorted (zaa (zag G_wares_in hr.lv rfl T.g_wares_in T.K_wares_in.kp T.B_wares_in .nil zal (zaa (pv 1) (zaa (zag G_cases hr.lv rfl T.g_cases T.K_cases.kp T.B_cases .nil zal (zaa (pv 0) (zaa (pv 1) (zaa zad zac)))) zac))) zac))))), ?_⟩
 refine ⟨0, 0, rfl, by decide, ?_⟩
 refine ⟨_, rfl, _, rfl, _, rfl, tb, wd, m, ts, 1, 0, rfl, W, m9, fun v H1 s1 dv => ?_⟩
 refine ⟨1, _, v, rfl, dv, dp, by omega, sml, fun l H2 s2 n2 hl2 => ?_⟩
 refine ⟨l, ((zb1 ts (zf8 ts) m 9 1 0).leaves 1).map (fun k : Nat => (k : Int)), rfl, SqL.of (by rw [hl2]; exact congrArg some (congrArg HO.lst (zj9 _).symm)), fun ms h1 h2 l3 h3 => ?_⟩
 rw [zmk h1 h2 pm (zna m ts), zj9]
 exact q l3 _ ((s1.trans s2).trans (zaj h3 _)) ((s1.trans s2).free h3) zae
end
section
variable {P : Program} {w : World} {K : PySem.W.Frag} {mg : Str → Option Value} {base : Heap} {a : Adr} {d : Fds}
theorem zg8 (T : Txt K mg a d) (f : Nat) (G_first_keeping : f ≠ 0 → zbd P w K mg base CX0 (f + 6) a.f_first_keeping d.f_first_keeping ["wood", "ties", "yes", "no"] (zkx (f - 1))) : zbd P w K mg base CX0 (f + 7) a.f_first_keeping d.f_first_keeping ["wood", "ties", "yes", "no"] (zkx f) := by
 have G_first_sure_broken := zds (P := P) (w := w) (base := base) T
 have G_open_options := zc6 (P := P) (w := w) (base := base) T
 have G_with_option := zcb (P := P) (w := w) (base := base) T
 refine T.K_first_keeping.ok sc_first_keeping (fun vs H Q E h => ?_) (fun cdv A outer s H vs Q E hr h => ?_)
 ·obtain ⟨wd, m, ts, tl, il, y, n, rfl, _⟩ := h
  rfl
 obtain ⟨wd, m, ts, tl, il, y, n, rfl, W, htl, ilt, hf, q⟩ := h
 have m9 := W.m9
 have rest : ∃ t, PSs (zdh CX0 P w K mg base ["wood", "ties", "yes", "no", "left", "k", "found"] "first_keeping" (zab za7) a.f_first_keeping cdv A outer s H E).nox ((zah za7).drop 4) t ∧ (∀ (k : Nat) (v4 : Option V) (H1 : Hp), Same H H1 → (zay m y n).getLast? = some k → zba ts il y n = none → t { nx := fun _ H' => Q .non H', rt := Q } [some (.ref wd), some (.ref tl), some (.int y), some (.int n), v4, some (.int (k : Int)), none] H1) := by
  by_cases hf0 : f = 0
  ·refine ⟨zk6, zel, ?_⟩
   intro k v4 H1 s1 ho hb
   rw [hf0] at hf
   rw [List.eq_nil_of_length_eq_zero (Nat.le_zero.mp hf)] at ho
   cases ho
  ·have G_first_keeping := G_first_keeping hf0
   refine ⟨_, (zaf (zax (i := 6) sc_first_keeping.nd rfl (Or.inl rfl) (zag G_first_keeping hr.lv rfl T.g_first_keeping T.K_first_keeping.kp T.B_first_keeping .nil zal (zaa (pv 0) (zaa (pv 1) (zaa (pv 2) (zaa (zag G_with_option hr.lv rfl T.g_with_option T.K_with_option.kp T.B_with_option .nil zal (zaa (pv 3) (zaa (pv 5) zac))) zac))))))
   (zaf (za9 (zar zg2 (pv 6) zdc (zaq _)) (zai (zam (pv 6))) zau)
   (zai (zam (zag G_first_keeping hr.lv rfl T.g_first_keeping T.K_first_keeping.kp T.B_first_keeping .nil zal (zaa (pv 0) (zaa (pv 1) (zaa (zag G_with_option hr.lv rfl T.g_with_option T.K_with_option.kp T.B_with_option .nil zal (zaa (pv 2) (zaa (pv 5) zac))) (zaa (pv 3) zac))))))))), ?_⟩
   intro k v4 H1 s1 ho hb
   have hk := (zkd ho).1
   have km := (mem_open.mp hk).1
   have l1 := zdn hk
   have l2 := zdl hk
   have e : zc1 ts il m f y n = (match zc1 ts il m (f - 1) y (n ||| 2 ^ k) with | some s => some s | none => zc1 ts il m (f - 1) (y ||| 2 ^ k) n) := by
    obtain ⟨f', rfl⟩ : ∃ f', f = f' + 1 := ⟨f - 1, by omega⟩
    exact zni hb ho
   refine ⟨_, rfl, _, rfl, _, rfl, _, rfl, _, rfl, n, k, rfl, by omega, wd, m, ts, tl, il, y, n ||| 2 ^ k, rfl, W.same s1, s1 _ _ htl, ilt, by omega, fun H2 s2 => ?_⟩
   obtain ⟨o, ho2⟩ : ∃ o, zc1 ts il m (f - 1) y (n ||| 2 ^ k) = o := ⟨_, rfl⟩
   rw [ho2]
   rcases o with _ | g
   ·refine ⟨_, rfl, rfl, _, rfl, ?_⟩
    refine ze6 rfl ?_
    refine ⟨_, rfl, _, rfl, _, rfl, _, rfl, y, k, rfl, by omega, _, rfl, wd, m, ts, tl, il, y ||| 2 ^ k, n, rfl, W.same (s1.trans s2), (s1.trans s2) _ _ htl, ilt, by omega, fun H3 s3 => ?_⟩
    have q1 := q H3 ((s1.trans s2).trans s3)
    rw [e, ho2] at q1
    exact q1
   ·refine ⟨_, rfl, rfl, _, rfl, ?_⟩
    refine zng (by intro z; cases z) ?_
    have q1 := q H2 (s1.trans s2)
    rw [e, ho2] at q1
    exact ⟨_, rfl, q1⟩
 obtain ⟨t4, h4, r4⟩ := rest
 refine ⟨_, (zaf (za9 (zar zg2 (zag G_first_sure_broken hr.lv rfl T.g_first_sure_broken T.K_first_sure_broken.kp T.B_first_sure_broken .nil zal (zaa (pv 0) (zaa (pv 1) (zaa (pv 2) (zaa (pv 3) zac))))) zdc (zaq _)) (zai (zam zdc)) zau)
   (zaf (zax (i := 4) sc_first_keeping.nd rfl (Or.inl rfl) (zag G_open_options hr.lv rfl T.g_open_options T.K_open_options.kp T.B_open_options .nil zal (zaa (zan (ixT (K := K)) (pv 0) zad (fun _ _ => rfl)) (zaa (pv 2) (zaa (pv 3) zac)))))
   (zaf (za9 (zar zb4 (za1 (ze9 (K := K)) rfl T.m_len PySem.boot_len (zaa (pv 4) zac)) zad (zaq _)) (zai (zam (pv 2))) zau)
   (zaf (zax (i := 5) sc_first_keeping.nd rfl (Or.inl rfl) (zan (ixL (K := K)) (pv 4) (zo2 zl0 zad) (fun _ _ => rfl)))
   h4)))), ?_⟩
 refine ⟨_, rfl, _, rfl, _, rfl, _, rfl, wd, m, ts, tl, il, y, n, rfl, W, htl, ilt, fun H1 s1 => ?_⟩
 obtain ⟨o, ho⟩ : ∃ o, zba ts il y n = o := ⟨_, rfl⟩
 rw [ho]
 obtain ⟨xs, ys, ⟨tb, tc, hw, hb, hc⟩, dn⟩ := W.ex
 rcases o with _ | t
 ·refine ⟨rfl, _, rfl, ?_⟩
  refine ze6 rfl ?_
  refine ⟨_, rfl, wd, _, _, _, rfl, rfl, sqT (s1 _ _ hw), at0, _, rfl, _, rfl, m, y, n, rfl, by omega, fun l H2 s2 nl hl => ?_⟩
  refine ⟨_, rfl, l, _, rfl, .inl (SqL.of hl), rfl, _, rfl, ?_⟩
  rw [zjk, List.length_map]
  by_cases hn : zay m y n = []
  ·refine zd5 (by rw [hn]; rfl) ?_
   have q1 := q H2 (s1.trans s2)
   have e : zc1 ts il m f y n = some y := by
    exact zn5 ho hn
   rw [e] at q1
   exact ⟨_, rfl, q1⟩
  ·refine zb5 (fun z => hn (List.eq_nil_of_length_eq_zero z)) ?_
   obtain ⟨k, hk⟩ : ∃ k, (zay m y n).getLast? = some k := by
    cases e : (zay m y n).getLast? with
    | none => exact absurd (List.getLast?_eq_none_iff.mp e) hn
    | some k => exact ⟨k, rfl⟩
   have hat : atI (zb2 (zay m y n)) (-1) = some (.int (k : Int)) := by
    obtain ⟨l', e⟩ := List.getLast?_eq_some_iff.mp hk
    rw [e]
    exact zse l' k
   refine ⟨_, rfl, _, rfl, l, _, _, _, rfl, rfl, SqL.of hl, hat, ?_⟩
   exact r4 k _ H2 (s1.trans s2) hk ho
 ·refine ⟨rfl, _, rfl, ?_⟩
  refine zng (by intro z; cases z) ?_
  have q1 := q H1 s1
  have e : zc1 ts il m f y n = none := by
   exact zld ho
  rw [e] at q1
  exact q1
theorem zev (T : Txt K mg a d) : ∀ f : Nat, zbd P w K mg base CX0 (f + 7) a.f_first_keeping d.f_first_keeping ["wood", "ties", "yes", "no"] (zkx f)
 | 0 => zg8 T 0 fun h => absurd rfl h
 | f + 1 => zg8 T (f + 1) fun _ => zev T f
end
section
variable {P : Program} {w : World} {K : PySem.W.Frag} {mg : Str → Option Value} {base : Heap} {a : Adr} {d : Fds}
theorem zf9 (T : Txt K mg a d) : zbd P w K mg base CX0 17 a.f_first_ware d.f_first_ware ["wood", "yes", "no"] zq2 := by
 have G_has := zdx (P := P) (w := w) (base := base) T
 have G_with_option := zcb (P := P) (w := w) (base := base) T
 have G_every_tie := zdd (P := P) (w := w) (base := base) T
 have G_first_keeping := zev (P := P) (w := w) (base := base) T 9
 refine T.K_first_ware.ok zjz (fun vs H Q E h => ?_) (fun cdv A outer s H vs Q E hr h => ?_)
 ·obtain ⟨wd, m, ts, y, n, rfl, _⟩ := h
  rfl
 obtain ⟨wd, m, ts, y, n, rfl, W, m9, m1, S, q⟩ := h
 refine ⟨_, (zaf (za9 (zc7 (zag G_has hr.lv rfl T.g_has T.K_has.kp T.B_has .nil zal (zaa (pv 2) (zaa zad zac)))) (zai (zam zdc)) zau)
   (zai (zam (zag G_first_keeping hr.lv rfl T.g_first_keeping T.K_first_keeping.kp T.B_first_keeping .nil zal (zaa (pv 0) (zaa (zag G_every_tie hr.lv rfl T.g_every_tie T.K_every_tie.kp T.B_every_tie .nil zal (zaa (pv 0) zac)) (zaa (zag G_with_option hr.lv rfl T.g_with_option T.K_with_option.kp T.B_with_option .nil zal (zaa (pv 1) (zaa zad zac))) (zaa (pv 2) zac)))))))), ?_⟩
 refine ⟨_, rfl, _, _, rfl, _, rfl, ?_⟩
 have e0 : zlw (n : Int) 0 = n.testBit 0 := za6 n 0
 rw [e0]
 refine zcq (fun c => ?_) (fun c => ?_)
 ·refine q H none (Same.refl H) fun s' sm hs => ?_
  unfold zbt
  rw [hs.2 0 c, Bool.false_and]
 ·have c' := Bool.eq_false_iff.mpr c
  have of := zgu m (y ||| 2 ^ 0) n
  have S' : Stand m (y ||| 2 ^ 0) n := ⟨zqm S.dj c', zod S.ym (by omega), S.nm⟩
  refine ⟨_, rfl, _, rfl, wd, m, ts, rfl, W, fun l H1 s1 nl hl => ?_⟩
  refine ⟨_, rfl, y, 0, rfl, by omega, _, rfl, wd, m, ts, l, zf8 ts, y ||| 2 ^ 0, n, rfl, W.same s1, hl, fun i hi => List.mem_range.mp hi, by omega, fun H2 s2 => ?_⟩
  have F := zfd (il := zf8 ts) W.ok 9 (y ||| 2 ^ 0) n (by omega) S'
  have iff : ∀ s', InS (y ||| 2 ^ 0) n s' ∧ zee ts (zf8 ts) s' = true ↔ InS y n s' ∧ zbt ts s' = true := fun s' => by
   unfold zbt
   rw [zh7, Bool.and_eq_true]
   constructor
   ·rintro ⟨a1, a2⟩
    exact ⟨⟨fun j hj => a1.1 j (by rw [zc0, hj, Bool.true_or]), a1.2⟩, a1.1 0 (by rw [zc0, decide_eq_true rfl, Bool.or_true]), a2⟩
   ·rintro ⟨a1, a2, a3⟩
    refine ⟨⟨fun j hj => ?_, a1.2⟩, a3⟩
    rw [zc0, Bool.or_eq_true, decide_eq_true_eq] at hj
    rcases hj with z | rfl
    ·exact a1.1 j z
    ·exact a2
  generalize zc1 ts (zf8 ts) m 9 (y ||| 2 ^ 0) n = o at F ⊢
  refine q H2 o (s1.trans s2) ?_
  cases o with
  | none =>
   intro s' sm hs
   cases e : zbt ts s' with
   | false => rfl
   | true =>
    have := (iff s').mpr ⟨hs, e⟩
    rw [F s' sm this.1] at this
    cases this.2
  | some g =>
   obtain ⟨b1, b2, b3, b4⟩ := F
   obtain ⟨c1, c2⟩ := (iff g).mp ⟨b2, b3⟩
   refine ⟨b1, c1, c2, fun s' sm hs hw => ?_⟩
   have := (iff s').mpr ⟨hs, hw⟩
   exact b4 s' sm this.1 this.2
end
section
variable {P : Program} {w : World} {K : PySem.W.Frag} {mg : Str → Option Value} {base : Heap} {a : Adr} {d : Fds}
theorem zi6 (T : Txt K mg a d) : zbd P w K mg base CX0 1 a.f_check_alike d.f_check_alike ["one", "other"] zqr := by
 refine T.K_check_alike.ok zit (fun vs H Q E h => ?_) (fun cdv A outer s H vs Q E hr h => ?_)
 ·obtain ⟨w1, w2, m, t1, t2, rfl, _⟩ := h
  rfl
 obtain ⟨w1, w2, m, t1, t2, rfl, W1, W2, q⟩ := h
 obtain ⟨xs, ys, ⟨tb, tc, hw, hb, hc⟩, _⟩ := W1.ex
 obtain ⟨xs', ys', ⟨tb', tc', hw', hb', hc'⟩, _⟩ := W2.ex
 refine ⟨_, (zai (za9 (zar zkp (zan (ixT (K := K)) (pv 0) zad (fun _ _ => rfl)) (zan (ixT (K := K)) (pv 1) zad (fun _ _ => rfl)) (zaq _)) (zai zi0) zau)), ?_⟩
 refine ⟨_, rfl, w1, _, _, _, rfl, rfl, sqT hw, at0, _, rfl, w2, _, _, _, rfl, rfl, sqT hw', at0, rfl, _, rfl, ?_⟩
 refine ze6 rfl ?_
 exact q
end
section
variable {P : Program} {w : World} {K : PySem.W.Frag} {mg : Str → Option Value} {base : Heap} {a : Adr} {d : Fds}
theorem zla (T : Txt K mg a d) : zbd P w K mg base CX0 6 a.f_kept_leaf d.f_kept_leaf ["other", "yes", "no"] zsw := by
 have G_all_sure_kept := zhe (P := P) (w := w) (base := base) T
 refine T.K_kept_leaf.ok zln (fun vs H Q E h => ?_) (fun cdv A outer s H vs Q E hr h => ?_)
 ·obtain ⟨wd, m, ts, y, n, rfl, _⟩ := h
  rfl
 obtain ⟨wd, m, ts, y, n, rfl, W, q⟩ := h
 refine ⟨_, (zaf (za9 (zc7 (zag G_all_sure_kept hr.lv rfl T.g_all_sure_kept T.K_all_sure_kept.kp T.B_all_sure_kept .nil zal (zaa (pv 0) (zaa (pv 1) (zaa (pv 2) zac))))) (zai (zam (za8 (zaa za5 zac)))) zau)
   (zai (zam zdc))), ?_⟩
 refine ⟨_, rfl, _, rfl, _, rfl, wd, m, ts, y, n, rfl, W, fun H1 s1 => ?_⟩
 refine ⟨_, rfl, ?_⟩
 refine zcq (fun c => ?_) (fun c => ?_)
 ·refine ⟨small (by show 1 ≤ 1000; decide), fun tp htp => ?_⟩
  refine q _ _ (s1.trans (zaj htp (.tup [.str ("kept" : Str)]))) ?_
  unfold zg9 zdv
  rw [if_pos c]
  exact ⟨⟨tp, _, rfl, zae, _, _, rfl, rfl, rfl⟩, tp, rfl⟩
 ·refine q _ _ s1 ?_
  unfold zg9 zdv
  rw [if_neg c]
end
section
variable {P : Program} {w : World} {K : PySem.W.Frag} {mg : Str → Option Value} {base : Heap} {a : Adr} {d : Fds}
theorem zki (T : Txt K mg a d) (LBc : zgm mg base a.c_cases_of a.t_cases_of) (LB : zgm mg base a.c_within a.t_within) : zbd P w K mg base CX0 21 a.f_within d.f_within ["one", "other"] (spT a.t_cases_of (spT a.t_within zpf)) := by
 have G_check_alike := zi6 (P := P) (w := w) (base := base) T
 have G_wares := zmj (P := P) (w := w) (base := base) T LBc
 have G_is_ware := zn7 (P := P) (w := w) (base := base) T
 have G_with_option := zcb (P := P) (w := w) (base := base) T
 have G_every_tie := zdd (P := P) (w := w) (base := base) T
 refine T.K_within.okC sc_within (fun vs H Q E h => ?_) (fun cdv A outer s H vs Q E hcd hr h => ?_)
 ·obtain ⟨_, _, w1, w2, m, t1, t2, rfl, _⟩ := h
  rfl
 obtain ⟨tb, tb2, w1, w2, m, t1, t2, rfl, W1, W2, m1, m9, q⟩ := h
 have LC : ((zdh CX0 P w K mg base ["one", "other", "outside", "root"] "within" (zab zb3) a.f_within cdv A outer s H E).nox).env.code = .ref a.c_within := hcd.symm.trans T.code_within
 have LF : ∀ y ∈ (zg3 (zik (zvl (zs5 (zah zb3)[4]?)))).names, y.2 = .free → ∃ c, ((zdh CX0 P w K mg base ["one", "other", "outside", "root"] "within" (zab zb3) a.f_within cdv A outer s H E).nox).env.cells.lookup y.1 = some c := by
  intro y hy hz
  have e : y = (("other" : Str), NameKind.free) := by
   have h := (by decide +kernel : ∀ y ∈ (zg3 (zik (zvl (zs5 (zah zb3)[4]?)))).names, y.2 = NameKind.free → y = (("other" : Str), NameKind.free))
   exact h y hy hz
  subst e
  exact ⟨_, rfl⟩
 have last : ∃ t, PSs ((zdh CX0 P w K mg base ["one", "other", "outside", "root"] "within" (zab zb3) a.f_within cdv A outer s H E).nox) ((zah zb3).drop 4) t ∧ ∀ (v2 : Option V) (H2 : Hp), Same H H2 → outside m t1 t2 = [] → t { nx := fun _ H' => Q .non H', rt := Q } [some (.ref w1), some (.ref w2), v2, some (.int 1)] H2 := by
  refine ⟨_, (zai (zam (za8 (zaa za5 (zaa (zmm (k := 17) hr.lv rfl T.g_told_tree T.K_told_tree.kp T.B_told_tree (fun _ => rfl) (zaa (pv 0) (zaa (zag G_every_tie hr.lv rfl T.g_every_tie T.K_every_tie.kp T.B_every_tie .nil zal (zaa (pv 0) zac)) (zaa (pv 3) (zaa zad (zaa (zq7 LC LB rfl LF) zac)))))) zac))))), ?_⟩
  intro v2 H2 s2 ho
  refine ⟨_, rfl, _, rfl, w1, m, t1, rfl, W1.same s2, fun tl H3 s3 ntl htl => ?_⟩
  have s23 := s2.trans s3
  refine ⟨_, rfl, s23.tab tb2, fun p c' H4 np s4 hp hc base' ci _ _ => ?_⟩
  obtain ⟨cw, u, e1, r1, ic⟩ := ci 1 "other" (.ref w2) rfl rfl rfl
  have hcells : ((zdh CX0 P w K mg base ["one", "other", "outside", "root"] "within" (zab zb3) a.f_within cdv A outer s H E).nox).env.cells = [(("other" : Str), cw)] := by
   have z : cw = s.heap.objs.size + 1 := (Option.some.inj (show some (s.heap.objs.size + 1) = some cw from e1)).symm
   rw [z]
   rfl
  have G_kept_leaf := zla (P := P) (w := w) (base := base') T
  have L := zqo (P := P) (w := w) (K := K) (mg := mg) (base := base') (ps := ["yes", "no"]) (fr := ["other"]) (fv := [.ref w2]) (k := 6) (leaf := zdv t2) (fun H => WoodT H w2 m t2) hp ⟨rfl, rfl, rfl, by decide +kernel, by decide +kernel, by decide +kernel, by decide +kernel⟩
   (fun x cc h => by
    have h' := zca LF h
    rw [hcells] at h'
    obtain ⟨_, rfl⟩ := zdi h'
    exact ⟨_, ic⟩)
   (fun x y cc h1 h2 => by
    have h1' := zca LF h1
    have h2' := zca LF h2
    rw [hcells] at h1' h2'
    rw [(zdi h1').1, (zdi h2').1])
   (fun y hy hz => by
    obtain ⟨c, hc⟩ := LF y hy hz
    exact ⟨c, zfx LF (by rw [← hz]; exact hy) hc⟩)
   (fun i x v h1 h2 => by
    cases i with
    | zero =>
     cases h1
     cases h2
     exact ⟨cw, u, zfx LF (by decide +kernel) e1, r1, ic⟩
    | succ i => cases h1)
   rfl (fun _ _ _ => rfl) rfl
   (fun q A outer s H y n Q hr W0 q' => ⟨_, zag G_kept_leaf (hr.mono (by decide)) rfl T.g_kept_leaf T.K_kept_leaf.kp T.B_kept_leaf .nil zal (zaa (pv 2) (zaa (pv 0) (zaa (pv 1) zac))), ⟨_, rfl, _, rfl, _, rfl, w2, m, t2, y, n, rfl, W0, q'⟩⟩)
  have G := zey (P := P) (w := w) (base := base') (m := m) T L (.all fun us hl => match us, hl with | [_, _], _ => rfl) zow (fun H H' s h => ⟨h.1.same s, s _ _ h.2.1, s _ _ h.2.2⟩) (fun H h => h.2.1) 9
  have of := zgu m 1 0
  have s24 := s23.trans s4
  refine ⟨_, G, w1, t1, tl, zf8 t1, 1, 0, rfl, W1.same s24, s4 _ _ htl, fun i hi => List.mem_range.mp hi, by omega, ⟨W2.same s24, hp, hc⟩, zl8 W1.ok W2.ok ho m1, fun v H5 s5 dv => ?_⟩
  refine ⟨small (by show 2 ≤ 1000; decide), fun tp htp => ?_⟩
  have s6 := zaj htp (.tup [.str ("in" : Str), v])
  refine q _ _ ((s24.trans s5).trans s6) ?_
  unfold zfz
  rw [ho]
  exact ⟨tp, _, rfl, zae, _, _, rfl, rfl, _, _, rfl, Dn.same s6 _ _ dv, rfl⟩
 obtain ⟨t4, h4, r4⟩ := last
 refine ⟨_, (zaf (zeg (zag G_check_alike hr.lv rfl T.g_check_alike T.K_check_alike.kp T.B_check_alike .nil zal (zaa (pv 0) (zaa (pv 1) zac))))
   (zaf (zjf (i := 2) sc_within.nd rfl rfl rfl (sc0 := zab zb3) (XN := ["one", "other", "outside", "root"]) (N' := ["ware", "other"]) (n := 1) (kp := [1]) rfl (piL (K := K) (zag G_wares hr.lv rfl T.g_wares T.K_wares.kp T.B_wares .nil zal (zaa (pv 0) zac))) rfl rfl (by decide +kernel) (fun _ _ _ _ _ => (za3 (i := 0) (by show List.Nodup (["ware", "other"] : List Str); decide +kernel) rfl (Or.inl rfl))) (fun _ _ _ _ _ => (zef (zhn (zc7 (zag G_is_ware hr.lv rfl T.g_is_ware T.K_is_ware.kp T.B_is_ware .nil zal (zaa (pv 1) (zaa (pv 0) zac))))))) (fun _ _ _ _ _ => (pv 0)))
   (zaf (za9 (zar zh2 (za1 (ze9 (K := K)) rfl T.m_len PySem.boot_len (zaa (pv 2) zac)) zad (zaq _)) (zai (zam (za8 (zaa za5 (zaa (zan (ixL (K := K)) (pv 2) zad (fun _ _ => rfl)) zac))))) zau)
   (zaf (zax (i := 3) sc_within.nd rfl (Or.inl rfl) (zag G_with_option hr.lv rfl T.g_with_option T.K_with_option.kp T.B_with_option .nil zal (zaa zad (zaa zad zac))))
   h4)))), ?_⟩
 refine ⟨_, rfl, _, rfl, w1, w2, m, t1, t2, rfl, W1, W2, ?_⟩
 have few := zkh (m := m) (ts := t1) m9
 refine ⟨_, rfl, tb, w1, m, t1, rfl, W1, m1, m9, fun l H1 s1 nl hl => ?_⟩
 refine ⟨l, rfl, ⟨_, SqL.of hl⟩, ?_⟩
 have lw : (zb2 (zco m t1)).length = (zco m t1).length := List.length_map _
 refine zim (K := K) (a := l) (xs := zb2 (zco m t1)) (fun i ys σ H2 => (∃ v, σ = [v, some (.ref w2)]) ∧ Same H1 H2 ∧ ys = zb2 (((zco m t1).take i).filter fun s => !zbt t2 s)) ⟨⟨none, rfl⟩, Same.refl _, rfl⟩ (fun i ys σ H2 hi pv => ?_) (fun i ys σ H2 hi pv => ?_) (fun i x ys σ H2 hx pv => ?_) (fun ys σ H2 pv ol hol => ?_)
 ·obtain ⟨_, _, rfl⟩ := pv
  rw [List.length_map]
  refine small (Nat.le_trans (List.length_filter_le _ _) ?_)
  rw [List.length_take]
  omega
 ·exact SqL.of (pv.2.1 _ _ hl)
 ·obtain ⟨⟨v, rfl⟩, s2, rfl⟩ := pv
  rw [List.getElem?_map] at hx
  obtain ⟨sw, hsw, rfl⟩ := Option.map_eq_some_iff.mp hx
  have et : (zco m t1).take (i + 1) = (zco m t1).take i ++ [sw] := by rw [List.take_add_one, hsw, Option.toList_some]
  refine ⟨_, rfl, _, rfl, w2, m, t2, sw, rfl, W2.same (s1.trans s2), fun H3 s3 => ?_⟩
  refine ⟨_, rfl, ?_⟩
  cases hk : zbt t2 sw
  ·refine zok ?_
   refine ⟨_, rfl, ⟨_, rfl⟩, s2.trans s3, ?_⟩
   rw [et, List.filter_append, List.filter_cons_of_pos (by rw [hk]; rfl)]
   show _ = List.map _ (_ ++ _)
   rw [List.map_append]
   rfl
  ·refine zhk ?_
   refine ⟨⟨_, rfl⟩, s2.trans s3, ?_⟩
   rw [et, List.filter_append, List.filter_cons_of_neg (by rw [hk]; decide), List.filter_nil, List.append_nil]
 obtain ⟨_, s2, rfl⟩ := pv
 rw [lw, List.take_length] at *
 have s3 := zaj hol (.lst (zb2 ((zco m t1).filter fun s => !zbt t2 s)))
 have hol3 : L2.upd H2 ol (.lst (zb2 ((zco m t1).filter fun s => !zbt t2 s))) ol = some (.lst (zb2 (outside m t1 t2))) := zae
 have s13 := (s1.trans s2).trans s3
 generalize L2.upd H2 ol (.lst (zb2 ((zco m t1).filter fun s => !zbt t2 s))) = H3 at s3 hol3 s13 ⊢
 refine ⟨_, rfl, ol, _, rfl, .inl (SqL.of hol3), _, _, rfl, rfl, _, rfl, ?_⟩
 cases ho : outside m t1 t2 with
 | nil =>
  rw [ho] at hol3
  refine zhc (by rfl) ?_
  refine ⟨0, 0, rfl, by decide, ?_⟩
  exact r4 _ _ s13 ho
 | cons so r =>
  rw [ho] at hol3
  refine zj3 (decide_eq_true (by rw [List.length_map, List.length_cons]; omega)) ?_
  refine ⟨_, rfl, ol, _, _, _, rfl, rfl, SqL.of hol3, at0, small (by show 2 ≤ 1000; decide), fun tp htp => ?_⟩
  have s4 := zaj htp (.tup [.str ("out" : Str), .int (so : Int)])
  refine q _ _ (s13.trans s4) ?_
  unfold zfz
  rw [ho]
  exact ⟨tp, _, rfl, zae, _, _, rfl, rfl, _, _, rfl, rfl, rfl⟩
end
section
variable {P : Program} {w : World} {K : PySem.W.Frag} {mg : Str → Option Value} {base : Heap} {a : Adr} {d : Fds}
theorem znk (T : Txt K mg a d) (LBc : zgm mg base a.c_cases_of a.t_cases_of) (LB : zgm mg base a.c_within a.t_within) : zbd P w K mg base CX0 22 a.f_compared d.f_compared ["one", "other"] (spT a.t_cases_of (spT a.t_within znv)) := by
 have G_within := zki (P := P) (w := w) (base := base) T LBc LB
 refine T.K_compared.ok sc_compared (fun vs H Q E h => ?_) (fun cdv A outer s H vs Q E hr h => ?_)
 ·obtain ⟨_, _, w1, w2, m, t1, t2, rfl, _⟩ := h
  rfl
 obtain ⟨ta, tb, w1, w2, m, t1, t2, rfl, W1, W2, m1, m9, q⟩ := h
 refine ⟨_, (zaf (zax (i := 2) sc_compared.nd rfl (Or.inl rfl) (zag G_within hr.lv rfl T.g_within T.K_within.kp T.B_within .nil zal (zaa (pv 0) (zaa (pv 1) zac))))
   (zaf (zax (i := 3) sc_compared.nd rfl (Or.inl rfl) (zag G_within hr.lv rfl T.g_within T.K_within.kp T.B_within .nil zal (zaa (pv 1) (zaa (pv 0) zac))))
   (zaf (za9 (PW.pt (zhu (zar zb4 (zan (ixT (K := K)) (pv 2) zad (fun _ _ => rfl)) za5 (zaq _)) (zf3 (zar zb4 (zan (ixT (K := K)) (pv 3) zad (fun _ _ => rfl)) za5 (zaq _))))) (zai (zam (za8 (zaa za5 (zaa (zan (ixT (K := K)) (pv 2) zad (fun _ _ => rfl)) (zaa (zan (ixT (K := K)) (pv 3) zad (fun _ _ => rfl)) zac)))))) zau)
   (zaf (za9 (zar zb4 (zan (ixT (K := K)) (pv 2) zad (fun _ _ => rfl)) za5 (zaq _)) (zai (zam (za8 (zaa za5 (zaa (zan (ixT (K := K)) (pv 2) zad (fun _ _ => rfl)) (zaa (zan (ixT (K := K)) (pv 3) zad (fun _ _ => rfl)) zac)))))) zau)
   (zaf (za9 (zar zb4 (zan (ixT (K := K)) (pv 3) zad (fun _ _ => rfl)) za5 (zaq _)) (zai (zam (za8 (zaa za5 (zaa (zan (ixT (K := K)) (pv 3) zad (fun _ _ => rfl)) (zaa (zan (ixT (K := K)) (pv 2) zad (fun _ _ => rfl)) zac)))))) zau)
   (zai (zam (za8 (zaa za5 (zaa (zan (ixT (K := K)) (pv 2) zad (fun _ _ => rfl)) (zaa (zan (ixT (K := K)) (pv 3) zad (fun _ _ => rfl)) zac))))))))))), ?_⟩
 refine ⟨_, rfl, _, rfl, ta, tb, w1, w2, m, t1, t2, rfl, W1, W2, m1, m9, fun v1 H1 s1 d1 => ?_⟩
 refine ⟨_, rfl, _, rfl, s1.tab ta, s1.tab tb, w2, w1, m, t2, t1, rfl, W2.same s1, W1.same s1, m1, m9, fun v2 H2 s2 d2 => ?_⟩
 have s12 := s1.trans s2
 rw [ziz] at d1 d2
 replace d1 := Dn.same s2 _ _ d1
 obtain ⟨p1, _, rfl, hp1, x1, _, rfl, hx1, y1, _, rfl, hy1, rfl⟩ := zda d1
 obtain ⟨p2, _, rfl, hp2, x2, _, rfl, hx2, y2, _, rfl, hy2, rfl⟩ := zda d2
 have fin : ∀ (x : Str) (p q' : V) (d e : PyData), Dn H2 d p → Dn H2 e q' → zqp m t1 t2 = .tuple [.str x, d, e] → ∀ tp, H2 tp = none → Q (.ref tp) (L2.upd H2 tp (.tup [.str x, p, q'])) := by
  intro x p q' d e hd he ec tp htp
  have s3 := zaj htp (.tup [.str x, p, q'])
  refine q _ _ (s12.trans s3) ?_
  rw [ec]
  exact ⟨tp, _, rfl, zae, _, _, rfl, rfl, _, _, rfl, Dn.same s3 _ _ hd, _, _, rfl, Dn.same s3 _ _ he, rfl⟩
 unfold zqp at fin
 cases b1 : wIn m t1 t2 <;> cases b2 : wIn m t2 t1 <;> rw [b1] at hx1 fin <;> rw [b2] at hx2 fin
 ·cases (show x1 = .str ("out" : Str) from hx1)
  cases (show x2 = .str ("out" : Str) from hx2)
  refine ⟨_, rfl, p1, _, _, _, rfl, rfl, sqT hp1, at0, rfl, _, rfl, ?_⟩
  refine zhc (by decide +kernel) ?_
  refine zhk ?_
  refine ⟨_, rfl, p1, _, _, _, rfl, rfl, sqT hp1, at0, rfl, _, rfl, ?_⟩
  refine zhc (by decide +kernel) ?_
  refine ⟨_, rfl, p2, _, _, _, rfl, rfl, sqT hp2, at0, rfl, _, rfl, ?_⟩
  refine zhc (by decide +kernel) ?_
  exact ⟨_, rfl, p1, _, _, _, rfl, rfl, sqT hp1, at1, _, rfl, p2, _, _, _, rfl, rfl, sqT hp2, at1, small (by show 3 ≤ 1000; decide), fin _ _ _ _ _ hy1 hy2 (zmw _ _ _)⟩
 ·cases (show x1 = .str ("out" : Str) from hx1)
  cases (show x2 = .str ("in" : Str) from hx2)
  refine ⟨_, rfl, p1, _, _, _, rfl, rfl, sqT hp1, at0, rfl, _, rfl, ?_⟩
  refine zhc (by decide +kernel) ?_
  refine zhk ?_
  refine ⟨_, rfl, p1, _, _, _, rfl, rfl, sqT hp1, at0, rfl, _, rfl, ?_⟩
  refine zhc (by decide +kernel) ?_
  refine ⟨_, rfl, p2, _, _, _, rfl, rfl, sqT hp2, at0, rfl, _, rfl, ?_⟩
  refine zj3 (by decide +kernel) ?_
  exact ⟨_, rfl, p2, _, _, _, rfl, rfl, sqT hp2, at1, _, rfl, p1, _, _, _, rfl, rfl, sqT hp1, at1, small (by show 3 ≤ 1000; decide), fin _ _ _ _ _ hy2 hy1 (zp1 _ _ _)⟩
 ·cases (show x1 = .str ("in" : Str) from hx1)
  cases (show x2 = .str ("out" : Str) from hx2)
  refine ⟨_, rfl, p1, _, _, _, rfl, rfl, sqT hp1, at0, rfl, _, rfl, ?_⟩
  refine zj3 (by decide +kernel) ?_
  refine ⟨_, rfl, p2, _, _, _, rfl, rfl, sqT hp2, at0, rfl, _, rfl, ?_⟩
  refine zhc (by decide +kernel) ?_
  refine ⟨_, rfl, p1, _, _, _, rfl, rfl, sqT hp1, at0, rfl, _, rfl, ?_⟩
  refine zj3 (by decide +kernel) ?_
  exact ⟨_, rfl, p1, _, _, _, rfl, rfl, sqT hp1, at1, _, rfl, p2, _, _, _, rfl, rfl, sqT hp2, at1, small (by show 3 ≤ 1000; decide), fin _ _ _ _ _ hy1 hy2 (zqz _ _ _)⟩
 ·cases (show x1 = .str ("in" : Str) from hx1)
  cases (show x2 = .str ("in" : Str) from hx2)
  refine ⟨_, rfl, p1, _, _, _, rfl, rfl, sqT hp1, at0, rfl, _, rfl, ?_⟩
  refine zj3 (by decide +kernel) ?_
  refine ⟨_, rfl, p2, _, _, _, rfl, rfl, sqT hp2, at0, rfl, _, rfl, ?_⟩
  refine zj3 (by decide +kernel) ?_
  exact ⟨_, rfl, p1, _, _, _, rfl, rfl, sqT hp1, at1, _, rfl, p2, _, _, _, rfl, rfl, sqT hp2, at1, small (by show 3 ≤ 1000; decide), fin _ _ _ _ _ hy1 hy2 (zrx _ _ _)⟩
end
section
variable {P : Program} {w : World} {K : PySem.W.Frag} {mg : Str → Option Value} {base : Heap} {a : Adr} {d : Fds}
theorem zh0 (T : Txt K mg a d) : zbd P w K mg base CX0 2 a.f_stand_of d.f_stand_of ["picks"] zps := by
 have G_with_option := zcb (P := P) (w := w) (base := base) T
 refine T.K_stand_of.ok sc_stand_of (fun vs H Q E h => ?_) (fun cdv A outer s H vs Q E hr h => ?_)
 ·obtain ⟨pl, ps, rfl, _⟩ := h
  rfl
 obtain ⟨pl, ps, rfl, PA, q⟩ := h
 obtain ⟨xs, hpl, pk⟩ := PA.ex
 have lx := pk.length
 refine ⟨_, (zaf (zax (i := 1) sc_stand_of.nd rfl (Or.inl rfl) (zag G_with_option hr.lv rfl T.g_with_option T.K_with_option.kp T.B_with_option .nil zal (zaa zad (zaa zad zac))))
   (zaf (zax (i := 2) sc_stand_of.nd rfl (Or.inl rfl) zad)
   (zaf (zgs PassesOwn.never rfl (piL (K := K) (pv 0)) (pgT (K := K) (n := 2) rfl (zbe (za3 (i := 3) sc_stand_of.nd rfl (Or.inl rfl)) (zbe (za3 (i := 4) sc_stand_of.nd rfl (Or.inl rfl)) zdp))) (zai (za9 (zc7 (pv 4)) (zai (zax (i := 1) sc_stand_of.nd rfl (Or.inl rfl) (zag G_with_option hr.lv rfl T.g_with_option T.K_with_option.kp T.B_with_option .nil zal (zaa (pv 1) (zaa (pv 3) zac))))) (zai (zax (i := 2) sc_stand_of.nd rfl (Or.inl rfl) (zag G_with_option hr.lv rfl T.g_with_option T.K_with_option.kp T.B_with_option .nil zal (zaa (pv 2) (zaa (pv 3) zac))))))))
   (zai (zam (za8 (zaa (pv 1) (zaa (pv 2) zac)))))))), ?_⟩
 refine ⟨0, 0, rfl, by decide, ?_⟩
 refine ⟨_, rfl, pl, rfl, ⟨_, SqL.of hpl⟩, ?_⟩
 refine zgx (K := K) (a := pl) (xs := xs) (fun i σ H2 => (∃ v3 v4 : Option V, σ = [some (.ref pl), some (.int (zcp (ps.take i) : Int)), some (.int (zdk (ps.take i) : Int)), v3, v4]) ∧ H2 = H) ⟨⟨none, none, rfl⟩, rfl⟩ (fun i σ H2 _ z => by rw [z.2]; exact SqL.of hpl) ?_ ?_
 ·rintro i x σ H2 hx ⟨⟨v3, v4, rfl⟩, rfl⟩
  obtain ⟨p, t, hp, rfl, ht⟩ := pk.get hx
  have et : ps.take (i + 1) = ps.take i ++ [p] := by rw [List.take_add_one, hp, Option.toList_some]
  have ple := PA.le p (List.mem_of_getElem? hp)
  refine ⟨t, _, rfl, sqT ht, rfl, _, _, rfl, _, _, rfl, rfl, ?_⟩
  refine ⟨_, rfl, _, rfl, ?_⟩
  cases e : p.2
  ·refine zhk ?_
   refine ⟨_, rfl, _, rfl, zdk (ps.take i), p.1, rfl, by omega, ?_⟩
   refine ⟨⟨some (.int (p.1 : Int)), some (.bl false), ?_⟩, rfl⟩
   rw [et, zi7, zli, e]
   rfl
  ·refine zok ?_
   refine ⟨_, rfl, _, rfl, zcp (ps.take i), p.1, rfl, by omega, ?_⟩
   refine ⟨⟨some (.int (p.1 : Int)), some (.bl true), ?_⟩, rfl⟩
   rw [et, zi7, zli, e]
   rfl
 ·rintro σ H2 ⟨⟨v3, v4, rfl⟩, rfl⟩
  rw [← lx, List.take_length]
  refine ⟨_, rfl, _, rfl, small (by show 2 ≤ 1000; decide), fun t ht => ?_⟩
  exact q t _ (zaj ht _) zae
end
section
variable {P : Program} {w : World} {K : PySem.W.Frag} {mg : Str → Option Value} {base : Heap} {a : Adr} {d : Fds}
theorem zoh (T : Txt K mg a d) : zbd P w K mg base CX0 3 a.f_open_at d.f_open_at ["wood", "picks"] zqs := by
 have G_stand_of := zh0 (P := P) (w := w) (base := base) T
 have G_open_options := zc6 (P := P) (w := w) (base := base) T
 refine T.K_open_at.ok sc_open_at (fun vs H Q E h => ?_) (fun cdv A outer s H vs Q E hr h => ?_)
 ·obtain ⟨wd, pl, m, xs, ys, ps, rfl, _⟩ := h
  rfl
 obtain ⟨wd, pl, m, xs, ys, ps, rfl, WA, m9, PA, q⟩ := h
 refine ⟨_, (zaf (zax (i := 2) sc_open_at.nd rfl (Or.inl rfl) (zag G_stand_of hr.lv rfl T.g_stand_of T.K_stand_of.kp T.B_stand_of .nil zal (zaa (pv 1) zac)))
   (zai (zam (zag G_open_options hr.lv rfl T.g_open_options T.K_open_options.kp T.B_open_options .nil zal (zaa (zan (ixT (K := K)) (pv 0) zad (fun _ _ => rfl)) (zaa (zan (ixT (K := K)) (pv 2) zad (fun _ _ => rfl)) (zaa (zan (ixT (K := K)) (pv 2) zad (fun _ _ => rfl)) zac))))))), ?_⟩
 refine ⟨_, rfl, pl, ps, rfl, PA, fun t H1 s1 ht => ?_⟩
 obtain ⟨tb, tc, hw, hb, hc⟩ := WoodAt.same s1 WA
 refine ⟨_, rfl, wd, _, _, _, rfl, rfl, sqT hw, at0, _, rfl, t, _, _, _, rfl, rfl, sqT ht, at0, _, rfl, t, _, _, _, rfl, rfl, sqT ht, at1, ?_⟩
 exact ⟨m, zcp ps, zdk ps, rfl, m9, fun l H2 s2 nl hl => q l H2 (s1.trans s2) (s1.free nl) hl⟩
end
section
variable {P : Program} {w : World} {K : PySem.W.Frag} {mg : Str → Option Value} {base : Heap} {a : Adr} {d : Fds}
theorem zdm (T : Txt K mg a d) : zbd P w K mg base CX0 18 a.f_first_ware_at d.f_first_ware_at ["wood", "picks"] zpd := by
 have G_stand_of := zh0 (P := P) (w := w) (base := base) T
 have G_first_ware := zf9 (P := P) (w := w) (base := base) T
 refine T.K_first_ware_at.ok sc_first_ware_at (fun vs H Q E h => ?_) (fun cdv A outer s H vs Q E hr h => ?_)
 ·obtain ⟨wd, pl, m, ts, ps, rfl, _⟩ := h
  rfl
 obtain ⟨wd, pl, m, ts, ps, rfl, W, m9, m1, PA, S, q⟩ := h
 refine ⟨_, (zaf (zax (i := 2) sc_first_ware_at.nd rfl (Or.inl rfl) (zag G_stand_of hr.lv rfl T.g_stand_of T.K_stand_of.kp T.B_stand_of .nil zal (zaa (pv 1) zac)))
   (zai (zam (zag G_first_ware hr.lv rfl T.g_first_ware T.K_first_ware.kp T.B_first_ware .nil zal (zaa (pv 0) (zaa (zan (ixT (K := K)) (pv 2) zad (fun _ _ => rfl)) (zaa (zan (ixT (K := K)) (pv 2) zad (fun _ _ => rfl)) zac))))))), ?_⟩
 refine ⟨_, rfl, pl, ps, rfl, PA, fun t H1 s1 ht => ?_⟩
 refine ⟨_, rfl, _, rfl, t, _, _, _, rfl, rfl, sqT ht, at0, _, rfl, t, _, _, _, rfl, rfl, sqT ht, at1, ?_⟩
 exact ⟨wd, m, ts, zcp ps, zdk ps, rfl, W.same s1, m9, m1, S, fun H2 o s2 h => q H2 o (s1.trans s2) (by cases o <;> exact h)⟩
end
section
variable {P : Program} {w : World} {K : PySem.W.Frag} {mg : Str → Option Value} {base : Heap} {a : Adr} {d : Fds}
theorem zm4 (T : Txt K mg a d) : zbd P w K mg base CX0 19 a.f_leads_on d.f_leads_on ["wood", "picks", "pick"] zs7 := by
 have G_first_ware_at := zdm (P := P) (w := w) (base := base) T
 refine T.K_leads_on.ok zml (fun vs H Q E h => ?_) (fun cdv A outer s H vs Q E hr h => ?_)
 ·obtain ⟨wd, pl, tp, m, ts, ps, p, rfl, _⟩ := h
  rfl
 obtain ⟨wd, pl, tp, m, ts, ps, p, rfl, W, m9, m1, PA, pf, p20, htp, S, q⟩ := h
 obtain ⟨xs, hpl, pk⟩ := PA.ex
 have lx := pk.length
 refine ⟨_, (zai (zam (zce zg2 (zag G_first_ware_at hr.lv rfl T.g_first_ware_at T.K_first_ware_at.kp T.B_first_ware_at .nil zal (zaa (pv 0) (zaa (zaz zqc (pv 1) (zcn (zaa (pv 2) zac))) zac))) zdc (zaq _)))), ?_⟩
 refine ⟨_, rfl, _, rfl, _, rfl, small (by show 1 ≤ 1000; decide), fun l1 hl1 => ?_⟩
 have s1 := zaj hl1 (.lst [.ref tp])
 have h1 : L2.upd H l1 (.lst [.ref tp]) l1 = some (.lst [.ref tp]) := zae
 generalize L2.upd H l1 (.lst [.ref tp]) = H1 at s1 h1 ⊢
 refine ⟨pl, l1, _, _, rfl, rfl, s1 _ _ hpl, h1, small (by show xs.length + 1 ≤ 1000; omega), fun l2 hl2 => ?_⟩
 have s2 := zaj hl2 (.lst (xs ++ [.ref tp]))
 have h2 : L2.upd H1 l2 (.lst (xs ++ [.ref tp])) l2 = some (.lst (xs ++ [.ref tp])) := zae
 generalize L2.upd H1 l2 (.lst (xs ++ [.ref tp])) = H2 at s2 h2 ⊢
 have s12 := s1.trans s2
 have PB : PicksAt H2 l2 (ps ++ [p]) := ⟨⟨_, h2, PickL.snoc (s12 _ _ htp) (pk.same (Same.tup s12))⟩, by rw [List.length_append, List.length_singleton]; omega, fun x hx => by
  rcases List.mem_append.mp hx with z | z
  ·exact PA.le x z
  ·rw [List.mem_singleton.mp z]; exact p20⟩
 refine ⟨wd, l2, m, ts, ps ++ [p], rfl, W.same s12, m9, m1, PB, S, fun H3 o s3 ho => ?_⟩
 have q1 := q H3 o (s12.trans s3) ho
 refine ⟨rfl, ?_⟩
 cases o <;> exact q1
end
section
variable {P : Program} {w : World} {K : PySem.W.Frag} {mg : Str → Option Value} {base : Heap} {a : Adr} {d : Fds}
theorem zdt (T : Txt K mg a d) : zbd P w K mg base CX0 1 a.f_law_take d.f_law_take ["_law_state", "_law_most"] (ztx K) := by
 refine T.K_law_take.ok sc_law_take (fun vs H Q E h => ?_) (fun cdv A outer s H vs Q E hr h => ?_)
 ·obtain ⟨pen, sp, ns, most, k, rfl, _⟩ := h
  rfl
 obtain ⟨pen, sp, ns, most, k, rfl, pn, k0, k1, m0, q⟩ := h
 have hp := pn.at_
 have el : (ns.map V.int).length = ns.length := List.length_map _
 have item : ∀ j : Int, 0 ≤ j → j < ns.length → ∃ v : Int, atI (ns.map V.int) j = some (.int v) := fun j j0 j1 => by
  obtain ⟨m, rfl⟩ : ∃ m : Nat, j = (m : Int) := ⟨j.toNat, by omega⟩
  have hj : m < ns.length := by omega
  refine ⟨ns[m], zd0 ?_⟩
  rw [List.getElem?_map, List.getElem?_eq_getElem hj]
  rfl
 have last : ∃ t, PSs (zdh CX0 P w K mg base ["_law_state", "_law_most", "_law_script", "_law_at", "_law_number"] "_law_take" (zab zcc) a.f_law_take cdv A outer s H E).nox ((zah zcc).drop 5) t ∧ ∀ (N : Int) (v0 v2 v3 : Option V), t { nx := fun _ H' => Q .non H', rt := Q } [v0, some (.int most), v2, v3, some (.int N)] (L2.upd H pen (.lst [.ref sp, .int (k + 1)])) := by
  refine ⟨_, (zai (zam (zaz zfl (zaz zfl (zaz zej (zaz zfl (zaz zej (pv 4) zad) zad) (zaz zct (zaz zfl (pv 4) zad) zad)) zad) (pv 1)))), fun N v0 v2 v3 => ?_⟩
  have n0 : 0 ≤ N * 48271 % 2147483629 := Int.emod_nonneg _ (by decide)
  have n1 : N * 48271 % 2147483629 < 2147483629 := Int.emod_lt_of_pos _ (by decide)
  refine ⟨_, rfl, _, _, rfl, rfl, .inr ⟨by decide, by decide⟩, _, _, rfl, rfl, (by show (0 : Int) < 2147483629; decide), _, rfl, _, _, rfl, rfl, (by show (0 : Int) < 65521; decide), _, _, rfl, rfl, _, _, rfl, rfl, .inl ⟨by omega, by omega⟩, _, _, rfl, rfl, (by show (0 : Int) < 999999937; decide), _, rfl, _, _, rfl, rfl, m0, ?_⟩
  exact q _ (Int.emod_nonneg _ (by omega)) (Int.emod_lt_of_pos _ m0)
 obtain ⟨t5, h5, r5⟩ := last
 refine ⟨_, (zaf (zi8 (pv 0) (ztw (K := K) rfl (zbe (za3 (i := 2) sc_law_take.nd rfl (Or.inl rfl)) (zbe (za3 (i := 3) sc_law_take.nd rfl (Or.inl rfl)) zdp))))
   (zaf (zi8 (zaz zct (pv 3) zad) (zt8 (pv 0) zad zqg))
   (zaf (za9 (zar zo3 (pv 3) (za1 (ze9 (K := K)) rfl T.m_len PySem.boot_len (zaa (pv 2) zac)) (zaq _)) (zai (zam (zaz zfl (zan (ixL (K := K)) (pv 2) (pv 3) (fun _ _ => rfl)) (pv 1)))) zau)
   (zaf (zax (i := 4) sc_law_take.nd rfl (Or.inl rfl) (zaz zct (zaz zct (zaz zej (zaz zej (pv 3) (pv 3)) zad) (zaz zej zad (pv 3))) zad))
   (zaf (za9 (zar zh2 (za1 (ze9 (K := K)) rfl T.m_len PySem.boot_len (zaa (pv 2) zac)) zad (zaq _)) (zai (zax (i := 4) sc_law_take.nd rfl (Or.inl rfl) (zaz zct (pv 4) (zaz zej (zaz zfl (zan (ixL (K := K)) (pv 2) (zaz zfl (zaz zej (pv 3) zad) (za1 (ze9 (K := K)) rfl T.m_len PySem.boot_len (zaa (pv 2) zac))) (fun _ _ => rfl)) zad) (zaz zct (pv 3) zad))))) zau)
   h5))))), ?_⟩
 refine ⟨_, rfl, pen, _, rfl, SqL.of hp, rfl, _, _, rfl, _, _, rfl, rfl, ?_⟩
 refine ⟨_, rfl, _, _, rfl, rfl, _, rfl, pen, _, _, _, rfl, rfl, hp, rfl, ?_⟩
 have hS := pn.scr _ (za2 (pen := pen) (H := H) (.lst [.ref sp, .int (k + 1)]))
 refine ⟨_, rfl, _, rfl, sp, _, rfl, .inl hS, _, _, rfl, rfl, _, rfl, ?_⟩
 refine zcq (fun c => ?_) (fun c => ?_)
 ·have c' : k < ((ns.map V.int).length : Nat) := of_decide_eq_true c
  rw [el] at c'
  obtain ⟨v, hv⟩ := item k k0 c'
  exact ⟨_, rfl, _, rfl, sp, _, _, _, rfl, rfl, hS, hv, _, rfl, _, _, rfl, rfl, m0, q _ (Int.emod_nonneg _ (by omega)) (Int.emod_lt_of_pos _ m0)⟩
 refine ⟨_, rfl, _, rfl, _, _, rfl, rfl, (by unfold CMul; omega), _, _, rfl, rfl, .inr ⟨by decide, by decide⟩, _, rfl, _, _, rfl, rfl, .inl ⟨by decide, by decide⟩, _, _, rfl, rfl, _, _, rfl, rfl, ?_⟩
 refine ⟨_, rfl, sp, _, rfl, .inl hS, _, _, rfl, rfl, _, rfl, ?_⟩
 refine zcq (fun c2 => ?_) (fun c2 => ?_)
 ·have c2' : (0 : Int) < ((ns.map V.int).length : Nat) := of_decide_eq_true c2
  rw [el] at c2'
  have m0' : 0 ≤ k * 3 % (ns.length : Int) := Int.emod_nonneg _ (by omega)
  have m1' : k * 3 % (ns.length : Int) < ns.length := Int.emod_lt_of_pos _ c2'
  obtain ⟨v, hv⟩ := item _ m0' m1'
  have v0 : 0 ≤ v % 2147483563 := Int.emod_nonneg _ (by decide)
  have v1 : v % 2147483563 < 2147483563 := Int.emod_lt_of_pos _ (by decide)
  refine ⟨_, rfl, _, rfl, _, rfl, _, _, rfl, rfl, .inr ⟨by decide, by decide⟩, _, rfl, sp, _, rfl, .inl hS, _, _, rfl, rfl, (by rw [el]; exact c2'), sp, _, _, _, rfl, rfl, hS, (by rw [el]; exact hv), ?_⟩
  refine ⟨_, _, rfl, rfl, (by show (0 : Int) < 2147483563; decide), _, rfl, _, _, rfl, rfl, _, _, rfl, rfl, .inl ⟨by omega, by omega⟩, _, _, rfl, rfl, ?_⟩
  exact r5 _ _ _ _
 ·exact r5 _ _ _ _
end
section
variable {P : Program} {w : World} {K : PySem.W.Frag} {mg : Str → Option Value} {base : Heap} {a : Adr} {d : Fds}
theorem zjw (T : Txt K mg a d) : zbd P w K mg base CX0 2 a.f_law_boughs d.f_law_boughs ["_law_state", "_law_many_here"] (zpb K) := by
 have G_law_take := zdt (P := P) (w := w) (base := base) T
 refine T.K_law_boughs.ok sc_law_boughs (fun vs H Q E h => ?_) (fun cdv A outer s H vs Q E hr h => ?_)
 ·obtain ⟨pen, sp, ns, m, k, rfl, _⟩ := h
  rfl
 obtain ⟨pen, sp, ns, m, k, rfl, pn, k0, k1, m1, m9, q⟩ := h
 have p62 : (2 : Int) ^ 62 = 4611686018427387904 := by decide
 have tailA : ∃ t, PSs (zdh CX0 P w K mg base ["_law_state", "_law_many_here", "_law_groups", "_law_k", "_law_up", "_law_old", "_law_boughs_here", "_law_kids", "_law_size", "_law_low", "_law_high"] "_law_boughs" (zab zbm) a.f_law_boughs cdv A outer s H E).nox ((zta (zah zbm) 3).drop 3) t ∧ ∀ (D : zjg) (g bl l : Addr) (u lo hi : Int) (kids : List Int) (v3 v5 v8 : Option V) (xs : List V) (H5 : Hp), H5 l = some (.lst (kids.map V.int)) → H5 bl = some (.lst xs) → xs.length ≤ 100 →
   (∀ (v : V) (H6 : Hp), Same H5 H6 → Dn H6 (zgq u lo hi kids) v → D.nx [some (.ref pen), some (.int (m : Int)), some (.ref g), v3, some (.int u), v5, some (.ref bl), some (.ref l), v8, some (.int lo), some (.int hi)] (L2.upd H6 bl (.lst (xs ++ [v])))) →
   t D [some (.ref pen), some (.int (m : Int)), some (.ref g), v3, some (.int u), v5, some (.ref bl), some (.ref l), v8, some (.int lo), some (.int hi)] H5 := by
  refine ⟨_, (zai (zeg (zhp (K := K) PySem.F.plainAttrs_list PySem.F.slot_list_append PySem.F.type_list_append zeo (pv 6) (zaa (za8 (zaa (pv 4) (zaa (pv 9) (zaa (pv 10) (zaa (zcy zcz rfl T.m_tuple PyProof.Rows.boot_tuple (zaa (pv 7) zac)) zac))))) zac)))), ?_⟩
  intro D g bl l u lo hi kids v3 v5 v8 xs H5 hl hbl few nx
  refine ⟨_, rfl, .inl ⟨rfl, _, SqL.of hbl⟩, _, rfl, _, rfl, _, rfl, _, rfl, l, _, rfl, .inl ⟨SqL.of hl, fun tk htk => ?_⟩⟩
  refine ⟨small (by show 4 ≤ 1000; decide), fun tb htb => ?_⟩
  have s1 := zaj htk (.tup (kids.map V.int))
  have s2 := zaj htb (.tup [.int u, .int lo, .int hi, .ref tk])
  have s12 := s1.trans s2
  refine ⟨bl, _, _, rfl, rfl, s12 _ _ hbl, zc3 (by omega), ?_⟩
  exact nx _ _ s12 ⟨tb, _, rfl, zae, _, _, rfl, rfl, _, _, rfl, rfl, _, _, rfl, rfl, _, _, rfl, ⟨tk, _, rfl, s2 _ _ zae, zg1 kids⟩, rfl⟩
 obtain ⟨tA, hA, rA⟩ := tailA
 refine ⟨_, (zaf (zax (i := 2) sc_law_boughs.nd rfl (Or.inl rfl) (zcn zac))
   (zaf (zgs PassesOwn.never rfl (zka rfl T.m_range (zaa zad (zaa (pv 1) zac))) (za3 (i := 3) sc_law_boughs.nd rfl (Or.inl rfl)) (zaf (zax (i := 4) sc_law_boughs.nd rfl (Or.inr rfl) (zaz zej (zag G_law_take hr.lv rfl T.g_law_take T.K_law_take.kp T.B_law_take .nil zal (zaa (pv 0) (zaa (pv 3) zac))) (zcy zkc rfl T.m_int PyProof.Rows.boot_int (zaa (zce zh2 (zag G_law_take hr.lv rfl T.g_law_take T.K_law_take.kp T.B_law_take .nil zal (zaa (pv 0) (zaa zad zac))) zad (zaq _)) zac))))
   (zaf (zjf (i := 5) sc_law_boughs.nd rfl rfl rfl (sc0 := zab zbm) (XN := ["_law_state", "_law_many_here", "_law_groups", "_law_k", "_law_up", "_law_old", "_law_boughs_here", "_law_kids", "_law_size", "_law_low", "_law_high"]) (N' := ["_law_group", "_law_up"]) (n := 1) (kp := [4]) rfl (piL (K := K) (pv 2)) rfl rfl (by decide +kernel) (fun _ _ _ _ _ => (za3 (i := 0) (by show List.Nodup (["_law_group", "_law_up"] : List Str); decide +kernel) rfl (Or.inl rfl))) (fun _ _ _ _ _ => (zef (zar zb4 (zan (ixT (K := K)) (pv 0) zad (fun _ _ => rfl)) (pv 1) (zaq _)))) (fun _ _ _ _ _ => (pv 0)))
   (zai (za9 (PW.pt (zhu (zar (znn hr.units) (pv 5) (zcn zac) (zaq _)) (zf3 (zar zh2 (zag G_law_take hr.lv rfl T.g_law_take T.K_law_take.kp T.B_law_take .nil zal (zaa (pv 0) (zaa zad zac))) zad (zaq _))))) (zai (zeg (zhp (K := K) PySem.F.plainAttrs_list PySem.F.slot_list_append PySem.F.type_list_append zeo (zan (ixT (K := K)) (zan (ixL (K := K)) (pv 5) (zo2 zl0 zad) (fun _ _ => rfl)) zad (fun _ _ => rfl)) (zaa (pv 3) zac)))) (zai (zeg (zhp (K := K) PySem.F.plainAttrs_list PySem.F.slot_list_insert PySem.F.type_list_insert zpw (pv 2) (zaa (zag G_law_take hr.lv rfl T.g_law_take T.K_law_take.kp T.B_law_take .nil zal (zaa (pv 0) (zaa (zaz zct (za1 (ze9 (K := K)) rfl T.m_len PySem.boot_len (zaa (pv 2) zac)) zad) zac))) (zaa (za8 (zaa (pv 4) (zaa (zcn (zaa (pv 3) zac)) zac))) zac))))))))))
   (zaf (zax (i := 6) sc_law_boughs.nd rfl (Or.inl rfl) (zcn zac))
   (zaf (zgs PassesOwn.never rfl (piL (K := K) (pv 2)) (pgT (K := K) (n := 2) rfl (zbe (za3 (i := 4) sc_law_boughs.nd rfl (Or.inr rfl)) (zbe (za3 (i := 7) sc_law_boughs.nd rfl (Or.inl rfl)) zdp))) (zaf (zax (i := 8) sc_law_boughs.nd rfl (Or.inl rfl) (za1 (ze9 (K := K)) rfl T.m_len PySem.boot_len (zaa (pv 7) zac)))
   (zaf (zi8 (zan (ixL (K := K)) (zcn (zaa (za8 (zaa (pv 8) (zaa (pv 8) zac))) (zaa (za8 (zaa zad (zaa (pv 8) zac))) (zaa (za8 (zaa zad (zaa zad zac))) (zaa (za8 (zaa zad (zaa zad zac))) zac))))) (zag G_law_take hr.lv rfl T.g_law_take T.K_law_take.kp T.B_law_take .nil zal (zaa (pv 0) (zaa zad zac))) (fun _ _ => rfl)) (pgT (K := K) (n := 2) rfl (zbe (za3 (i := 9) sc_law_boughs.nd rfl (Or.inl rfl)) (zbe (za3 (i := 10) sc_law_boughs.nd rfl (Or.inl rfl)) zdp))))
   (zaf (za9 (zar zb4 (zag G_law_take hr.lv rfl T.g_law_take T.K_law_take.kp T.B_law_take .nil zal (zaa (pv 0) (zaa zad zac))) zad (zaq _)) (zaf (zax (i := 9) sc_law_boughs.nd rfl (Or.inl rfl) (zag G_law_take hr.lv rfl T.g_law_take T.K_law_take.kp T.B_law_take .nil zal (zaa (pv 0) (zaa (zaz zct (pv 8) zad) zac))))
   (zai (zax (i := 10) sc_law_boughs.nd rfl (Or.inl rfl) (za1 (zeu rfl) rfl T.m_max PyProof.Rows.boot_max (zaa zad (zaa (zaz zct (pv 9) (zag G_law_take hr.lv rfl T.g_law_take T.K_law_take.kp T.B_law_take .nil zal (zaa (pv 0) (zaa (zaz zct (zaz zfe (pv 8) (pv 9)) zad) zac)))) zac)))))) zau)
   hA))))
   (zai (zam (pv 6))))))), ?_⟩
 refine ⟨small (by decide), fun g hg => ?_⟩
 have ngp : pen ≠ g := zav pn.at_ hg
 refine ⟨_, rfl, _, _, rfl, ⟨by rw [p62]; omega, by rw [p62]; omega, by rw [p62]; omega, by rw [p62]; omega⟩, ?_⟩
 obtain ⟨Pv, hPv⟩ : ∃ Pv : Nat → St → Hp → Prop, ∀ i σ H2, Pv i σ H2 ↔ (∃ (v3 v4 v5 : Option V) (gs : List Grp) (kk : Int), σ = [some (.ref pen), some (.int (m : Int)), some (.ref g), v3, v4, v5, none, none, none, none, none] ∧ SameX pen H H2 ∧ H2 pen = some (.lst [.ref sp, .int kk]) ∧ k ≤ kk ∧ kk ≤ k + 4 * i ∧ GAt H H2 g gs ∧ GOk ((i : Int) + 1) gs) := ⟨_, fun _ _ _ => Iff.rfl⟩
 refine zhm (lo := 1) (n := ((m : Int) - 1).toNat) Pv ((hPv _ _ _).mpr ⟨none, none, none, [], k, rfl, Same.x (zaj hg _), (zaj hg _) _ _ pn.at_, Int.le_refl _, by omega, ⟨zae, hg, (fun _ z => nomatch z), (fun _ z => nomatch z), List.nodup_nil⟩, ⟨(fun _ z => nomatch z), List.Perm.refl _⟩⟩) ?_ ?_
 ·rintro i σ H2 hi pv0
  obtain ⟨v3, v4, v5, gs, kk, rfl, sx, hp2, kk0, kk1, GA, GK⟩ := (hPv _ _ _).mp pv0
  have few := GK.few
  have i9 : (i : Int) < 9 := by omega
  have el : ∀ l : List Grp, (l.map fun x => V.ref x.t).length = l.length := fun l => List.length_map _
  have e1 : 1 + (i : Int) = (i : Int) + 1 := by omega
  have e2 : ((i + 1 : Nat) : Int) + 1 = (i : Int) + 2 := by omega
  refine ⟨_, rfl, _, rfl, pen, sp, ns, _, kk, rfl, pn.to sx hp2, by omega, by omega, by omega, fun c c0 c1 => ?_⟩
  have sx3 := sx.trans (za2 (pen := pen) (H := H2) (.lst [.ref sp, .int (kk + 1)]))
  have GA3 := GA.pen (ys := [.ref sp, .int (kk + 1)]) ⟨_, pn.at_⟩ hp2
  refine ⟨_, rfl, pen, sp, ns, 3, kk + 1, rfl, pn.to sx3 zae, by omega, by omega, by decide, fun d d0 d1 => ?_⟩
  have sx4 := sx3.trans (za2 (pen := pen) (.lst [.ref sp, .int (kk + 1 + 1)]))
  have GA4 := GA3.pen (ys := [.ref sp, .int (kk + 1 + 1)]) ⟨_, pn.at_⟩ zae
  have hp4 : L2.upd (L2.upd H2 pen (.lst [.ref sp, .int (kk + 1)])) pen (.lst [.ref sp, .int (kk + 1 + 1)]) pen = some (.lst [.ref sp, .int (kk + 1 + 1)]) := zae
  generalize L2.upd (L2.upd H2 pen (.lst [.ref sp, .int (kk + 1)])) pen (.lst [.ref sp, .int (kk + 1 + 1)]) = H4 at sx4 GA4 hp4 ⊢
  refine ⟨_, _, rfl, rfl, .inr ⟨_, rfl, ?_⟩⟩
  refine ⟨_, _, rfl, rfl, .inl ⟨by omega, by omega⟩, ?_⟩
  obtain ⟨u, hu, u0, u1⟩ : ∃ u : Int, c * (if decide (d > 0) = true then 1 else 0) = u ∧ 0 ≤ u ∧ u < (i : Int) + 1 := by
   refine ⟨_, rfl, ?_, ?_⟩ <;> split <;> omega
  dsimp only
  rw [hu]
  refine ⟨_, rfl, g, rfl, ⟨_, SqL.of GA4.at_⟩, ?_⟩
  refine zim (K := K) (a := g) (xs := gs.map fun x => V.ref x.t) (fun j ys σ H5 => (∃ v, σ = [v, some (.int u)]) ∧ H5 = H4 ∧ ys = ((gs.take j).filter fun x => decide (x.up = u)).map fun x => V.ref x.t) ⟨⟨none, rfl⟩, rfl, rfl⟩ (fun j ys σ H5 hj pv => ?_) (fun j ys σ H5 hj pv => ?_) (fun j x ys σ H5 hx pv => ?_) (fun ys σ H5 pv ol hol => ?_)
  ·obtain ⟨_, _, rfl⟩ := pv
   rw [el]
   have := List.length_filter_le (fun x : Grp => decide (x.up = u)) (gs.take j)
   rw [List.length_take] at this
   exact small (by omega)
  ·rw [pv.2.1]
   exact SqL.of GA4.at_
  ·obtain ⟨⟨v, rfl⟩, rfl, rfl⟩ := pv
   rw [List.getElem?_map] at hx
   obtain ⟨y, hy, rfl⟩ := Option.map_eq_some_iff.mp hx
   have et : gs.take (j + 1) = gs.take j ++ [y] := by rw [List.take_add_one, hy, Option.toList_some]
   refine ⟨_, rfl, y.t, _, _, _, rfl, rfl, sqT (GA4.tup y (List.mem_of_getElem? hy)), at0, _, rfl, rfl, _, rfl, ?_⟩
   by_cases cc : y.up = u
   ·refine zd5 (by rw [cc]) ?_
    refine ⟨_, rfl, ⟨_, rfl⟩, rfl, ?_⟩
    rw [et, List.filter_append, List.filter_cons_of_pos (by simpa using cc), List.map_append]
    rfl
   ·refine zb5 (fun z => cc (by injection z)) ?_
    refine ⟨⟨_, rfl⟩, rfl, ?_⟩
    rw [et, List.filter_append, List.filter_cons_of_neg (by simpa using cc), List.filter_nil, List.append_nil]
  obtain ⟨_, rfl, rfl⟩ := pv
  have nop : ol ≠ pen := Ne.symm (zav hp4 hol)
  rw [el, List.take_length] at *
  generalize hold : gs.filter (fun x => decide (x.up = u)) = old at *
  have omem : ∀ x ∈ old, x ∈ gs := fun x hx => by rw [← hold] at hx; exact (List.mem_filter.mp hx).1
  have s6 := zaj hol (.lst (old.map fun x => V.ref x.t))
  have GA6 := GA4.same s6
  have hp6 := s6 _ _ hp4
  have sx6 := sx4.trans (Same.x s6)
  have hol6 : L2.upd H5 ol (.lst (old.map fun x => V.ref x.t)) ol = some (.lst (old.map fun x => V.ref x.t)) := zae
  generalize L2.upd H5 ol (.lst (old.map fun x => V.ref x.t)) = H6 at s6 GA6 hp6 sx6 hol6 ⊢
  refine ⟨_, rfl, small (by decide), fun nl0 hnl0 => ?_⟩
  have s7 := zaj hnl0 (.lst [])
  have GA7 := GA6.same s7
  have hp7 := s7 _ _ hp6
  have sx7 := sx6.trans (Same.x s7)
  have hol7 := s7 _ _ hol6
  have hnl07 : L2.upd H6 nl0 (.lst []) nl0 = some (.lst []) := zae
  generalize L2.upd H6 nl0 (.lst []) = H7 at s7 GA7 hp7 sx7 hol7 hnl07 ⊢
  refine ⟨.list (old.map zn1), .list [], ⟨ol, _, rfl, hol7, zoq GA7 old omem⟩, ⟨nl0, _, rfl, hnl07, rfl⟩, zmc old, zom, _, rfl, ?_⟩
  rw [zs2]
  have new : ∀ (k3 : Int) (H8 : Hp) (v5 : Option V), k ≤ k3 → k3 ≤ k + 4 * i + 4 → SameX pen H H8 → H8 pen = some (.lst [.ref sp, .int k3]) → GAt H H8 g gs → ∀ (nl nt : Addr) (j : Nat), H8 nl = none → L2.upd H8 nl (.lst [.int (1 + (i : Int))]) nt = none → j ≤ gs.length →
    Pv (i + 1) [some (.ref pen), some (.int (m : Int)), some (.ref g), some (.int (1 + (i : Int))), some (.int u), v5, none, none, none, none, none] (L2.upd (L2.upd (L2.upd H8 nl (.lst [.int (1 + (i : Int))])) nt (.tup [.int u, .ref nl])) g (.lst ((gs.map fun x => V.ref x.t).take j ++ V.ref nt :: (gs.map fun x => V.ref x.t).drop j))) := by
   intro k3 H8 v5 k30 k31 sx8 hp8 GA8 nl nt j hnl hnt hj
   have s9 := (zaj hnl (.lst [.int (1 + (i : Int))])).trans (zaj hnt (.tup [.int u, .ref nl]))
   rw [← List.map_take, ← List.map_drop]
   refine (hPv _ _ _).mpr ⟨_, _, _, gs.take j ++ ⟨nt, u, nl, [1 + (i : Int)]⟩ :: gs.drop j, k3, rfl, SameX.put (sx8.trans (Same.x s9)) hg (Ne.symm ngp) (s9 _ _ GA8.at_), ?_, k30, by push_cast; omega, ?_, ?_⟩
   ·rw [zao ngp]
    exact s9 _ _ hp8
   ·exact GAt.ins (pre := gs.take j) (post := gs.drop j) (by rw [List.take_append_drop]; exact GA8) (sx8.free ⟨_, hp8⟩ hnl) hnl hnt
   ·rw [e2, e1]
    exact GOk.ins (k := i) (by rw [List.take_append_drop]; exact GK) u0 u1
  by_cases c5 : old = []
  ·refine ze6 (by rw [c5]; rfl) ?_
   refine zhk ?_
   refine ⟨_, rfl, .inl ⟨rfl, _, SqL.of GA7.at_⟩, _, rfl, _, rfl, g, _, rfl, .inl (SqL.of GA7.at_), ?_⟩
   refine ⟨_, _, rfl, rfl, pen, sp, ns, _, kk + 1 + 1, rfl, pn.to sx7 hp7, by omega, by omega, (by rw [el]; omega), fun j j0 j1 => ?_⟩
   rw [el] at j1
   have sx8 := sx7.trans (za2 (pen := pen) (.lst [.ref sp, .int (kk + 1 + 1 + 1)]))
   have GA8 := GA7.pen (ys := [.ref sp, .int (kk + 1 + 1 + 1)]) ⟨_, pn.at_⟩ hp7
   have hp8 : L2.upd H7 pen (.lst [.ref sp, .int (kk + 1 + 1 + 1)]) pen = some (.lst [.ref sp, .int (kk + 1 + 1 + 1)]) := zae
   generalize L2.upd H7 pen (.lst [.ref sp, .int (kk + 1 + 1 + 1)]) = H8 at sx8 GA8 hp8 ⊢
   refine ⟨_, rfl, _, rfl, small (by show 1 ≤ 1000; decide), fun nl hnl => ?_⟩
   refine ⟨small (by show 2 ≤ 1000; decide), fun nt hnt => ?_⟩
   have s9 := (zaj hnl (.lst [.int (1 + (i : Int))])).trans (zaj hnt (.tup [.int u, .ref nl]))
   refine ⟨g, _, _, _, rfl, rfl, s9 _ _ GA8.at_, j0, (by rw [el]; omega), (by rw [el]; exact zc3 (by omega)), ?_⟩
   exact new (kk + 1 + 1 + 1) H8 _ (by omega) (by omega) sx8 hp8 GA8 nl nt j.toNat hnl hnt (by omega)
  ·refine zng (fun z => c5 (by cases old with | nil => rfl | cons x r => cases z)) ?_
   refine ⟨_, rfl, pen, sp, ns, 3, kk + 1 + 1, rfl, pn.to sx7 hp7, by omega, by omega, by decide, fun e e0 e1' => ?_⟩
   have sx8 := sx7.trans (za2 (pen := pen) (.lst [.ref sp, .int (kk + 1 + 1 + 1)]))
   have GA8 := GA7.pen (ys := [.ref sp, .int (kk + 1 + 1 + 1)]) ⟨_, pn.at_⟩ hp7
   have hp8 : L2.upd H7 pen (.lst [.ref sp, .int (kk + 1 + 1 + 1)]) pen = some (.lst [.ref sp, .int (kk + 1 + 1 + 1)]) := zae
   have hol8 : L2.upd H7 pen (.lst [.ref sp, .int (kk + 1 + 1 + 1)]) ol = some (.lst (old.map fun x => V.ref x.t)) := by rw [zao nop]; exact hol7
   generalize L2.upd H7 pen (.lst [.ref sp, .int (kk + 1 + 1 + 1)]) = H8 at sx8 GA8 hp8 hol8 ⊢
   refine ⟨_, _, rfl, rfl, _, rfl, ?_⟩
   refine zcq (fun c6 => ?_) (fun c6 => ?_)
   ·have lo1 : 0 < old.length := List.length_pos_iff.mpr c5
    obtain ⟨x, hxo⟩ : ∃ x, old[old.length - 1]? = some x := ⟨_, List.getElem?_eq_getElem (by omega)⟩
    have hx := omem x (List.mem_of_getElem? hxo)
    have lox : old.length ≤ gs.length := by rw [← hold]; exact List.length_filter_le _ _
    obtain ⟨pre, post, egs⟩ := List.append_of_mem hx
    have ty := GA8.tup x hx
    have ly := GA8.lst x hx
    refine ⟨_, rfl, _, rfl, ol, _, _, .ref x.t, rfl, rfl, SqL.of hol8, ?_, x.t, _, _, _, rfl, rfl, sqT ty, at1, .inl ⟨rfl, _, SqL.of ly.1⟩, _, rfl, x.l, _, _, rfl, rfl, ly.1, ?_, ?_⟩
    ·unfold atI ixN
     rw [el, if_neg (by omega), if_pos (by omega)]
     show (List.map _ old)[((-1 : Int) + (old.length : Int)).toNat]? = _
     rw [show ((-1 : Int) + (old.length : Int)).toNat = old.length - 1 by omega, List.getElem?_map, hxo]
     rfl
    ·have h1 := GK.perm.length_eq
     rw [List.length_map, List.length_range', egs, List.flatMap_append, List.flatMap_cons, List.length_append, List.length_append] at h1
     rw [List.length_map]
     exact zc3 (by omega)
    have G9 : GAt H _ g _ := GAt.put (k := 1 + (i : Int)) (pre := pre) (post := post) (x := x) (by rw [← egs]; exact GA8)
    refine (hPv _ _ _).mpr ⟨_, _, _, _, kk + 1 + 1 + 1, rfl, SameX.put sx8 ly.2.1 (fun z => by have := pn.at_; rw [← z, ly.2.1] at this; cases this) ly.1, ?_, by omega, by push_cast; omega, G9, ?_⟩
    ·rw [zao (fun z => by have := pn.at_; rw [z, ly.2.1] at this; cases this)]
     exact hp8
    ·rw [e2, e1]
     exact GOk.put (k := i) (by rw [← egs]; exact GK)
   ·refine ⟨_, rfl, .inl ⟨rfl, _, SqL.of GA8.at_⟩, _, rfl, _, rfl, g, _, rfl, .inl (SqL.of GA8.at_), ?_⟩
    refine ⟨_, _, rfl, rfl, pen, sp, ns, _, kk + 1 + 1 + 1, rfl, pn.to sx8 hp8, by omega, by omega, (by rw [el]; omega), fun j j0 j1 => ?_⟩
    rw [el] at j1
    have sx9 := sx8.trans (za2 (pen := pen) (.lst [.ref sp, .int (kk + 1 + 1 + 1 + 1)]))
    have GA9 := GA8.pen (ys := [.ref sp, .int (kk + 1 + 1 + 1 + 1)]) ⟨_, pn.at_⟩ hp8
    have hp9 : L2.upd H8 pen (.lst [.ref sp, .int (kk + 1 + 1 + 1 + 1)]) pen = some (.lst [.ref sp, .int (kk + 1 + 1 + 1 + 1)]) := zae
    generalize L2.upd H8 pen (.lst [.ref sp, .int (kk + 1 + 1 + 1 + 1)]) = H9 at sx9 GA9 hp9 ⊢
    refine ⟨_, rfl, _, rfl, small (by show 1 ≤ 1000; decide), fun nl hnl => ?_⟩
    refine ⟨small (by show 2 ≤ 1000; decide), fun nt hnt => ?_⟩
    have s10 := (zaj hnl (.lst [.int (1 + (i : Int))])).trans (zaj hnt (.tup [.int u, .ref nl]))
    refine ⟨g, _, _, _, rfl, rfl, s10 _ _ GA9.at_, j0, (by rw [el]; omega), (by rw [el]; exact zc3 (by omega)), ?_⟩
    exact new (kk + 1 + 1 + 1 + 1) H9 _ (by omega) (by omega) sx9 hp9 GA9 nl nt j.toNat hnl hnt (by omega)
 ·rintro σ H2 pv0
  obtain ⟨v3, v4, v5, gs, kk, rfl, sx, hp2, kk0, kk1, GA, GK⟩ := (hPv _ _ _).mp pv0
  have em : (((m : Int) - 1).toNat : Int) + 1 = (m : Int) := by omega
  rw [em] at GK
  have few := GK.few
  have el : (gs.map fun x => V.ref x.t).length = gs.length := List.length_map _
  refine ⟨small (by decide), fun bl hbl => ?_⟩
  have nbH : H bl = none := sx.free ⟨_, hp2⟩ hbl
  have nbp : bl ≠ pen := fun z => by rw [z, hp2] at hbl; cases hbl
  have ngb : g ≠ bl := zav GA.at_ hbl
  have s3 := zaj hbl (.lst [])
  refine ⟨_, rfl, g, rfl, ⟨_, SqL.of (s3 _ _ GA.at_)⟩, ?_⟩
  obtain ⟨Pw, hPw⟩ : ∃ Pw : Nat → St → Hp → Prop, ∀ j σ H3, Pw j σ H3 ↔ (∃ (v3 v4 v5 v7 v8 v9 v10 : Option V) (kc : Int) (bs : List PyData) (xs : List V), σ = [some (.ref pen), some (.int (m : Int)), some (.ref g), v3, v4, v5, some (.ref bl), v7, v8, v9, v10] ∧ SameX pen H2 H3 ∧ H3 pen = some (.lst [.ref sp, .int kc]) ∧ kk ≤ kc ∧ kc ≤ kk + 4 * j ∧ H3 bl = some (.lst xs) ∧ DnL H3 bs xs ∧ bs.length = j ∧ (∀ b ∈ bs, zde m b = true) ∧ bs.flatMap zje = (gs.take j).flatMap (·.kids) ∧ bs.all (zbs 3) = true) := ⟨_, fun _ _ _ => Iff.rfl⟩
  refine zgx (K := K) (a := g) (xs := gs.map fun x => V.ref x.t) Pw ((hPw _ _ _).mpr ⟨_, _, _, _, _, _, _, kk, [], [], rfl, Same.x s3, s3 _ _ hp2, Int.le_refl _, by omega, zae, rfl, rfl, (fun _ z => nomatch z), rfl, rfl⟩) (fun j σ H3 _ z => ?_) ?_ ?_
  ·obtain ⟨_, _, _, _, _, _, _, _, _, _, _, sx3, _⟩ := (hPw _ _ _).mp z
   exact SqL.of (sx3 _ _ (Ne.symm ngp) GA.at_)
  ·rintro j y σ H3 hy pv0
   obtain ⟨v3, v4, v5, v7, v8, v9, v10, kc, bs, xs, rfl, sx3, hp3, kc0, kc1, hb3, dn, ln, okb, ki, fl⟩ := (hPw _ _ _).mp pv0
   rw [List.getElem?_map] at hy
   obtain ⟨x, hx', rfl⟩ := Option.map_eq_some_iff.mp hy
   have hm := List.mem_of_getElem? hx'
   have hj : j < gs.length := (List.getElem?_eq_some_iff.mp hx').1
   have lx := GA.lst x hm
   have nlp : x.l ≠ pen := fun z => by have := pn.at_; rw [← z, lx.2.1] at this; cases this
   have hxl := sx3 _ _ nlp lx.1
   have gx := GK.each x hm
   have ekl : (x.kids.map V.int).length = x.kids.length := List.length_map _
   have kp := List.length_pos_iff.mpr gx.2.1
   have kl : x.kids.length ≤ 9 := by
    have pk := GK.perm.length_eq
    rw [List.length_map, List.length_range'] at pk
    obtain ⟨l1, l2, e⟩ := List.append_of_mem hm
    rw [e, List.flatMap_append, List.flatMap_cons, List.length_append, List.length_append] at pk
    omega
   have lys := dn.length
   refine ⟨x.t, _, rfl, sqT ((SameX.tup hp2 sx3) _ _ (GA.tup x hm)), rfl, _, _, rfl, _, _, rfl, rfl, ?_⟩
   refine ⟨_, rfl, x.l, _, rfl, .inl (SqL.of hxl), ?_⟩
   rw [ekl]
   have done : ∀ (lo hi kd : Int) (H5 : Hp) (w3 w5 w8 : Option V), SameX pen H3 H5 → H5 pen = some (.lst [.ref sp, .int kd]) → kc ≤ kd → kd ≤ kc + 4 → H5 bl = some (.lst xs) → 0 ≤ lo → lo ≤ hi → 1 ≤ hi → hi ≤ x.kids.length → ∀ (v : V) (H6 : Hp), Same H5 H6 → Dn H6 (zgq x.up lo hi x.kids) v →
     Pw (j + 1) [some (.ref pen), some (.int (m : Int)), some (.ref g), w3, some (.int x.up), w5, some (.ref bl), some (.ref x.l), w8, some (.int lo), some (.int hi)] (L2.upd H6 bl (.lst (xs ++ [v]))) := by
    intro lo hi kd H5 w3 w5 w8 sx5 hp5 kd0 kd1 hb5 l0 l1 h1 h2 v H6 s6 dv
    have hb6 := s6 _ _ hb5
    have fb := zjn x.up lo hi x.kids (by omega)
    have d6 := DnL.same s6 _ _ (DnL.tupS (SameX.tup hp3 sx5) fl dn)
    refine (hPw _ _ _).mpr ⟨_, _, _, _, _, _, _, kd, bs ++ [zgq x.up lo hi x.kids], xs ++ [v], rfl, SameX.put ((sx3.trans sx5).trans (Same.x s6)) hbl nbp hb6, ?_, by omega, by push_cast; omega, zae, ?_, ?_, fun b hb' => ?_, ?_, ?_⟩
    ·rw [zao (Ne.symm nbp)]
     exact s6 _ _ hp5
    ·exact (DnL.pen hb6 fl d6).append ⟨v, [], rfl, Dn.pen hb6 fb dv, rfl⟩
    ·rw [List.length_append, List.length_singleton, ln]
    ·rcases List.mem_append.mp hb' with z | z
     ·exact okb b z
     ·rw [List.mem_singleton.mp z]
      exact zn8 gx.1 gx.2.1 gx.2.2 l0 l1 h1 h2
    ·rw [List.flatMap_append, ki, zk7 hx']
     simp [zfb]
    ·rw [List.all_append, fl]
     simp [fb]
   refine ⟨_, rfl, _, rfl, small (by show 2 ≤ 1000; decide), fun t1 ht1 => ?_⟩
   refine ⟨_, rfl, small (by show 2 ≤ 1000; decide), fun t2 ht2 => ?_⟩
   refine ⟨small (by show 2 ≤ 1000; decide), fun t3 ht3 => ?_⟩
   refine ⟨small (by show 2 ≤ 1000; decide), fun t4 ht4 => ?_⟩
   refine ⟨small (by show 4 ≤ 1000; decide), fun tl htl => ?_⟩
   have q1 := zaj ht1 (.tup [.int (x.kids.length : Nat), .int (x.kids.length : Nat)])
   have q2 := zaj ht2 (.tup [.int 0, .int (x.kids.length : Nat)])
   have q3 := zaj ht3 (.tup [.int 1, .int 1])
   have q4 := zaj ht4 (.tup [.int 0, .int 1])
   have q5 := zaj htl (.lst [.ref t1, .ref t2, .ref t3, .ref t4])
   have sA := (((q1.trans q2).trans q3).trans q4).trans q5
   have e1 := q5 _ _ (q4 _ _ (q3 _ _ (q2 _ _ zae)))
   have e2 := q5 _ _ (q4 _ _ (q3 _ _ zae))
   have e3 := q5 _ _ (q4 _ _ zae)
   have e4 := q5 _ _ zae
   have e5 : L2.upd (L2.upd (L2.upd (L2.upd (L2.upd H3 t1 (.tup [.int (x.kids.length : Nat), .int (x.kids.length : Nat)])) t2 (.tup [.int 0, .int (x.kids.length : Nat)])) t3 (.tup [.int 1, .int 1])) t4 (.tup [.int 0, .int 1])) tl (.lst [.ref t1, .ref t2, .ref t3, .ref t4]) tl = some (.lst [.ref t1, .ref t2, .ref t3, .ref t4]) := zae
   generalize L2.upd (L2.upd (L2.upd (L2.upd (L2.upd H3 t1 (.tup [.int (x.kids.length : Nat), .int (x.kids.length : Nat)])) t2 (.tup [.int 0, .int (x.kids.length : Nat)])) t3 (.tup [.int 1, .int 1])) t4 (.tup [.int 0, .int 1])) tl (.lst [.ref t1, .ref t2, .ref t3, .ref t4]) = H4 at sA e1 e2 e3 e4 e5 ⊢
   have sxA := sx3.trans (Same.x (pen := pen) sA)
   have hpA := sA _ _ hp3
   have hbA := sA _ _ hb3
   have pn3 := pn.to (sx.trans sxA) hpA
   refine ⟨_, rfl, pen, sp, ns, 4, kc, rfl, pn3, by omega, by omega, by decide, fun y y0 y1 => ?_⟩
   have ntl : tl ≠ pen := fun z => by rw [z, hpA] at e5; cases e5
   obtain ⟨tt, lo', hi', hat, ht, g1, g2, g3, g4⟩ : ∃ (tt : Addr) (lo' hi' : Int), atI [V.ref t1, V.ref t2, V.ref t3, V.ref t4] y = some (.ref tt) ∧ H4 tt = some (.tup [.int lo', .int hi']) ∧ 0 ≤ lo' ∧ lo' ≤ hi' ∧ 1 ≤ hi' ∧ hi' ≤ x.kids.length := by
    have e : y = 0 ∨ y = 1 ∨ y = 2 ∨ y = 3 := by omega
    rcases e with e | e | e | e <;> rw [e]
    ·exact ⟨t1, _, _, rfl, e1, by omega, by omega, by omega, by omega⟩
    ·exact ⟨t2, _, _, rfl, e2, by omega, by omega, by omega, by omega⟩
    ·exact ⟨t3, _, _, rfl, e3, by omega, by omega, by omega, by omega⟩
    ·exact ⟨t4, _, _, rfl, e4, by omega, by omega, by omega, by omega⟩
   have sxB : SameX pen H3 (L2.upd H4 pen (.lst [.ref sp, .int (kc + 1)])) := (Same.x (pen := pen) sA).trans (za2 _)
   have htB : L2.upd H4 pen (.lst [.ref sp, .int (kc + 1)]) tt = some (.tup [.int lo', .int hi']) := by rw [zao (fun z => by rw [z, hpA] at ht; cases ht)]; exact ht
   have hpB : L2.upd H4 pen (.lst [.ref sp, .int (kc + 1)]) pen = some (.lst [.ref sp, .int (kc + 1)]) := zae
   refine ⟨tl, _, _, _, rfl, rfl, SqL.of (by rw [zao ntl]; exact e5), hat, ?_⟩
   generalize L2.upd H4 pen (.lst [.ref sp, .int (kc + 1)]) = H5 at sxB htB hpB ⊢
   refine ⟨tt, _, rfl, sqT htB, rfl, _, _, rfl, _, _, rfl, rfl, ?_⟩
   have pnB := pn.to ((sx.trans sx3).trans sxB) hpB
   refine ⟨_, rfl, pen, sp, ns, 3, kc + 1, rfl, pnB, by omega, by omega, by decide, fun z z0 z1 => ?_⟩
   have sxC := sxB.trans (za2 (pen := pen) (.lst [.ref sp, .int (kc + 1 + 1)]))
   have hpC : L2.upd H5 pen (.lst [.ref sp, .int (kc + 1 + 1)]) pen = some (.lst [.ref sp, .int (kc + 1 + 1)]) := zae
   generalize L2.upd H5 pen (.lst [.ref sp, .int (kc + 1 + 1)]) = H6 at sxC hpC ⊢
   refine ⟨rfl, _, rfl, ?_⟩
   refine zcq (fun c => ?_) (fun c => ?_)
   ·have pnC := pn.to ((sx.trans sx3).trans sxC) hpC
    refine ⟨_, rfl, _, rfl, _, _, rfl, rfl, pen, sp, ns, _, kc + 1 + 1, rfl, pnC, by omega, by omega, by omega, fun lo lo0 lo1 => ?_⟩
    have sxD := sxC.trans (za2 (pen := pen) (.lst [.ref sp, .int (kc + 1 + 1 + 1)]))
    have hpD : L2.upd H6 pen (.lst [.ref sp, .int (kc + 1 + 1 + 1)]) pen = some (.lst [.ref sp, .int (kc + 1 + 1 + 1)]) := zae
    generalize L2.upd H6 pen (.lst [.ref sp, .int (kc + 1 + 1 + 1)]) = H7 at sxD hpD ⊢
    have pnD := pn.to ((sx.trans sx3).trans sxD) hpD
    refine ⟨_, rfl, _, rfl, _, rfl, _, rfl, _, _, rfl, rfl, _, _, rfl, rfl, pen, sp, ns, _, kc + 1 + 1 + 1, rfl, pnD, by omega, by omega, by omega, fun w w0 w1 => ?_⟩
    have sxE := sxD.trans (za2 (pen := pen) (.lst [.ref sp, .int (kc + 1 + 1 + 1 + 1)]))
    refine ⟨_, _, rfl, rfl, _, _, rfl, ?_⟩
    have hb7 := sxE _ _ nbp hb3
    refine rA _ g bl x.l x.up lo _ x.kids _ _ _ xs _ (sxE _ _ nlp hxl) hb7 (by omega) (done lo _ (kc + 1 + 1 + 1 + 1) _ _ _ _ sxE zae (by omega) (by omega) hb7 lo0 ?_ ?_ ?_)
    all_goals split <;> omega
   ·have hb6 := sxC _ _ nbp hb3
    exact rA _ g bl x.l x.up lo' hi' x.kids _ _ _ xs _ (sxC _ _ nlp hxl) hb6 (by omega) (done lo' hi' (kc + 1 + 1) _ _ _ _ sxC hpC (by omega) (by omega) hb6 g1 g2 g3 g4)
  ·rintro σ H3 pv0
   obtain ⟨v3, v4, v5, v7, v8, v9, v10, kc, bs, xs, rfl, sx3, hp3, kc0, kc1, hb3, dn, ln, okb, ki, fl⟩ := (hPw _ _ _).mp pv0
   rw [el] at ln ki kc1
   rw [List.take_length] at ki
   exact ⟨_, rfl, q bl bs xs kc H3 (sx.trans sx3) hp3 (by omega) (by omega) hb3 nbH dn ⟨okb, by rw [ki]; exact GK.perm⟩ (by omega) fl⟩
end
section
variable {P : Program} {w : World} {K : PySem.W.Frag} {mg : Str → Option Value} {base : Heap} {a : Adr} {d : Fds}
theorem ze3 (T : Txt K mg a d) : zbd P w K mg base CX0 2 a.f_law_cross d.f_law_cross ["_law_state", "_law_many_here", "_law_most"] (znz K) := by
 have G_law_take := zdt (P := P) (w := w) (base := base) T
 refine T.K_law_cross.ok sc_law_cross (fun vs H Q E h => ?_) (fun cdv A outer s H vs Q E hr h => ?_)
 ·obtain ⟨pen, sp, ns, m, most, k, rfl, _⟩ := h
  rfl
 obtain ⟨pen, sp, ns, m, most, k, rfl, pn, k0, k1, m1, m9, mo0, mo8, q⟩ := h
 have p62 : (2 : Int) ^ 62 = 4611686018427387904 := by decide
 have tailC : ∃ t, PSs (zdh CX0 P w K mg base ["_law_state", "_law_many_here", "_law_most", "_law_cross_here", "_law_turn", "_law_one", "_law_other", "_law_way", "_law_far", "_law_pairs", "_law_total", "_law_top"] "_law_cross" (zab zbf) a.f_law_cross cdv A outer s H E).nox ((zr7 (zah zbf) [(1, false), (3, true)]).drop 3) t ∧ ∀ (D : zjg) (cl pl : Addr) (far kd : Int) (ps : List PyData) (xs zs : List V) (v4 v5 v6 v7 v10 v11 : Option V) (H5 : Hp), Pen K H5 pen sp ns kd → 0 ≤ kd → kd ≤ 950000 → H5 pl = some (.lst xs) → zin H5 m ps xs → 0 < ps.length → H5 cl = some (.lst zs) → zs.length ≤ 100 → cl ≠ pen → pl ≠ pen →
   (∀ (v : V) (top : Int) (w10 : Option V) (H6 : Hp), SameX pen H5 H6 → H6 pen = some (.lst [.ref sp, .int (kd + 1 + 1)]) → Dn H6 (.tuple [.str ("most" : Str), .int top, .tuple ps]) v → H6 cl = some (.lst zs) → D.nx [some (.ref pen), some (.int (m : Int)), some (.int most), some (.ref cl), v4, v5, v6, v7, some (.int far), some (.ref pl), w10, some (.int top)] (L2.upd H6 cl (.lst (zs ++ [v])))) →
   t D [some (.ref pen), some (.int (m : Int)), some (.int most), some (.ref cl), v4, v5, v6, v7, some (.int far), some (.ref pl), v10, v11] H5 := by
  refine ⟨_, (zaf (zax (i := 10) sc_law_cross.nd rfl (Or.inl rfl) (za1 (zdq rfl) rfl T.m_sum PyProof.Rows.boot_sum (zaa (ziu (sc0 := zab zbf) (XN := ["_law_state", "_law_many_here", "_law_most", "_law_cross_here", "_law_turn", "_law_one", "_law_other", "_law_way", "_law_far", "_law_pairs", "_law_total", "_law_top"]) (N' := ["_law_c", "_law_number"]) (n := 2) (kp := []) rfl (piL (K := K) (pv 9)) rfl rfl (by decide +kernel) (fun _ _ _ _ _ => (pgT (K := K) (n := 2) rfl (zbe (za3 (i := 0) (by show List.Nodup (["_law_c", "_law_number"] : List Str); decide +kernel) rfl (Or.inl rfl)) (zbe (za3 (i := 1) (by show List.Nodup (["_law_c", "_law_number"] : List Str); decide +kernel) rfl (Or.inl rfl)) zdp)))) (fun _ _ _ _ _ => zos) (fun _ _ _ _ _ => (za1 (zeu rfl) rfl T.m_max PyProof.Rows.boot_max (zaa zad (zaa (pv 1) zac))))) zac)))
   (zaf (zax (i := 11) sc_law_cross.nd rfl (Or.inl rfl) (zaz zfe (zaz zfe (zag G_law_take hr.lv rfl T.g_law_take T.K_law_take.kp T.B_law_take .nil zal (zaa (pv 0) (zaa (zaz zct (pv 10) zad) zac))) zad) (zaz zej (pv 8) (zaz zo5 (zag G_law_take hr.lv rfl T.g_law_take T.K_law_take.kp T.B_law_take .nil zal (zaa (pv 0) (zaa zad zac))) zad))))
   (zai (zeg (zhp (K := K) PySem.F.plainAttrs_list PySem.F.slot_list_append PySem.F.type_list_append zeo (pv 3) (zaa (za8 (zaa za5 (zaa (pv 11) (zaa (zcy zcz rfl T.m_tuple PyProof.Rows.boot_tuple (zaa (pv 9) zac)) zac)))) zac)))))), ?_⟩
  intro D cl pl far kd ps xs zs v4 v5 v6 v7 v10 v11 H5 pn5 kd0 kd1 hpl pt p0 hcl zfew ncp npp nx
  have few := pt.few
  have lx := pt.dn.length
  refine ⟨_, rfl, pl, rfl, ⟨_, SqL.of hpl⟩, ?_⟩
  refine zim (K := K) (a := pl) (xs := xs) (fun i ys σ H7 => (∃ v v', σ = [v, v']) ∧ H7 = H5 ∧ ∃ nl : List Int, ys = nl.map V.int ∧ 0 ≤ nl.sum ∧ nl.length = i) ⟨⟨none, none, rfl⟩, rfl, [], rfl, Int.le_refl _, rfl⟩ (fun i ys σ H7 hi pv => ?_) (fun i ys σ H7 hi pv => ?_) (fun i x ys σ H7 hx pv => ?_) (fun ys σ H7 pv l hl => ?_)
  ·obtain ⟨_, _, nl, rfl, _, h1⟩ := pv
   rw [List.length_map]
   exact small (by omega)
  ·rw [pv.2.1]
   exact SqL.of hpl
  ·obtain ⟨⟨v, v', rfl⟩, rfl, nl, rfl, h0, h1⟩ := pv
   obtain ⟨dd, hdd, hx'⟩ := pt.dn.get hx
   have pk := (List.all_eq_true.mp pt.ok) dd (List.mem_of_getElem? hdd)
   obtain ⟨r, xa, nb, rfl, hr'⟩ : ∃ (r : Addr) (xa : V) (nb : Int), x = .ref r ∧ H7 r = some (.tup [xa, .int nb]) := by
    unfold zfj at pk
    split at pk
    next dx dy =>
     obtain ⟨iy, rfl⟩ := zlz pk
     obtain ⟨r, ys, rfl, hr2, xa, r1, rfl, ha, xb, r2, rfl, hb, hnil⟩ := zda hx'
     cases (show r2 = [] from hnil)
     cases zdw hb
     exact ⟨r, xa, iy, rfl, hr2⟩
    next => cases pk
   refine ⟨r, _, rfl, sqT hr', rfl, _, _, rfl, _, _, rfl, rfl, ?_⟩
   refine ⟨_, rfl, _, _, rfl, ⟨_, _, rfl⟩, rfl, nl ++ [if nb > 0 then nb else 0], ?_, ?_, ?_⟩
   ·rw [List.map_append]
    rfl
   ·rw [List.sum_append]
    have : 0 ≤ (if nb > 0 then nb else 0) := by split <;> omega
    simp only [List.sum_cons, List.sum_nil]
    omega
   ·rw [List.length_append, List.length_singleton, h1]
  obtain ⟨_, rfl, nl, rfl, h0, _⟩ := pv
  have s7 := zaj hl (.lst (nl.map V.int))
  have pn7 := pn5.to (Same.x s7) (s7 _ _ pn5.at_)
  refine ⟨l, nl, rfl, SqL.of zae, ?_⟩
  have hcl7 := s7 _ _ hcl
  have hpl7 := s7 _ _ hpl
  have d7 := DnL.same s7 _ _ pt.dn
  have x7 : SameX pen H7 _ := Same.x (pen := pen) s7
  generalize L2.upd H7 l (.lst (nl.map V.int)) = H8 at s7 pn7 hcl7 hpl7 d7 x7 ⊢
  refine ⟨_, rfl, _, rfl, _, _, rfl, rfl, pen, sp, ns, _, kd, rfl, pn7, by omega, by omega, by omega, fun x x0 x1 => ?_⟩
  have x8 := x7.trans (za2 (pen := pen) (.lst [.ref sp, .int (kd + 1)]))
  have hcl8 : L2.upd H8 pen (.lst [.ref sp, .int (kd + 1)]) cl = some (.lst zs) := by rw [zao ncp]; exact hcl7
  have hpl8 : L2.upd H8 pen (.lst [.ref sp, .int (kd + 1)]) pl = some (.lst xs) := by rw [zao npp]; exact hpl7
  have d8 := DnL.pen (ys := [.ref sp, .int (kd + 1)]) pn7.at_ pt.flat d7
  have pn8 := pn7.to (za2 (pen := pen) (H := H8) (.lst [.ref sp, .int (kd + 1)])) zae
  generalize L2.upd H8 pen (.lst [.ref sp, .int (kd + 1)]) = H9 at x8 hcl8 hpl8 d8 pn8 ⊢
  refine ⟨_, _, rfl, rfl, _, rfl, _, rfl, pen, sp, ns, 4, kd + 1, rfl, pn8, by omega, by omega, by decide, fun y y0 y1 => ?_⟩
  have x9 := x8.trans (za2 (pen := pen) (.lst [.ref sp, .int (kd + 1 + 1)]))
  have hcl9 : L2.upd H9 pen (.lst [.ref sp, .int (kd + 1 + 1)]) cl = some (.lst zs) := by rw [zao ncp]; exact hcl8
  have hpl9 : L2.upd H9 pen (.lst [.ref sp, .int (kd + 1 + 1)]) pl = some (.lst xs) := by rw [zao npp]; exact hpl8
  have d9 := DnL.pen (ys := [.ref sp, .int (kd + 1 + 1)]) pn8.at_ pt.flat d8
  have hp9 : L2.upd H9 pen (.lst [.ref sp, .int (kd + 1 + 1)]) pen = some (.lst [.ref sp, .int (kd + 1 + 1)]) := zae
  generalize L2.upd H9 pen (.lst [.ref sp, .int (kd + 1 + 1)]) = HA at x9 hcl9 hpl9 d9 hp9 ⊢
  have y2 : 0 ≤ y / 3 := Int.ediv_nonneg y0 (by decide)
  have y3 : y / 3 ≤ 1 := by omega
  refine ⟨_, _, rfl, rfl, ⟨by decide, by decide⟩, _, _, rfl, rfl, .inr ⟨by omega, by omega⟩, _, _, rfl, rfl, ?_⟩
  refine ⟨_, rfl, .inl ⟨rfl, _, SqL.of hcl9⟩, _, rfl, _, rfl, pl, _, rfl, .inl ⟨SqL.of hpl9, fun tk htk => ?_⟩⟩
  refine ⟨small (by show 3 ≤ 1000; decide), fun tt htt => ?_⟩
  have sa := zaj htk (.tup xs)
  have sb := zaj htt (.tup [.str ("most" : Str), .int (x - 1 - far * (y / 3)), .ref tk])
  have sab := sa.trans sb
  refine ⟨cl, _, _, rfl, rfl, sab _ _ hcl9, zc3 (by omega), ?_⟩
  exact nx _ _ _ _ (x9.trans (Same.x sab)) (sab _ _ hp9) ⟨tt, _, rfl, zae, _, _, rfl, rfl, _, _, rfl, rfl, _, _, rfl, ⟨tk, _, rfl, sb _ _ zae, DnL.same sab _ _ d9⟩, rfl⟩ (sab _ _ hcl9)
 obtain ⟨tC, hC, rC⟩ := tailC
 have elseE : ∃ t, PSs (zdh CX0 P w K mg base ["_law_state", "_law_many_here", "_law_most", "_law_cross_here", "_law_turn", "_law_one", "_law_other", "_law_way", "_law_far", "_law_pairs", "_law_total", "_law_top"] "_law_cross" (zab zbf) a.f_law_cross cdv A outer s H E).nox (zr7 (zah zbf) [(1, false), (3, true)]) t ∧ ∀ (D : zjg) (cl : Addr) (one kc : Int) (zs : List V) (v4 v6 v7 v8 v9 v10 v11 : Option V) (H4 : Hp), Pen K H4 pen sp ns kc → 0 ≤ kc → kc ≤ 940000 → 0 ≤ one → one < m → H4 cl = some (.lst zs) → zs.length ≤ 100 → cl ≠ pen →
   (∀ (v : V) (top : Int) (ps : List PyData) (w8 w9 w10 w11 : Option V) (kd : Int) (H6 : Hp), SameX pen H4 H6 → H6 pen = some (.lst [.ref sp, .int kd]) → kc ≤ kd → kd ≤ kc + 21 → Dn H6 (.tuple [.str ("most" : Str), .int top, .tuple ps]) v → (ps.all zfj = true ∧ ps.all (zbs 1) = true ∧ zbu (m : Int) (ps.map zny) (-1) = true ∧ ps.length ≤ m ∧ 0 < ps.length) → H6 cl = some (.lst zs) → D.nx [some (.ref pen), some (.int (m : Int)), some (.int most), some (.ref cl), v4, some (.int one), v6, v7, w8, w9, w10, w11] (L2.upd H6 cl (.lst (zs ++ [v])))) →
   t D [some (.ref pen), some (.int (m : Int)), some (.int most), some (.ref cl), v4, some (.int one), v6, v7, v8, v9, v10, v11] H4 := by
  refine ⟨_, (zaf (zax (i := 8) sc_law_cross.nd rfl (Or.inr rfl) (zan (ixL (K := K)) (zcn (zaa zad (zaa (zaz zui zad zad) zac))) (zag G_law_take hr.lv rfl T.g_law_take T.K_law_take.kp T.B_law_take .nil zal (zaa (pv 0) (zaa zad zac))) (fun _ _ => rfl)))
   (zaf (zjf (i := 9) sc_law_cross.nd rfl rfl rfl (sc0 := zab zbf) (XN := ["_law_state", "_law_many_here", "_law_most", "_law_cross_here", "_law_turn", "_law_one", "_law_other", "_law_way", "_law_far", "_law_pairs", "_law_total", "_law_top"]) (N' := ["_law_c", "_law_state", "_law_far"]) (n := 1) (kp := [0, 8]) rfl (zhi rfl T.m_range (zaa (pv 1) zac)) rfl rfl (by decide +kernel) (fun _ _ _ _ _ => (za3 (i := 0) (by show List.Nodup (["_law_c", "_law_state", "_law_far"] : List Str); decide +kernel) rfl (Or.inl rfl))) (fun _ _ _ _ _ => (zef (zar zh2 (zag G_law_take hr.lv rfl T.g_law_take T.K_law_take.kp T.B_law_take .nil zal (zaa (pv 1) (zaa zad zac))) zad (zaq _)))) (fun _ _ _ _ _ => (za8 (zaa (pv 0) (zaa (zaz zfe (zag G_law_take hr.lv rfl T.g_law_take T.K_law_take.kp T.B_law_take .nil zal (zaa (pv 1) (zaa (zaz zej zad (pv 2)) zac))) (zaz zo5 (pv 2) zad)) zac)))))
   (zaf (za9 (zar (zpe hr.units) (pv 9) (zcn zac) (zaq _)) (zai (zax (i := 9) sc_law_cross.nd rfl (Or.inl rfl) (zcn (zaa (za8 (zaa (pv 5) (zaa (pv 8) zac))) zac)))) zau)
   hC))), ?_⟩
  intro D cl one kc zs v4 v6 v7 v8 v9 v10 v11 H4 pn4 k40 k41 o0 o1 hc4 zfew ncp nx
  refine ⟨_, _, rfl, rfl, ⟨by decide, by decide, by decide⟩, small (by show 2 ≤ 1000; decide), fun fl' hfl => ?_⟩
  have sf := zaj hfl (.lst [.int 4, .int (10 ^ (57 : Int).toNat)])
  have xf := Same.x (pen := pen) sf
  have nfp : fl' ≠ pen := Ne.symm (zav pn4.at_ hfl)
  refine ⟨_, rfl, pen, sp, ns, 2, kc, rfl, pn4.to xf (sf _ _ pn4.at_), by omega, by omega, by decide, fun y y0 y1 => ?_⟩
  have xg := xf.trans (za2 (pen := pen) (.lst [.ref sp, .int (kc + 1)]))
  obtain ⟨far, hat, f0⟩ : ∃ far : Int, atI [V.int 4, V.int (10 ^ (57 : Int).toNat)] y = some (.int far) ∧ 0 < far := by
   have e : y = 0 ∨ y = 1 := by omega
   rcases e with e | e <;> rw [e]
   ·exact ⟨_, rfl, by decide⟩
   ·exact ⟨_, rfl, by decide +kernel⟩
  refine ⟨fl', _, _, _, rfl, rfl, SqL.of (by rw [zao nfp]; exact zae), hat, ?_⟩
  have hpg : L2.upd (L2.upd H4 fl' (.lst [.int 4, .int (10 ^ (57 : Int).toNat)])) pen (.lst [.ref sp, .int (kc + 1)]) pen = some (.lst [.ref sp, .int (kc + 1)]) := zae
  generalize L2.upd (L2.upd H4 fl' (.lst [.int 4, .int (10 ^ (57 : Int).toNat)])) pen (.lst [.ref sp, .int (kc + 1)]) = H5 at xg hpg ⊢
  generalize hkd : kc + 1 = kd at *
  have pn5 := pn4.to xg hpg
  refine ⟨_, rfl, _, rfl, by rw [p62]; omega, by rw [p62]; omega, ?_⟩
  rw [Int.toNat_natCast]
  refine zkn (k := m) (fun j ys σ H6 => (∃ v, σ = [v, some (.ref pen), some (.int far)]) ∧ SameX pen H5 H6 ∧ j ≤ m ∧ ∃ (kq : Int) (ps : List PyData), H6 pen = some (.lst [.ref sp, .int kq]) ∧ kd ≤ kq ∧ kq ≤ kd + 2 * j ∧ zin H6 j ps ys) ⟨⟨none, rfl⟩, SameX.refl _ _, Nat.zero_le _, kd, [], hpg, Int.le_refl _, by omega, ⟨rfl, rfl, rfl, rfl, Nat.le_refl _⟩⟩ (fun j ys σ H6 hj pv => ?_) (fun j ys σ H6 hj pv => ?_) (fun ys σ H6 pv pl hpl => ?_)
  ·obtain ⟨_, _, jm, kq, ps, _, _, _, pt⟩ := pv
   have := pt.few
   have := pt.dn.length
   exact small (by omega)
  ·obtain ⟨⟨v, rfl⟩, sx6, jm, kq, ps, hp6, kq0, kq1, pt⟩ := pv
   have few := pt.few
   have pn6 := pn5.to sx6 hp6
   refine ⟨_, rfl, pen, sp, ns, 3, kq, rfl, pn6, by omega, by omega, by decide, fun b b0 b1 => ?_⟩
   have xh := sx6.trans (za2 (pen := pen) (.lst [.ref sp, .int (kq + 1)]))
   have d7 := DnL.pen (ys := [.ref sp, .int (kq + 1)]) hp6 pt.flat pt.dn
   have hp7 : L2.upd H6 pen (.lst [.ref sp, .int (kq + 1)]) pen = some (.lst [.ref sp, .int (kq + 1)]) := zae
   generalize L2.upd H6 pen (.lst [.ref sp, .int (kq + 1)]) = H7 at xh d7 hp7 ⊢
   refine ⟨_, _, rfl, rfl, _, rfl, ?_⟩
   refine zcq (fun c => ?_) (fun c => ?_)
   ·refine ⟨_, rfl, _, rfl, _, rfl, _, _, rfl, rfl, .inl ⟨by decide, by decide⟩, pen, sp, ns, _, kq + 1, rfl, pn5.to xh hp7, by omega, by omega, by omega, fun e e0 e1 => ?_⟩
    have xi := xh.trans (za2 (pen := pen) (.lst [.ref sp, .int (kq + 1 + 1)]))
    have d8 := DnL.pen (ys := [.ref sp, .int (kq + 1 + 1)]) hp7 pt.flat d7
    have hp8 : L2.upd H7 pen (.lst [.ref sp, .int (kq + 1 + 1)]) pen = some (.lst [.ref sp, .int (kq + 1 + 1)]) := zae
    generalize L2.upd H7 pen (.lst [.ref sp, .int (kq + 1 + 1)]) = H8 at xi d8 hp8 ⊢
    refine ⟨_, rfl, _, _, rfl, rfl, ⟨by decide, by decide⟩, _, _, rfl, rfl, small (by show 2 ≤ 1000; decide), fun tp htp => ?_⟩
    have s9 := zaj htp (.tup [.int (j : Int), .int (e - far / 2)])
    refine ⟨⟨_, rfl⟩, xi.trans (Same.x s9), hj, kq + 1 + 1, ps ++ [.tuple [.int (j : Int), .int (e - far / 2)]], s9 _ _ hp8, by omega, by push_cast; omega, ⟨?_, ?_, ?_, ?_, ?_⟩⟩
    ·exact (DnL.same s9 _ _ d8).append ⟨_, [], rfl, ⟨tp, _, rfl, zae, _, _, rfl, rfl, _, _, rfl, rfl, rfl⟩, rfl⟩
    ·rw [List.all_append, pt.ok]
     rfl
    ·rw [List.all_append, pt.flat]
     rfl
    ·rw [List.map_append]
     show zbu ((j + 1 : Nat) : Int) (ps.map zny ++ [.int (j : Int)]) (-1) = true
     exact zfo (by omega) pt.ris (by omega)
    ·rw [List.length_append, List.length_singleton]
     omega
   ·exact ⟨⟨_, rfl⟩, xh, hj, kq + 1, ps, hp7, by omega, by push_cast; omega, ⟨d7, pt.ok, pt.flat, zec (by omega) pt.ris, by omega⟩⟩
  obtain ⟨_, sx6, _, kq, ps, hp6, kq0, kq1, pt⟩ := pv
  have few := pt.few
  have lps := pt.dn.length
  have s7 := zaj hpl (.lst ys)
  have x7 := xg.trans (sx6.trans (Same.x s7))
  have hp7 := s7 _ _ hp6
  have d7 := DnL.same s7 _ _ pt.dn
  have hpl7 : L2.upd H6 pl (.lst ys) pl = some (.lst ys) := zae
  have npp : pl ≠ pen := Ne.symm (zav hp6 hpl)
  generalize L2.upd H6 pl (.lst ys) = H7 at s7 x7 hp7 d7 hpl7 ⊢
  refine ⟨_, rfl, small (by decide), fun nl hnl => ?_⟩
  have s8 := zaj hnl (.lst [])
  refine ⟨pl, nl, ys, rfl, rfl, s8 _ _ hpl7, zae, _, rfl, ?_⟩
  by_cases ye : ys = []
  ·refine zd5 ye ?_
   refine ⟨_, rfl, _, rfl, small (by show 2 ≤ 1000; decide), fun tp htp => ?_⟩
   have s9 := zaj htp (.tup [.int one, .int far])
   refine ⟨small (by show 1 ≤ 1000; decide), fun pl2 hpl2 => ?_⟩
   have s10 := zaj hpl2 (.lst [.ref tp])
   have sA := (s8.trans s9).trans s10
   have xA := x7.trans (Same.x (pen := pen) sA)
   have ptA : zin _ m [.tuple [.int one, .int far]] [.ref tp] := ⟨⟨_, [], rfl, ⟨tp, _, rfl, s10 _ _ zae, _, _, rfl, rfl, _, _, rfl, rfl, rfl⟩, rfl⟩, rfl, rfl, by
    show (decide ((-1 : Int) + 1 ≤ one) && decide (one ≤ (m : Int) - 1) && true) = true
    rw [decide_eq_true (by omega), decide_eq_true (by omega)]
    rfl, by show 1 ≤ m; omega⟩
   refine rC _ cl pl2 far kq _ _ zs _ _ _ _ _ _ _ (pn4.to xA (sA _ _ hp7)) (by omega) (by omega) zae ptA (by show 0 < 1; decide) (xA _ _ ncp hc4) (by omega) ncp (Ne.symm (zav ((s8.trans s9) _ _ hp7) hpl2)) (fun v top w10 H9 x9 hp9 dv hc9 => ?_)
   exact nx v top _ _ _ _ _ (kq + 1 + 1) H9 (xA.trans x9) hp9 (by omega) (by omega) dv ⟨rfl, rfl, ptA.ris, ptA.few, by show 0 < 1; decide⟩ hc9
  ·refine zb5 ye ?_
   have xA := x7.trans (Same.x (pen := pen) s8)
   have p0 : 0 < ps.length := by
    rw [lps]
    exact List.length_pos_iff.mpr ye
   have ptA : zin _ m ps ys := ⟨DnL.same s8 _ _ d7, pt.ok, pt.flat, pt.ris, pt.few⟩
   refine rC _ cl pl far kq _ _ zs _ _ _ _ _ _ _ (pn4.to xA (s8 _ _ hp7)) (by omega) (by omega) (s8 _ _ hpl7) ptA p0 (xA _ _ ncp hc4) (by omega) ncp npp (fun v top w10 H9 x9 hp9 dv hc9 => ?_)
   exact nx v top _ _ _ _ _ (kq + 1 + 1) H9 (xA.trans x9) hp9 (by omega) (by omega) dv ⟨pt.ok, pt.flat, pt.ris, pt.few, p0⟩ hc9
 obtain ⟨tE, hE, rE⟩ := elseE
 refine ⟨_, (zaf (zax (i := 3) sc_law_cross.nd rfl (Or.inl rfl) (zcn zac))
   (zaf (zgs PassesOwn.never rfl (zhi rfl T.m_range (zaa (zag G_law_take hr.lv rfl T.g_law_take T.K_law_take.kp T.B_law_take .nil zal (zaa (pv 0) (zaa (zaz zct (pv 2) zad) zac))) zac)) (za3 (i := 4) sc_law_cross.nd rfl (Or.inl rfl)) (zaf (zax (i := 5) sc_law_cross.nd rfl (Or.inl rfl) (zag G_law_take hr.lv rfl T.g_law_take T.K_law_take.kp T.B_law_take .nil zal (zaa (pv 0) (zaa (pv 1) zac))))
   (zaf (zax (i := 6) sc_law_cross.nd rfl (Or.inl rfl) (zaz zfl (zaz zct (zaz zct (pv 5) zad) (zag G_law_take hr.lv rfl T.g_law_take T.K_law_take.kp T.B_law_take .nil zal (zaa (pv 0) (zaa (za1 (zeu rfl) rfl T.m_max PyProof.Rows.boot_max (zaa zad (zaa (zaz zfe (pv 1) zad) zac))) zac)))) (pv 1)))
   (zaf (zax (i := 7) sc_law_cross.nd rfl (Or.inl rfl) (zag G_law_take hr.lv rfl T.g_law_take T.K_law_take.kp T.B_law_take .nil zal (zaa (pv 0) (zaa zad zac))))
   (zai (za9 (PW.pt (zhu (zar zo3 (pv 7) zad (zaq _)) (zf3 (zar zh2 (pv 1) zad (zaq _))))) (zai (zeg (zhp (K := K) PySem.F.plainAttrs_list PySem.F.slot_list_append PySem.F.type_list_append zeo (pv 3) (zaa (za8 (zaa (zan (ixL (K := K)) (zcn (zaa za5 (zaa za5 zac))) (pv 7) (fun _ _ => rfl)) (zaa (pv 5) (zaa (pv 6) zac)))) zac)))) hE))))))
   (zai (zam (pv 3))))), ?_⟩
 refine ⟨small (by decide), fun cl hcl => ?_⟩
 have ncp : cl ≠ pen := Ne.symm (zav pn.at_ hcl)
 have s1 := zaj hcl (.lst [])
 have pn1 := pn.to (Same.x s1) (s1 _ _ pn.at_)
 have hcl1 : L2.upd H cl (.lst []) cl = some (.lst []) := zae
 have x1 : SameX pen H _ := Same.x (pen := pen) s1
 generalize L2.upd H cl (.lst []) = H1 at s1 pn1 hcl1 x1 ⊢
 refine ⟨_, rfl, _, rfl, _, _, rfl, rfl, pen, sp, ns, _, k, rfl, pn1, by omega, by omega, by omega, fun n n0 n1 => ?_⟩
 have x2 := x1.trans (za2 (pen := pen) (.lst [.ref sp, .int (k + 1)]))
 have hcl2 : L2.upd H1 pen (.lst [.ref sp, .int (k + 1)]) cl = some (.lst []) := by rw [zao ncp]; exact hcl1
 have hp2 : L2.upd H1 pen (.lst [.ref sp, .int (k + 1)]) pen = some (.lst [.ref sp, .int (k + 1)]) := zae
 generalize L2.upd H1 pen (.lst [.ref sp, .int (k + 1)]) = H2 at x2 hcl2 hp2 ⊢
 refine ⟨_, rfl, by rw [p62]; omega, by rw [p62]; omega, ?_⟩
 refine znt (n := n.toNat) (fun i σ H3 => ∃ (v4 v5 v6 v7 v8 v9 v10 v11 : Option V) (kc : Int) (cs : List PyData) (zs : List V), σ = [some (.ref pen), some (.int (m : Int)), some (.int most), some (.ref cl), v4, v5, v6, v7, v8, v9, v10, v11] ∧ SameX pen H H3 ∧ H3 pen = some (.lst [.ref sp, .int kc]) ∧ k ≤ kc ∧ kc ≤ k + 1 + 26 * i ∧ H3 cl = some (.lst zs) ∧ DnL H3 cs zs ∧ cs.length = i ∧ (∀ c ∈ cs, zgd m c = true) ∧ cs.all (zbs 3) = true)
  ⟨_, _, _, _, _, _, _, _, k + 1, [], [], rfl, x2, hp2, by omega, by omega, hcl2, rfl, rfl, (fun _ z => nomatch z), rfl⟩ ?_ ?_
 ·rintro i σ H3 hi ⟨v4, v5, v6, v7, v8, v9, v10, v11, kc, cs, zs, rfl, sx, hp3, kc0, kc1, hc3, dn, ln, okc, fl⟩
  have i8 : i ≤ 8 := by omega
  have lz := dn.length
  have pn3 := pn.to sx hp3
  have done : ∀ (dd : PyData) (v : V) (kd : Int) (H6 : Hp) (w4 w5 w6 w7 w8 w9 w10 w11 : Option V), SameX pen H3 H6 → H6 pen = some (.lst [.ref sp, .int kd]) → kc ≤ kd → kd ≤ kc + 26 → H6 cl = some (.lst zs) → Dn H6 dd v → zgd m dd = true → zbs 3 dd = true →
    (∃ (v4 v5 v6 v7 v8 v9 v10 v11 : Option V) (kc : Int) (cs : List PyData) (zs' : List V), [some (.ref pen), some (.int (m : Int)), some (.int most), some (.ref cl), w4, w5, w6, w7, w8, w9, w10, w11] = [some (.ref pen), some (.int (m : Int)), some (.int most), some (.ref cl), v4, v5, v6, v7, v8, v9, v10, v11] ∧ SameX pen H (L2.upd H6 cl (.lst (zs ++ [v]))) ∧ (L2.upd H6 cl (.lst (zs ++ [v]))) pen = some (.lst [.ref sp, .int kc]) ∧ k ≤ kc ∧ kc ≤ k + 1 + 26 * ((i + 1 : Nat) : Int) ∧ (L2.upd H6 cl (.lst (zs ++ [v]))) cl = some (.lst zs') ∧ DnL (L2.upd H6 cl (.lst (zs ++ [v]))) cs zs' ∧ cs.length = i + 1 ∧ (∀ c ∈ cs, zgd m c = true) ∧ cs.all (zbs 3) = true) := by
   intro dd v kd H6 w4 w5 w6 w7 w8 w9 w10 w11 sx6 hp6 kd0 kd1 hc6 dv ti fd
   refine ⟨_, _, _, _, _, _, _, _, kd, cs ++ [dd], zs ++ [v], rfl, SameX.put (sx.trans sx6) hcl ncp hc6, ?_, by omega, by push_cast; omega, zae, ?_, ?_, fun c hc' => ?_, ?_⟩
   ·rw [zao (Ne.symm ncp)]
    exact hp6
   ·exact (DnL.pen hc6 fl (DnL.tupS (SameX.tup hp3 sx6) fl dn)).append ⟨v, [], rfl, Dn.pen hc6 fd dv, rfl⟩
   ·rw [List.length_append, List.length_singleton, ln]
   ·rcases List.mem_append.mp hc' with z | z
    ·exact okc c z
    ·rw [List.mem_singleton.mp z]
     exact ti
   ·rw [List.all_append, fl]
    simp [fd]
  refine ⟨_, rfl, _, rfl, pen, sp, ns, m, kc, rfl, pn3, by omega, by omega, by omega, fun one o0 o1 => ?_⟩
  have xa := za2 (pen := pen) (H := H3) (.lst [.ref sp, .int (kc + 1)])
  refine ⟨_, rfl, _, _, rfl, rfl, _, rfl, _, rfl, _, _, rfl, rfl, _, _, rfl, pen, sp, ns, _, kc + 1, rfl, pn3.to xa zae, by omega, by omega, (by split <;> omega), fun x x0 x1 => ?_⟩
  have xb := xa.trans (za2 (pen := pen) (.lst [.ref sp, .int (kc + 1 + 1)]))
  refine ⟨_, _, rfl, rfl, _, rfl, _, _, rfl, rfl, (by show (0 : Int) < m; omega), ?_⟩
  refine ⟨_, rfl, pen, sp, ns, 4, kc + 1 + 1, rfl, pn3.to xb zae, by omega, by omega, by decide, fun way w0 w1 => ?_⟩
  have xc := xb.trans (za2 (pen := pen) (.lst [.ref sp, .int (kc + 1 + 1 + 1)]))
  have hpc : L2.upd (L2.upd (L2.upd H3 pen (.lst [.ref sp, .int (kc + 1)])) pen (.lst [.ref sp, .int (kc + 1 + 1)])) pen (.lst [.ref sp, .int (kc + 1 + 1 + 1)]) pen = some (.lst [.ref sp, .int (kc + 1 + 1 + 1)]) := zae
  generalize L2.upd (L2.upd (L2.upd H3 pen (.lst [.ref sp, .int (kc + 1)])) pen (.lst [.ref sp, .int (kc + 1 + 1)])) pen (.lst [.ref sp, .int (kc + 1 + 1 + 1)]) = H4 at xc hpc ⊢
  have hc4 := xc _ _ ncp hc3
  have pn4 := pn3.to xc hpc
  refine ⟨_, rfl, _, _, rfl, rfl, _, rfl, ?_⟩
  have both : (way < 2 ∧ (1 : Int) < m) ∨ ¬ (way < 2 ∧ (1 : Int) < m) := Decidable.em _
  rcases both with ⟨c', m2'⟩ | nb
  ·refine zj3 (decide_eq_true c') ?_
   refine ⟨_, rfl, _, _, rfl, rfl, _, rfl, ?_⟩
   refine zj3 (decide_eq_true m2') ?_
   refine ⟨_, rfl, .inl ⟨rfl, _, SqL.of hc4⟩, small (by show 2 ≤ 1000; decide), fun lp hlp => ?_⟩
   have sn := zaj hlp (.lst [.str ("needs" : Str), .str ("bans" : Str)])
   obtain ⟨sN, sk, snm, sok, hat⟩ : ∃ sN : Str, (sN = ("needs" : Str) ∨ sN = ("bans" : Str)) ∧ ¬ sN = ("most" : Str) ∧ PyData.strOk sN = true ∧ atI ([.str ("needs" : Str), .str ("bans" : Str)] : List V) way = some (.str sN) := by
    have e : way = 0 ∨ way = 1 := by omega
    rcases e with e | e <;> rw [e]
    ·exact ⟨_, .inl rfl, by decide +kernel, zh8, rfl⟩
    ·exact ⟨_, .inr rfl, by decide +kernel, zn3, rfl⟩
   refine ⟨_, rfl, lp, _, _, _, rfl, rfl, SqL.of zae, hat, _, rfl, _, rfl, small (by show 3 ≤ 1000; decide), fun tp htp => ?_⟩
   have x2 : x < (m : Int) - 1 := by revert x1; split <;> omega
   obtain ⟨n0', n1', n2'⟩ := zrb (many := m) m2' (by omega) o0 o1 x0 x2
   have st := zaj htp (.tup [.str sN, .int one, .int ((one + 1 + x) % (m : Int))])
   have snt := sn.trans st
   refine ⟨cl, _, _, rfl, rfl, snt _ _ hc4, zc3 (by omega), ?_⟩
   refine done (.tuple [.str sN, .int one, .int ((one + 1 + x) % (m : Int))]) _ (kc + 1 + 1 + 1) _ _ _ _ _ _ _ _ _ (xc.trans (Same.x snt)) (snt _ _ hpc) (by omega) (by omega) (snt _ _ hc4) ⟨tp, _, rfl, zae, _, _, rfl, rfl, _, _, rfl, rfl, _, _, rfl, rfl, rfl⟩ ?_ ?_
   ·show znc m sN _ _ = true
    unfold znc
    rw [if_neg snm, if_pos sk]
    show ((decide ((0 : Int) ≤ _) && decide (_ ≤ (m : Int) - 1)) && ((decide ((0 : Int) ≤ _) && decide (_ ≤ (m : Int) - 1)) && !decide (_ = _))) = true
    rw [decide_eq_true o0, decide_eq_true (by omega), decide_eq_true n0', decide_eq_true (by omega), decide_eq_false n2']
    rfl
   ·show (true && (zbs 2 (.str sN) && (true && (true && true)))) = true
    rw [show zbs 2 (.str sN) = true from sok]
    rfl
  ·have mk : ∀ (v : V) (top : Int) (ps : List PyData) (w6 w8 w9 w10 w11 : Option V) (kd : Int) (H6 : Hp), SameX pen H4 H6 → H6 pen = some (.lst [.ref sp, .int kd]) → kc + 1 + 1 + 1 ≤ kd → kd ≤ kc + 1 + 1 + 1 + 21 → Dn H6 (.tuple [.str ("most" : Str), .int top, .tuple ps]) v → (ps.all zfj = true ∧ ps.all (zbs 1) = true ∧ zbu (m : Int) (ps.map zny) (-1) = true ∧ ps.length ≤ m ∧ 0 < ps.length) → H6 cl = some (.lst zs) → _ := fun v top ps w6 w8 w9 w10 w11 kd H6 x6 hp6 kd0 kd1 dv pp hc6 => done (.tuple [.str ("most" : Str), .int top, .tuple ps]) v kd H6 (some (.int (i : Int))) (some (.int one)) w6 (some (.int way)) w8 w9 w10 w11 (xc.trans x6) hp6 (by omega) (by omega) hc6 dv (by
     obtain ⟨pok, _, pri, _, p0⟩ := pp
     show znc m ("most" : Str) (.int top) (.tuple ps) = true
     unfold znc
     rw [if_pos rfl]
     show (true && (decide (0 < ps.length) && ps.all zfj && zbu m (ps.map zny) (-1))) = true
     rw [decide_eq_true p0, pok, pri]
     rfl) (by
     obtain ⟨_, pfl, _, pfw, _⟩ := pp
     have f2 : zbs 2 (.tuple ps) = true := by
      show (decide (ps.length ≤ 1000) && ps.all (zbs 1)) = true
      rw [decide_eq_true (by omega), pfl]
      rfl
     show (true && (zbs 2 (.str ("most" : Str)) && (zbs 2 (.int top) && (zbs 2 (.tuple ps) && true)))) = true
     rw [show zbs 2 (.str ("most" : Str)) = true from znl, f2]
     rfl)
   by_cases c : way < 2
   ·refine zj3 (decide_eq_true c) ?_
    refine ⟨_, rfl, _, _, rfl, rfl, _, rfl, ?_⟩
    refine zhc (decide_eq_false fun z => nb ⟨c, z⟩) ?_
    exact rE _ cl one (kc + 1 + 1 + 1) zs _ _ _ _ _ _ _ H4 pn4 (by omega) (by omega) o0 o1 hc4 (by omega) ncp fun v top ps w8 w9 w10 w11 => mk v top ps _ w8 w9 w10 w11
   ·refine zhc (decide_eq_false c) ?_
    refine zhk ?_
    exact rE _ cl one (kc + 1 + 1 + 1) zs _ _ _ _ _ _ _ H4 pn4 (by omega) (by omega) o0 o1 hc4 (by omega) ncp fun v top ps w8 w9 w10 w11 => mk v top ps _ w8 w9 w10 w11
 ·rintro σ H3 ⟨v4, v5, v6, v7, v8, v9, v10, v11, kc, cs, zs, rfl, sx, hp3, kc0, kc1, hc3, dn, ln, okc, fl⟩
  exact ⟨_, rfl, q cl cs zs kc H3 sx hp3 (by omega) (by omega) hc3 hcl dn okc (by omega) fl⟩
end
section
variable {P : Program} {w : World} {K : PySem.W.Frag} {mg : Str → Option Value} {base : Heap} {a : Adr} {d : Fds}
theorem zl7 (T : Txt K mg a d) : zbd P w K mg base CX0 2 a.f_law_many d.f_law_many ["_law_state"] (zs3 K) := by
 have G_law_take := zdt (P := P) (w := w) (base := base) T
 refine T.K_law_many.ok zm1 (fun vs H Q E h => ?_) (fun cdv A outer s H vs Q E hr h => ?_)
 ·obtain ⟨pen, sp, ns, k, rfl, _⟩ := h
  rfl
 obtain ⟨pen, sp, ns, k, rfl, pn, k0, k1, q⟩ := h
 refine ⟨_, (zaf (za9 (zar zb4 (zag G_law_take hr.lv rfl T.g_law_take T.K_law_take.kp T.B_law_take .nil zal (zaa (pv 0) (zaa zad zac))) zad (zaq _)) (zai (zam (zaz zct zad (zag G_law_take hr.lv rfl T.g_law_take T.K_law_take.kp T.B_law_take .nil zal (zaa (pv 0) (zaa zad zac)))))) zau)
   (zai (zam (zaz zct zad (zag G_law_take hr.lv rfl T.g_law_take T.K_law_take.kp T.B_law_take .nil zal (zaa (pv 0) (zaa zad zac))))))), ?_⟩
 refine ⟨_, rfl, pen, sp, ns, 8, k, rfl, pn, k0, by omega, by decide, fun c c0 c1 => ?_⟩
 have sx1 := za2 (pen := pen) (H := H) (.lst [.ref sp, .int (k + 1)])
 have p1 := pn.to sx1 zae
 refine ⟨rfl, _, rfl, ?_⟩
 refine zcq (fun c2 => ?_) (fun c2 => ?_)
 ·refine ⟨_, rfl, pen, sp, ns, 3, k + 1, rfl, p1, by omega, by omega, by decide, fun d d0 d1 => ?_⟩
  obtain ⟨m, rfl⟩ : ∃ m : Nat, d = (m : Int) := ⟨d.toNat, by omega⟩
  refine ⟨_, _, rfl, rfl, ?_⟩
  have := q (7 + m) (k + 1 + 1) _ (sx1.trans (za2 (pen := pen) _)) zae (by omega) (by omega) (by omega) (by omega)
  rw [Int.natCast_add] at this
  exact this
 ·refine ⟨_, rfl, pen, sp, ns, 6, k + 1, rfl, p1, by omega, by omega, by decide, fun d d0 d1 => ?_⟩
  obtain ⟨m, rfl⟩ : ∃ m : Nat, d = (m : Int) := ⟨d.toNat, by omega⟩
  refine ⟨_, _, rfl, rfl, ?_⟩
  have := q (1 + m) (k + 1 + 1) _ (sx1.trans (za2 (pen := pen) _)) zae (by omega) (by omega) (by omega) (by omega)
  rw [Int.natCast_add] at this
  exact this
end
section
variable {P : Program} {w : World} {K : PySem.W.Frag} {mg : Str → Option Value} {base : Heap} {a : Adr} {d : Fds}
theorem zh4 (T : Txt K mg a d) : zbd P w K mg base CX0 3 a.f_law_wood d.f_law_wood ["_law_state", "_law_many_here", "_law_most"] (zsq K) := by
 have G_law_boughs := zjw (P := P) (w := w) (base := base) T
 have G_law_cross := ze3 (P := P) (w := w) (base := base) T
 refine T.K_law_wood.ok znd (fun vs H Q E h => ?_) (fun cdv A outer s H vs Q E hr h => ?_)
 ·obtain ⟨pen, sp, ns, m, most, k, rfl, _⟩ := h
  rfl
 obtain ⟨pen, sp, ns, m, most, k, rfl, pn, k0, k1, m1, m9, mo0, mo1, q⟩ := h
 refine ⟨_, (zai (zam (za8 (zaa (pv 1) (zaa (zcy zcz rfl T.m_tuple PyProof.Rows.boot_tuple (zaa (zag G_law_boughs hr.lv rfl T.g_law_boughs T.K_law_boughs.kp T.B_law_boughs .nil zal (zaa (pv 0) (zaa (pv 1) zac))) zac)) (zaa (zcy zcz rfl T.m_tuple PyProof.Rows.boot_tuple (zaa (zag G_law_cross hr.lv rfl T.g_law_cross T.K_law_cross.kp T.B_law_cross .nil zal (zaa (pv 0) (zaa (pv 1) (zaa (pv 2) zac)))) zac)) zac)))))), ?_⟩
 refine ⟨_, rfl, _, rfl, _, rfl, pen, sp, ns, m, k, rfl, pn, k0, by omega, m1, m9, fun l bs xs k2 H2 sx2 hp2 k20 k21 hl2 nl dn gb b8 fb => ?_⟩
 have lx := dn.length
 refine ⟨l, _, rfl, .inl ⟨SqL.of hl2, fun t1 ht1 => ?_⟩⟩
 have s3 := zaj ht1 (.tup xs)
 have ht13 : L2.upd H2 t1 (.tup xs) t1 = some (.tup xs) := zae
 have hp3 := s3 _ _ hp2
 have sx3 := sx2.trans (Same.x (pen := pen) s3)
 have d3 := DnL.same s3 _ _ dn
 generalize L2.upd H2 t1 (.tup xs) = H3 at s3 ht13 hp3 sx3 d3 ⊢
 refine ⟨_, rfl, _, rfl, _, rfl, pen, sp, ns, m, most, k2, rfl, pn.to sx3 hp3, by omega, by omega, m1, m9, mo0, mo1, fun cl cs zs k4 H4 sx4 hp4 k40 k41 hc4 nc dc okc lc fc => ?_⟩
 refine ⟨cl, _, rfl, .inl ⟨SqL.of hc4, fun t2 ht2 => ?_⟩⟩
 have s5 := zaj ht2 (.tup zs)
 refine ⟨small (by show 3 ≤ 1000; decide), fun wd hwd => ?_⟩
 have s6 := zaj hwd (.tup [.int (m : Int), .ref t1, .ref t2])
 have s56 := s5.trans s6
 have tS := SameX.tup hp3 sx4
 refine q wd bs cs k4 _ ((sx3.trans sx4).trans (Same.x s56)) (s56 _ _ hp4) (by omega) (by omega) ⟨⟨xs, zs, ⟨t1, t2, zae, s56 _ _ (tS _ _ ht13), s6 _ _ zae⟩, DnL.same s56 _ _ (DnL.tupS tS fb d3), DnL.same s56 _ _ dc⟩, gb, okc, by omega, by omega, fb, fc, m1, m9⟩ lc
end
section
variable {P : Program} {w : World} {K : PySem.W.Frag} {mg : Str → Option Value} {base : Heap} {a : Adr} {d : Fds}
def zsb (K : PySem.W.Frag) : Sp := fun vs H Q _ => ∃ (pen sp : Addr) (ns : List Int) (wd : Addr) (m : Nat) (bs cs : List PyData) (k : Int), vs = [.ref pen, .ref wd] ∧ Pen K H pen sp ns k ∧ 0 ≤ k ∧ k ≤ 700000 ∧ WoodX H wd m bs cs ∧ ∃ nn : Nat, cs.length ≤ nn ∧ 2 ≤ nn ∧ nn ≤ 6 ∧
 ∀ (wd' : Addr) (bs' cs' : List PyData) (k' : Int) (H' : Hp), SameX pen H H' → H' pen = some (.lst [.ref sp, .int k']) → k ≤ k' → k' ≤ k + 400 → WoodX H' wd' m bs' cs' → cs'.length ≤ nn + 2 → Q (.ref wd') H'
theorem zlm (T : Txt K mg a d) : zbd P w K mg base CX0 4 a.f_law_near d.f_law_near ["_law_state", "_law_wood_here"] (zsb K) := by
 have G_law_take := zdt (P := P) (w := w) (base := base) T
 have G_law_wood := zh4 (P := P) (w := w) (base := base) T
 have G_law_cross := ze3 (P := P) (w := w) (base := base) T
 refine T.K_law_near.ok sc_law_near (fun vs H Q E h => ?_) (fun cdv A outer s H vs Q E hr h => ?_)
 ·obtain ⟨pen, sp, ns, wd, m, bs, cs, k, rfl, _⟩ := h
  rfl
 obtain ⟨pen, sp, ns, wd, m, bs, cs, k, rfl, pn, k0, k1, W, nn, c4, nn2, nn6, q⟩ := h
 obtain ⟨xs, ys, ⟨tb, tc, hw, hb, hc⟩, db, dc⟩ := W.ex
 have m1 := W.m1
 have m9 := W.m9
 have b8 := W.b8
 have lxs := db.length
 have lys := dc.length
 have fcs := W.fc
 have fbs := W.fb
 have ret : ∀ (H5 : Hp) (tb' tc' : Addr) (xs' ys' : List V) (bs' cs' : List PyData) (k' : Int), SameX pen H H5 → H5 pen = some (.lst [.ref sp, .int k']) → k ≤ k' → k' ≤ k + 400 → H5 tb' = some (.tup xs') → H5 tc' = some (.tup ys') → DnL H5 bs' xs' → DnL H5 cs' ys' → GoodB m bs' → bs'.length ≤ 9 → bs'.all (zbs 3) = true → (∀ c ∈ cs', zgd m c = true) → cs'.length ≤ nn + 2 → cs'.all (zbs 3) = true → ∀ wd', H5 wd' = none → Q (.ref wd') (L2.upd H5 wd' (.tup [.int (m : Int), .ref tb', .ref tc'])) := by
  intro H5 tb' tc' xs' ys' bs' cs' k' x5 hp5 kk0 kk1 htb htc dbs dcs gb b9 fb gc c8 fc wd' hwd
  have s6 := zaj hwd (.tup [.int (m : Int), .ref tb', .ref tc'])
  exact q wd' bs' cs' k' _ (x5.trans (Same.x s6)) (s6 _ _ hp5) kk0 kk1 ⟨⟨xs', ys', ⟨tb', tc', zae, s6 _ _ htb, s6 _ _ htc⟩, DnL.same s6 _ _ dbs, DnL.same s6 _ _ dcs⟩, gb, gc, b9, by omega, fb, fc, m1, m9⟩ c8
 have rest : ∃ t, PSs (zdh CX0 P w K mg base ["_law_state", "_law_wood_here", "_law_many_here", "_law_boughs_here", "_law_cross_here", "_law_way", "_law_at", "_law_up", "_law_low", "_law_high", "_law_kids"] "_law_near" (zab zcd) a.f_law_near cdv A outer s H E).nox ((zah zcd).drop 8) t ∧ ∀ (way : Int) (at_ : Nat) (k' : Int) (v7 v8 v9 v10 : Option V) (H2 : Hp), SameX pen H H2 → H2 pen = some (.lst [.ref sp, .int k']) → k ≤ k' → k' ≤ k + 10 → at_ < bs.length →
   t { nx := fun _ H' => Q .non H', rt := Q } [some (.ref pen), some (.ref wd), some (.int (m : Int)), some (.ref tb), some (.ref tc), some (.int way), some (.int (at_ : Int)), v7, v8, v9, v10] H2 := by
  refine ⟨_, (zaf (zi8 (zan (ixT (K := K)) (pv 3) (pv 6) (fun _ _ => rfl)) (pgT (K := K) (n := 4) rfl (zbe (za3 (i := 7) sc_law_near.nd rfl (Or.inl rfl)) (zbe (za3 (i := 8) sc_law_near.nd rfl (Or.inl rfl)) (zbe (za3 (i := 9) sc_law_near.nd rfl (Or.inl rfl)) (zbe (za3 (i := 10) sc_law_near.nd rfl (Or.inl rfl)) zdp))))))
   (zaf (za9 (zar zb4 (pv 5) zad (zaq _)) (zai (zam (za8 (zaa (pv 2) (zaa (zaz zd6 (zaz zd6 (zer zha (pv 3) zf0 (zfr (pv 6))) (za8 (zaa (za8 (zaa (pv 7) (zaa zad (zaa (za1 (ze9 (K := K)) rfl T.m_len PySem.boot_len (zaa (pv 10) zac)) (zaa (pv 10) zac))))) zac))) (zer zha (pv 3) (zfr (zaz zct (pv 6) zad)) zf0)) (zaa (pv 4) zac)))))) zau)
   (zaf (za9 (zar zb4 (pv 5) zad (zaq _)) (zai (zam (za8 (zaa (pv 2) (zaa (zaz zd6 (zaz zd6 (zer zha (pv 3) (zfr (zaz zct (pv 6) zad)) zf0) (zer zha (pv 3) zf0 (zfr (pv 6)))) (za8 (zaa (za8 (zaa (pv 7) (zaa (pv 8) (zaa (za1 (zeu rfl) rfl T.m_max PyProof.Rows.boot_max (zaa zad (zaa (pv 8) zac))) (zaa (pv 10) zac))))) zac))) (zaa (pv 4) zac)))))) zau)
   (zai (zam (za8 (zaa (pv 2) (zaa (pv 3) (zaa (zaz zd6 (pv 4) (za8 (zaa (za8 (zaa za5 (zaa (za1 (zpn rfl) rfl T.m_max PyProof.Rows.boot_max (zaa (pv 10) zac)) (zaa (pv 7) zac)))) zac))) zac))))))))), ?_⟩
  intro way at_ k' v7 v8 v9 v10 H2 x2 hp2 kk0 kk1 hat
  have tS : zea H H2 := SameX.tup pn.at_ x2
  have hb2 := tS _ _ hb
  have hc2 := tS _ _ hc
  have db2 := DnL.tupS tS fbs db
  have dc2 := DnL.tupS tS fcs dc
  have hxa : at_ < xs.length := by omega
  obtain ⟨dd, hdd, hx'⟩ := db2.get (List.getElem?_eq_getElem hxa)
  have ddm := List.mem_of_getElem? hdd
  obtain ⟨u, lo, hi, kids, p, pk, ed, ep, hp, hpk, u0, um, kne, ris, lo0, lohi, hi1, hik, kfew, kup⟩ := zmv (W.gb.each dd ddm) hx'
  have ebs : bs = bs.take at_ ++ dd :: bs.drop (at_ + 1) := by
   rw [← List.take_append_drop at_ bs]
   congr 1
   ·rw [List.take_append_drop]
   ·rw [List.take_append_drop, List.drop_eq_getElem_cons hat]
    congr 1
    exact (List.getElem?_eq_some_iff.mp hdd).2
  have lk : (kids.map V.int).length = kids.length := List.length_map _
  have kp := List.length_pos_iff.mpr kne
  have all3 : ∀ l : List PyData, (∀ b ∈ l, b ∈ bs) → l.all (zbs 3) = true := fun l h => List.all_eq_true.mpr fun b hb' => (List.all_eq_true.mp fbs) b (h b hb')
  refine ⟨_, rfl, _, rfl, tb, _, _, _, rfl, rfl, sqT hb2, zd0 (List.getElem?_eq_getElem hxa), ?_⟩
  rw [ep]
  refine ⟨p, _, rfl, sqT hp, rfl, _, _, rfl, _, _, rfl, _, _, rfl, _, _, rfl, rfl, ?_⟩
  refine ⟨_, rfl, rfl, _, rfl, ?_⟩
  by_cases w4 : way = 4
  ·refine zd5 (by rw [w4]) ?_
   refine ⟨_, rfl, _, rfl, _, rfl, _, rfl, tb, _, rfl, hb2, fun p1 H3 s3 h3 => ?_⟩
   refine ⟨_, rfl, _, rfl, pk, _, rfl, .inr (sqT (s3 _ _ hpk)), _, rfl, small (by show 4 ≤ 1000; decide), fun t1 ht1 => ?_⟩
   have s4 := zaj ht1 (.tup [.int u, .int 0, .int ((kids.map V.int).length : Nat), .ref pk])
   refine ⟨small (by show 1 ≤ 1000; decide), fun t2 ht2 => ?_⟩
   have s5 := zaj ht2 (.tup [.ref t1])
   have s45 := s4.trans s5
   have ht15 := s5 _ _ (zae (H := H3) (a := t1) (o := .tup [.int u, .int 0, .int ((kids.map V.int).length : Nat), .ref pk]))
   have ht25 : L2.upd (L2.upd H3 t1 (.tup [.int u, .int 0, .int ((kids.map V.int).length : Nat), .ref pk])) t2 (.tup [.ref t1]) t2 = some (.tup [.ref t1]) := zae
   generalize L2.upd (L2.upd H3 t1 (.tup [.int u, .int 0, .int ((kids.map V.int).length : Nat), .ref pk])) t2 (.tup [.ref t1]) = H5 at s45 ht15 ht25 ⊢
   have l1 := zc8 xs none (some (at_ : Int))
   refine ⟨p1, t2, _, _, rfl, rfl, s45 _ _ h3, ht25, small (by show _ + 1 ≤ 1000; omega), fun p2 H6 s6 h6 => ?_⟩
   have s36 := s45.trans s6
   have s26 := s3.trans s36
   refine ⟨_, rfl, _, rfl, _, _, rfl, rfl, _, rfl, tb, _, rfl, s26 _ _ hb2, fun p3 H7 s7 h7 => ?_⟩
   have l2 := zc8 xs (some ((at_ : Int) + 1)) none
   refine ⟨p2, p3, _, _, rfl, rfl, s7 _ _ h6, h7, small (by rw [List.length_append]; show _ + 1 + _ ≤ 1000; omega), fun p4 H8 s8 h8 => ?_⟩
   have s28 := (s26.trans s7).trans s8
   have e1 : ze8 xs none (some (at_ : Int)) = xs.take at_ := zmq xs at_ (by omega)
   have e2 : ze8 xs (some ((at_ : Int) + 1)) none = xs.drop (at_ + 1) := zjb xs (at_ + 1) (by omega)
   rw [e1, e2] at h8
   refine ⟨_, rfl, small (by show 3 ≤ 1000; decide), fun wd' hwd => ?_⟩
   have okN : zde m (zgq u 0 kids.length kids) = true := zn8 u0 kne ris (Int.le_refl _) (by omega) (by omega) (Int.le_refl _)
   have fN := zjn u 0 kids.length kids (by omega)
   have dN : Dn H8 (zgq u 0 kids.length kids) (.ref t1) := ⟨t1, _, rfl, (s6.trans (s7.trans s8)) _ _ ht15, _, _, rfl, rfl, _, _, rfl, rfl, _, _, rfl, (by rw [lk]; rfl), _, _, rfl, ⟨pk, _, rfl, s28 _ _ hpk, zg1 kids⟩, rfl⟩
   have d8 := DnL.same s28 _ _ db2
   refine ret H8 p4 tc _ ys (bs.take at_ ++ zgq u 0 kids.length kids :: bs.drop (at_ + 1)) cs k' (x2.trans (Same.x s28)) (s28 _ _ hp2) kk0 (by omega) h8 (s28 _ _ hc2) ?_ (DnL.same s28 _ _ dc2) ?_ ?_ ?_ W.gc (by omega) fcs wd' hwd
   ·rw [List.append_assoc]
    exact (DnL.take at_ d8).append ⟨_, _, rfl, dN, DnL.drop (at_ + 1) d8⟩
   ·have G := W.gb
    rw [ebs] at G
    exact G.swap okN (by rw [zfb, ed, zfb])
   ·rw [List.length_append, List.length_cons, List.length_take, List.length_drop]
    omega
   ·rw [List.all_append, List.all_cons, all3 _ fun b hb' => List.mem_of_mem_take hb', all3 _ fun b hb' => List.mem_of_mem_drop hb', fN]
    rfl
  refine zb5 (fun z => w4 (by injection z)) ?_
  refine ⟨_, rfl, rfl, _, rfl, ?_⟩
  by_cases w5 : way = 5
  ·refine zd5 (by rw [w5]) ?_
   refine ⟨_, rfl, _, rfl, _, rfl, _, _, rfl, rfl, _, rfl, tb, _, rfl, hb2, fun p1 H3 s3 h3 => ?_⟩
   refine ⟨_, rfl, _, rfl, _, rfl, tb, _, rfl, s3 _ _ hb2, fun p2 H4 s4 h4 => ?_⟩
   have l1 := zc8 xs none (some (at_ : Int))
   have l2 := zc8 xs (some ((at_ : Int) + 1)) none
   refine ⟨p1, p2, _, _, rfl, rfl, s4 _ _ h3, h4, small (by omega), fun p3 H5 s5 h5 => ?_⟩
   have s25 := (s3.trans s4).trans s5
   refine ⟨_, rfl, _, rfl, _, rfl, _, _, rfl, _, rfl, small (by show 4 ≤ 1000; decide), fun t1 ht1 => ?_⟩
   have s6 := zaj ht1 (.tup [.int u, .int lo, .int (if lo > 1 then lo else 1), .ref pk])
   refine ⟨small (by show 1 ≤ 1000; decide), fun t2 ht2 => ?_⟩
   have s7 := zaj ht2 (.tup [.ref t1])
   have s67 := s6.trans s7
   have ht17 := s7 _ _ (zae (H := H5) (a := t1) (o := .tup [.int u, .int lo, .int (if lo > 1 then lo else 1), .ref pk]))
   have ht27 : L2.upd (L2.upd H5 t1 (.tup [.int u, .int lo, .int (if lo > 1 then lo else 1), .ref pk])) t2 (.tup [.ref t1]) t2 = some (.tup [.ref t1]) := zae
   generalize L2.upd (L2.upd H5 t1 (.tup [.int u, .int lo, .int (if lo > 1 then lo else 1), .ref pk])) t2 (.tup [.ref t1]) = H7 at s67 ht17 ht27 ⊢
   refine ⟨p3, t2, _, _, rfl, rfl, s67 _ _ h5, ht27, small (by rw [List.length_append]; show _ + 1 ≤ 1000; omega), fun p4 H8 s8 h8 => ?_⟩
   have s28 := (s25.trans s67).trans s8
   have e1 : ze8 xs none (some (at_ : Int)) = xs.take at_ := zmq xs at_ (by omega)
   have e2 : ze8 xs (some ((at_ : Int) + 1)) none = xs.drop (at_ + 1) := zjb xs (at_ + 1) (by omega)
   rw [e1, e2] at h8
   refine ⟨_, rfl, small (by show 3 ≤ 1000; decide), fun wd' hwd => ?_⟩
   obtain ⟨h1, eh, g1, g2, g3⟩ : ∃ h1 : Int, (if lo > 1 then lo else 1) = h1 ∧ lo ≤ h1 ∧ 1 ≤ h1 ∧ h1 ≤ kids.length := ⟨_, rfl, by split <;> omega, by split <;> omega, by split <;> omega⟩
   rw [eh] at ht17
   have okN : zde m (zgq u lo h1 kids) = true := zn8 u0 kne ris lo0 g1 g2 g3
   have fN := zjn u lo h1 kids (by omega)
   have dN : Dn H8 (zgq u lo h1 kids) (.ref t1) := ⟨t1, _, rfl, s8 _ _ ht17, _, _, rfl, rfl, _, _, rfl, rfl, _, _, rfl, rfl, _, _, rfl, ⟨pk, _, rfl, s28 _ _ hpk, zg1 kids⟩, rfl⟩
   have d8 := DnL.same s28 _ _ db2
   refine ret H8 p4 tc _ ys (bs.drop (at_ + 1) ++ bs.take at_ ++ [zgq u lo h1 kids]) cs k' (x2.trans (Same.x s28)) (s28 _ _ hp2) kk0 (by omega) h8 (s28 _ _ hc2) ?_ (DnL.same s28 _ _ dc2) ?_ ?_ ?_ W.gc (by omega) fcs wd' hwd
   ·exact ((DnL.drop (at_ + 1) d8).append (DnL.take at_ d8)).append ⟨_, [], rfl, dN, rfl⟩
   ·have G := W.gb
    rw [ebs] at G
    refine (G.swap okN (by rw [zfb, ed, zfb])).perm ?_
    rw [List.append_assoc]
    refine List.perm_append_comm.trans ?_
    rw [List.append_assoc]
    exact List.Perm.append_left _ (List.Perm.refl _)
   ·rw [List.length_append, List.length_append, List.length_singleton, List.length_take, List.length_drop]
    omega
   ·rw [List.all_append, List.all_append, List.all_cons, all3 _ fun b hb' => List.mem_of_mem_take hb', all3 _ fun b hb' => List.mem_of_mem_drop hb', fN]
    rfl
  refine zb5 (fun z => w5 (by injection z)) ?_
  refine ⟨_, rfl, _, rfl, _, rfl, _, rfl, pk, kids, rfl, sqT hpk, by omega, fun M hM => ?_⟩
  obtain ⟨mu, mm⟩ := kup M hM
  refine ⟨_, rfl, small (by show 3 ≤ 1000; decide), fun t1 ht1 => ?_⟩
  have s4 := zaj ht1 (.tup [.str ("needs" : Str), .int M, .int u])
  refine ⟨small (by show 1 ≤ 1000; decide), fun t2 ht2 => ?_⟩
  have s5 := zaj ht2 (.tup [.ref t1])
  have s45 := s4.trans s5
  have ht15 := s5 _ _ (zae (H := H2) (a := t1) (o := .tup [.str ("needs" : Str), .int M, .int u]))
  have ht25 : L2.upd (L2.upd H2 t1 (.tup [.str ("needs" : Str), .int M, .int u])) t2 (.tup [.ref t1]) t2 = some (.tup [.ref t1]) := zae
  generalize L2.upd (L2.upd H2 t1 (.tup [.str ("needs" : Str), .int M, .int u])) t2 (.tup [.ref t1]) = H5 at s45 ht15 ht25 ⊢
  refine ⟨tc, t2, _, _, rfl, rfl, s45 _ _ hc2, ht25, small (by show _ + 1 ≤ 1000; omega), fun p2 H6 s6 h6 => ?_⟩
  have s26 := s45.trans s6
  refine ⟨small (by show 3 ≤ 1000; decide), fun wd' hwd => ?_⟩
  have nm : ¬ ("needs" : Str) = ("most" : Str) := by decide +kernel
  have tiN : zgd m (.tuple [.str ("needs" : Str), .int M, .int u]) = true := by
   show znc m ("needs" : Str) _ _ = true
   unfold znc
   rw [if_neg nm, if_pos (.inl rfl)]
   show ((decide ((0 : Int) ≤ _) && decide (_ ≤ (m : Int) - 1)) && ((decide ((0 : Int) ≤ _) && decide (_ ≤ (m : Int) - 1)) && !decide (_ = _))) = true
   rw [decide_eq_true (by omega), decide_eq_true (by omega), decide_eq_true u0, decide_eq_true (by omega), decide_eq_false (by omega)]
   rfl
  have fN : zbs 3 (.tuple [.str ("needs" : Str), .int M, .int u]) = true := by
   show (true && (zbs 2 (.str ("needs" : Str)) && (true && (true && true)))) = true
   rw [show zbs 2 (.str ("needs" : Str)) = true from zh8]
   rfl
  refine ret H6 tb p2 xs _ bs (cs ++ [.tuple [.str ("needs" : Str), .int M, .int u]]) k' (x2.trans (Same.x s26)) (s26 _ _ hp2) kk0 (by omega) (s26 _ _ hb2) h6 (DnL.same s26 _ _ db2) ?_ W.gb b8 fbs (fun c hc' => ?_) (by rw [List.length_append, List.length_singleton]; omega) ?_ wd' hwd
  ·exact (DnL.same s26 _ _ dc2).append ⟨_, [], rfl, ⟨t1, _, rfl, s6 _ _ ht15, _, _, rfl, rfl, _, _, rfl, rfl, _, _, rfl, rfl, rfl⟩, rfl⟩
  ·rcases List.mem_append.mp hc' with z | z
   ·exact W.gc c z
   ·rw [List.mem_singleton.mp z]
    exact tiN
  ·rw [List.all_append, fcs]
   simp [fN]
 obtain ⟨t8, h8, r8⟩ := rest
 refine ⟨_, (zaf (zi8 (pv 1) (pgT (K := K) (n := 3) rfl (zbe (za3 (i := 2) sc_law_near.nd rfl (Or.inl rfl)) (zbe (za3 (i := 3) sc_law_near.nd rfl (Or.inl rfl)) (zbe (za3 (i := 4) sc_law_near.nd rfl (Or.inl rfl)) zdp)))))
   (zaf (zax (i := 5) sc_law_near.nd rfl (Or.inl rfl) (zag G_law_take hr.lv rfl T.g_law_take T.K_law_take.kp T.B_law_take .nil zal (zaa (pv 0) (zaa zad zac))))
   (zaf (zax (i := 6) sc_law_near.nd rfl (Or.inl rfl) (zag G_law_take hr.lv rfl T.g_law_take T.K_law_take.kp T.B_law_take .nil zal (zaa (pv 0) (zaa (za1 (zeu rfl) rfl T.m_max PyProof.Rows.boot_max (zaa zad (zaa (za1 (ze9 (K := K)) rfl T.m_len PySem.boot_len (zaa (pv 3) zac)) zac))) zac))))
   (zaf (za9 (zar zb4 (pv 5) zad (zaq _)) (zai (zam (zag G_law_wood hr.lv rfl T.g_law_wood T.K_law_wood.kp T.B_law_wood .nil zal (zaa (pv 0) (zaa (pv 2) (zaa zad zac)))))) zau)
   (zaf (za9 (zar zb4 (pv 5) zad (zaq _)) (zai (zam (za8 (zaa (pv 2) (zaa (zo8 (pv 3) (zo2 zl0 zad)) (zaa (zo8 (pv 4) (zo2 zl0 zad)) zac)))))) zau)
   (zaf (za9 (zar zb4 (pv 5) zad (zaq _)) (zai (zam (za8 (zaa (pv 2) (zaa (pv 3) (zaa (zer zha (pv 4) (zfr zad) zf0) zac)))))) zau)
   (zaf (za9 (zar zb4 (pv 5) zad (zaq _)) (zai (zam (za8 (zaa (pv 2) (zaa (pv 3) (zaa (zaz zd6 (zcy zcz rfl T.m_tuple PyProof.Rows.boot_tuple (zaa (zag G_law_cross hr.lv rfl T.g_law_cross T.K_law_cross.kp T.B_law_cross .nil zal (zaa (pv 0) (zaa (pv 2) (zaa zad zac)))) zac)) (pv 4)) zac)))))) zau)
   (zaf (za9 (zar (ziq hr.units) (pv 3) (za8 zac) (zaq _)) (zai (zam (pv 1))) zau)
   h8)))))))), ?_⟩
 refine ⟨_, rfl, wd, _, rfl, sqT hw, rfl, _, _, rfl, _, _, rfl, _, _, rfl, rfl, ?_⟩
 refine ⟨_, rfl, pen, sp, ns, 7, k, rfl, pn, k0, by omega, by decide, fun way w0 w1 => ?_⟩
 have x1 := za2 (pen := pen) (H := H) (.lst [.ref sp, .int (k + 1)])
 have pn1 := pn.to x1 zae
 have hb1 := (SameX.tup pn.at_ x1) _ _ hb
 generalize L2.upd H pen (.lst [.ref sp, .int (k + 1)]) = H1 at x1 pn1 hb1 ⊢
 refine ⟨_, rfl, _, rfl, tb, _, rfl, .inr (sqT hb1), _, _, rfl, pen, sp, ns, _, k + 1, rfl, pn1, by omega, by omega, (by split <;> omega), fun at' a0 a1 => ?_⟩
 obtain ⟨at_, rfl⟩ : ∃ j : Nat, at' = (j : Int) := ⟨at'.toNat, by omega⟩
 have x2 := x1.trans (za2 (pen := pen) (.lst [.ref sp, .int (k + 1 + 1)]))
 have hp2 : L2.upd H1 pen (.lst [.ref sp, .int (k + 1 + 1)]) pen = some (.lst [.ref sp, .int (k + 1 + 1)]) := zae
 generalize L2.upd H1 pen (.lst [.ref sp, .int (k + 1 + 1)]) = H2 at x2 hp2 ⊢
 have tS : zea H H2 := SameX.tup pn.at_ x2
 have hb2 := tS _ _ hb
 have hc2 := tS _ _ hc
 have db2 := DnL.tupS tS fbs db
 have dc2 := DnL.tupS tS fcs dc
 have pn2 := pn.to x2 hp2
 refine ⟨_, rfl, rfl, _, rfl, ?_⟩
 by_cases c0 : way = 0
 ·refine zd5 (by rw [c0]) ?_
  refine ⟨_, rfl, _, rfl, pen, sp, ns, m, 4, k + 1 + 1, rfl, pn2, by omega, by omega, m1, m9, by decide, by decide, fun wd' bs' cs' k' H3 sx3 hp3 k30 k31 W3 lc3 => ?_⟩
  exact q wd' bs' cs' k' H3 (x2.trans sx3) hp3 (by omega) (by omega) W3 (by omega)
 refine zb5 (fun z => c0 (by injection z)) ?_
 refine ⟨_, rfl, rfl, _, rfl, ?_⟩
 by_cases c1 : way = 1
 ·refine zd5 (by rw [c1]) ?_
  refine ⟨_, rfl, _, rfl, _, rfl, tb, _, rfl, rfl, hb2, fun p1 hp1 => ?_⟩
  have s3 := zaj hp1 (.tup xs.reverse)
  refine ⟨_, rfl, _, rfl, tc, _, rfl, rfl, s3 _ _ hc2, fun p2 hp2' => ?_⟩
  have s4 := zaj hp2' (.tup ys.reverse)
  have s34 := s3.trans s4
  refine ⟨small (by show 3 ≤ 1000; decide), fun wd' hwd => ?_⟩
  refine ret _ p1 p2 _ _ bs.reverse cs.reverse (k + 1 + 1) (x2.trans (Same.x s34)) (s34 _ _ hp2) (by omega) (by omega) (s4 _ _ zae) zae (DnL.reverse (DnL.same s34 _ _ db2)) (DnL.reverse (DnL.same s34 _ _ dc2)) (W.gb.perm (List.reverse_perm bs)) (by rw [List.length_reverse]; exact b8) (by rw [List.all_reverse]; exact fbs) (fun c hc' => W.gc c (List.mem_reverse.mp hc')) (by rw [List.length_reverse]; omega) (by rw [List.all_reverse]; exact fcs) wd' hwd
 refine zb5 (fun z => c1 (by injection z)) ?_
 refine ⟨_, rfl, rfl, _, rfl, ?_⟩
 by_cases c2 : way = 2
 ·refine zd5 (by rw [c2]) ?_
  refine ⟨_, rfl, _, rfl, _, rfl, _, rfl, tc, _, rfl, hc2, fun p1 H3 s3 h3 => ?_⟩
  rw [zpt] at h3
  refine ⟨small (by show 3 ≤ 1000; decide), fun wd' hwd => ?_⟩
  refine ret H3 tb p1 xs _ bs (cs.drop 1) (k + 1 + 1) (x2.trans (Same.x s3)) (s3 _ _ hp2) (by omega) (by omega) (s3 _ _ hb2) h3 (DnL.same s3 _ _ db2) (DnL.drop 1 (DnL.same s3 _ _ dc2)) W.gb b8 fbs (fun c hc' => W.gc c (List.mem_of_mem_drop hc')) (by rw [List.length_drop]; omega) (List.all_eq_true.mpr fun c hc' => (List.all_eq_true.mp fcs) c (List.mem_of_mem_drop hc')) wd' hwd
 refine zb5 (fun z => c2 (by injection z)) ?_
 refine ⟨_, rfl, rfl, _, rfl, ?_⟩
 by_cases c3 : way = 3
 ·refine zd5 (by rw [c3]) ?_
  refine ⟨_, rfl, _, rfl, _, rfl, _, rfl, pen, sp, ns, m, 2, k + 1 + 1, rfl, pn2, by omega, by omega, m1, m9, by decide, by decide, fun l cs' zs k' H3 sx3 hp3 k30 k31 hl3 nl dz okz lz fz => ?_⟩
  refine ⟨l, _, rfl, .inl ⟨SqL.of hl3, fun t1 ht1 => ?_⟩⟩
  have s4 := zaj ht1 (.tup zs)
  have tS3 := SameX.tup hp2 sx3
  have lzs := dz.length
  refine ⟨_, rfl, t1, tc, _, _, rfl, rfl, zae, s4 _ _ (tS3 _ _ hc2), small (by omega), fun p2 H5 s5 h5 => ?_⟩
  have s45 := s4.trans s5
  refine ⟨small (by show 3 ≤ 1000; decide), fun wd' hwd => ?_⟩
  refine ret H5 tb p2 xs _ bs (cs' ++ cs) k' ((x2.trans sx3).trans (Same.x s45)) (s45 _ _ hp3) (by omega) (by omega) (s45 _ _ (tS3 _ _ hb2)) h5 (DnL.same s45 _ _ (DnL.tupS tS3 fbs db2)) ((DnL.same s45 _ _ dz).append (DnL.same s45 _ _ (DnL.tupS tS3 fcs dc2))) W.gb b8 fbs (fun c hc' => ?_) (by rw [List.length_append]; omega) (by rw [List.all_append, fz, fcs]; rfl) wd' hwd
  rcases List.mem_append.mp hc' with z | z
  ·exact okz c z
  ·exact W.gc c z
 refine zb5 (fun z => c3 (by injection z)) ?_
 refine ⟨_, rfl, small (by decide), fun e0 he0 => ?_⟩
 have s3 := zaj he0 (.tup [])
 refine ⟨.tuple bs, .tuple [], ⟨tb, _, rfl, s3 _ _ hb2, DnL.same s3 _ _ db2⟩, ⟨e0, _, rfl, zae, rfl⟩, zoa (by decide) fbs, zne, _, rfl, ?_⟩
 rw [zqq]
 by_cases be : bs = []
 ·refine zd5 be ?_
  refine ⟨_, rfl, ?_⟩
  exact q wd bs cs (k + 1 + 1) _ (x2.trans (Same.x s3)) (s3 _ _ hp2) (by omega) (by omega) (W.tupS (fun b zs h => s3 _ _ (tS b zs h))) (by omega)
 ·refine zb5 be ?_
  have lb := List.length_pos_iff.mpr be
  exact r8 way at_ (k + 1 + 1) _ _ _ _ _ (x2.trans (Same.x s3)) (s3 _ _ hp2) (by omega) (by omega) (by revert a1; split <;> omega)
end
section
variable {P : Program} {w : World} {K : PySem.W.Frag} {mg : Str → Option Value} {base : Heap} {a : Adr} {d : Fds}
theorem zgk (T : Txt K mg a d) : zbd P w K mg base CX0 19 a.f_Choice___init__ d.f_Choice___init__ ["self", "wood"] (ztt a.x_Choice) := by
 have G_first_ware_at := zdm (P := P) (w := w) (base := base) T
 refine T.K_Choice___init__.ok zgp (fun vs H Q E h => ?_) (fun cdv A outer s H vs Q E hr h => ?_)
 ·obtain ⟨c, dx, wd, m, ts, rfl, _⟩ := h
  rfl
 obtain ⟨c, dx, wd, m, ts, rfl, hc, W, m9, m1, ⟨sw, sm, sW⟩, q⟩ := h
 refine ⟨_, (zaf (za9 (zar zol (zag G_first_ware_at hr.lv rfl T.g_first_ware_at T.K_first_ware_at.kp T.B_first_ware_at .nil zal (zaa (pv 1) (zaa (zcn zac) zac))) zdc (zaq _)) (zai zi0) zau)
   (zaf (zrs (pv 0) (pv 1) rfl)
   (zai (zrs (pv 0) (zcn zac) rfl)))), ?_⟩
 refine ⟨_, rfl, small (by show 0 ≤ 1000; decide), fun l1 hl1 => ?_⟩
 have s1 := zaj hl1 (.lst [])
 have h1 : L2.upd H l1 (.lst []) l1 = some (.lst []) := zae
 generalize L2.upd H l1 (.lst []) = H1 at s1 h1 ⊢
 refine ⟨wd, l1, m, ts, [], rfl, W.same s1, m9, m1, ⟨⟨[], h1, rfl⟩, by decide, (fun _ z => nomatch z)⟩, zou m1, fun H2 o s2 ho => ?_⟩
 obtain ⟨s0, rfl⟩ := zgl ho ⟨sw, sm, zve sW, sW⟩
 refine ⟨rfl, _, rfl, ?_⟩
 refine zb5 (fun z => nomatch z) ?_
 have s12 := s1.trans s2
 have hc2 : H2 c = some (.ins a.x_Choice dx []) := s12 _ _ hc
 refine ⟨_, rfl, _, rfl, c, _, _, _, rfl, hc2, T.C_Choice, T.n_Choice_wood, by decide, ?_⟩
 have t3 := zg4 (o' := .ins a.x_Choice dx [(("wood" : Str), .ref wd)]) hc2 (fun _ z => nomatch z)
 have hc3 : L2.upd H2 c (.ins a.x_Choice dx [(("wood" : Str), .ref wd)]) c = some (.ins a.x_Choice dx [(("wood" : Str), .ref wd)]) := zae
 refine ⟨small (by show 0 ≤ 1000; decide), fun l2 hl2 => ?_⟩
 have hl2' : L2.upd H2 c (.ins a.x_Choice dx [(("wood" : Str), .ref wd)]) l2 = none := hl2
 have s4 := zaj hl2' (.lst [])
 have h4 : L2.upd (L2.upd H2 c (.ins a.x_Choice dx [(("wood" : Str), .ref wd)])) l2 (.lst []) l2 = some (.lst []) := zae
 have hc4 : L2.upd (L2.upd H2 c (.ins a.x_Choice dx [(("wood" : Str), .ref wd)])) l2 (.lst []) c = some (.ins a.x_Choice dx [(("wood" : Str), .ref wd)]) := s4 _ _ hc3
 have nlc : l2 ≠ c := fun z => by rw [z, hc3] at hl2'; cases hl2'
 refine ⟨_, rfl, c, _, _, _, rfl, hc4, T.C_Choice, T.n_Choice_picks, (by show 1 < 1000; decide), ?_⟩
 refine q l2 _ (zbr (zbr (zbr (Same.tup s12) t3) (Same.tup s4)) (zg4 hc4 (fun _ z => nomatch z))) zae ⟨⟨[], ?_, rfl⟩, by decide, (fun _ z => nomatch z)⟩
 rw [zao nlc]
 exact h4
end
section
variable {P : Program} {w : World} {K : PySem.W.Frag} {mg : Str → Option Value} {base : Heap} {a : Adr} {d : Fds}
theorem zhf (T : Txt K mg a d) : zbd P w K mg base CX0 20 a.f_Choice_choose d.f_Choice_choose ["self", "k", "value"] (zqj a.x_Choice) := by
 have G_open_at := zoh (P := P) (w := w) (base := base) T
 have G_leads_on := zm4 (P := P) (w := w) (base := base) T
 refine T.K_Choice_choose.ok zhg (fun vs H Q E h => ?_) (fun cdv A outer s H vs Q E hr h => ?_)
 ·obtain ⟨c, dx, wd, pl, m, ts, ps, k, b, rfl, _⟩ := h
  rfl
 obtain ⟨c, dx, wd, pl, m, ts, ps, k, b, rfl, hc, PA, W, m9, m1, p18, k20, ko, S, wS, q⟩ := h
 obtain ⟨xs0, ys0, WA, _⟩ := W.ex
 refine ⟨_, (zaf (za9 (PW.pt (zj7 (zar zlr (pv 1) (zag G_open_at hr.lv rfl T.g_open_at T.K_open_at.kp T.B_open_at .nil zal (zaa (zgo (pv 0) rfl) (zaa (zgo (pv 0) rfl) zac))) (by with_unfolding_all rfl)) (zhw (zhn (zc7 (zag G_leads_on hr.lv rfl T.g_leads_on T.K_leads_on.kp T.B_leads_on .nil zal (zaa (zgo (pv 0) rfl) (zaa (zgo (pv 0) rfl) (zaa (za8 (zaa (pv 1) (zaa (pv 2) zac))) zac))))))))) (zai zi0) zau)
   (zai (zeg (zhp (K := K) PySem.F.plainAttrs_list PySem.F.slot_list_append PySem.F.type_list_append zeo (zgo (pv 0) rfl) (zaa (za8 (zaa (pv 1) (zaa (pv 2) zac))) zac))))), ?_⟩
 refine ⟨_, rfl, _, rfl, c, _, _, _, _, rfl, hc, T.C_Choice, T.n_Choice_wood, rfl, _, rfl, c, _, _, _, _, rfl, hc, T.C_Choice, T.n_Choice_picks, rfl, ?_⟩
 refine ⟨wd, pl, m, xs0, ys0, ps, rfl, WA, by omega, PA, fun l H1 s1 nl hl => ?_⟩
 refine ⟨l, _, rfl, .inl (SqL.of hl), rfl, zpm _, _, rfl, ?_⟩
 refine zvh (show (!inV (.int (k : Int)) (zb2 (zay m (zcp ps) (zdk ps)))) = false by rw [zqf, decide_eq_true ko]; rfl) ?_
 have hc1 : H1 c = _ := s1 _ _ hc
 refine ⟨_, rfl, c, _, _, _, _, rfl, hc1, T.C_Choice, T.n_Choice_wood, rfl, _, rfl, c, _, _, _, _, rfl, hc1, T.C_Choice, T.n_Choice_picks, rfl, _, rfl, _, rfl, small (by show 2 ≤ 1000; decide), fun tp htp => ?_⟩
 have s2 := s1.trans (zaj htp (.tup [.int (k : Int), .bl b]))
 have h2 : L2.upd H1 tp (.tup [.int (k : Int), .bl b]) tp = some (.tup [.int (k : Int), .bl b]) := zae
 generalize L2.upd H1 tp (.tup [.int (k : Int), .bl b]) = H2 at s2 h2 ⊢
 refine ⟨wd, pl, tp, m, ts, ps, (k, b), rfl, W.same s2, m9, m1, PA.same s2, by omega, k20, h2, S, fun H3 o s3 ho => ?_⟩
 obtain ⟨s0, rfl⟩ := zgl ho wS
 refine ⟨_, rfl, ?_⟩
 refine zhk ?_
 have s23 := s2.trans s3
 have hc3 : H3 c = some (.ins a.x_Choice dx (chF wd pl)) := s23 _ _ hc
 obtain ⟨xs, hpl, pk⟩ := (PA.same s23).ex
 have lx := pk.length
 refine ⟨_, rfl, c, _, _, _, _, rfl, hc3, T.C_Choice, T.n_Choice_picks, rfl, .inl ⟨rfl, _, SqL.of hpl⟩, _, rfl, _, rfl, small (by show 2 ≤ 1000; decide), fun tq htq => ?_⟩
 have s4 := zaj htq (.tup [.int (k : Int), .bl b])
 have h4 : L2.upd H3 tq (.tup [.int (k : Int), .bl b]) tq = some (.tup [.int (k : Int), .bl b]) := zae
 generalize L2.upd H3 tq (.tup [.int (k : Int), .bl b]) = H4 at s4 h4 ⊢
 have hpl4 : H4 pl = some (.lst xs) := s4 _ _ hpl
 have hc4 : H4 c = some (.ins a.x_Choice dx (chF wd pl)) := s4 _ _ hc3
 have ncp : c ≠ pl := fun z => by rw [z, hpl4] at hc4; cases hc4
 refine ⟨pl, _, _, rfl, rfl, hpl4, zc3 (by omega), ?_⟩
 have t5 := zg4 (o' := .lst (xs ++ [.ref tq])) hpl4 (fun _ z => nomatch z)
 refine q _ (zbr (Same.tup (s23.trans s4)) t5) (by rw [zao ncp]; exact hc4) ⟨⟨_, zae, ?_⟩, by rw [List.length_append, List.length_singleton]; omega, fun x hx => ?_⟩
 ·exact PickL.snoc (p := (k, b)) (t5 _ _ h4) ((pk.same (Same.tup s4)).same t5)
 ·rcases List.mem_append.mp hx with z | z
  ·exact PA.le x z
  ·rw [List.mem_singleton.mp z]; exact k20
end
section
variable {P : Program} {w : World} {K : PySem.W.Frag} {mg : Str → Option Value} {base : Heap} {a : Adr} {d : Fds}
theorem zi5 (T : Txt K mg a d) : zbd P w K mg base CX0 19 a.f_Choice_ware d.f_Choice_ware ["self"] (zue a.x_Choice) := by
 have G_first_ware_at := zdm (P := P) (w := w) (base := base) T
 refine T.K_Choice_ware.ok zju (fun vs H Q E h => ?_) (fun cdv A outer s H vs Q E hr h => ?_)
 ·obtain ⟨c, dx, wd, pl, m, ts, ps, rfl, _⟩ := h
  rfl
 obtain ⟨c, dx, wd, pl, m, ts, ps, rfl, hc, PA, W, m9, m1, S, q⟩ := h
 refine ⟨_, (zai (zam (zag G_first_ware_at hr.lv rfl T.g_first_ware_at T.K_first_ware_at.kp T.B_first_ware_at .nil zal (zaa (zgo (pv 0) rfl) (zaa (zgo (pv 0) rfl) zac))))), ?_⟩
 refine ⟨_, rfl, c, _, _, _, _, rfl, hc, T.C_Choice, T.n_Choice_wood, rfl, _, rfl, c, _, _, _, _, rfl, hc, T.C_Choice, T.n_Choice_picks, rfl, ?_⟩
 exact ⟨wd, pl, m, ts, ps, rfl, W, m9, m1, PA, S, q⟩
end
section
variable {P : Program} {w : World} {K : PySem.W.Frag} {mg : Str → Option Value} {base : Heap} {a : Adr} {d : Fds}
theorem zj0 (T : Txt K mg a d) : zbd P w K mg base CX0 22 a.f_law_chosen d.f_law_chosen ["_law_wood_here", "_law_ware"] zru := by
 have G_Choice___init__ := zgk (P := P) (w := w) (base := base) T
 have G_Choice_choose := zhf (P := P) (w := w) (base := base) T
 have G_Choice_ware := zi5 (P := P) (w := w) (base := base) T
 refine T.K_law_chosen.ok sc_law_chosen (fun vs H Q E h => ?_) (fun cdv A outer s H vs Q E hr h => ?_)
 ·obtain ⟨wd, m, ts, wa, rfl, _⟩ := h
  rfl
 obtain ⟨wd, m, ts, wa, rfl, WT', m9, m1, wm, wW, q⟩ := h
 have p62 : (2 : Int) ^ 62 = 4611686018427387904 := by decide
 have w0 : wa.testBit 0 = true := by
  unfold zbt at wW
  exact (Bool.and_eq_true_iff.mp wW).1
 obtain ⟨xs0, ys0, ⟨tb, tc, hw, hb, hc0⟩, _⟩ := (WT' H (zf4 H)).ex
 refine ⟨_, (zaf (zax (i := 2) sc_law_chosen.nd rfl (Or.inl rfl) (zsc T.g_Choice___init__ G_Choice___init__ hr.lv rfl T.g_Choice T.B_Choice___init__ .nil zal (zaa (pv 0) zac)))
   (zaf (zgs PassesOwn.never rfl (zka rfl T.m_range (zaa zad (zaa (zan (ixT (K := K)) (pv 0) zad (fun _ _ => rfl)) zac))) (za3 (i := 3) sc_law_chosen.nd rfl (Or.inl rfl)) (zai (zeg (zso (pv 2) T.C_Choice T.g_Choice_choose G_Choice_choose hr.lv T.B_Choice_choose .nil zal (zaa (pv 3) (zaa (zce zb4 (zaz zr2 (zaz zp7 (pv 1) (pv 3)) zad) zad (zaq _)) zac))))))
   (zai (zam (zce zb4 (zqv (pv 2) T.C_Choice T.g_Choice_ware G_Choice_ware hr.lv T.B_Choice_ware .nil zal) (pv 1) (zaq _)))))), ?_⟩
 refine ⟨_, rfl, fun x dx hx hdx nd => ?_⟩
 have s1 := zaj hdx (.own x)
 have s2 := s1.trans (zaj (show L2.upd H dx (.own x) x = none by rw [zao (Ne.symm nd)]; exact hx) (.ins a.x_Choice dx []))
 refine ⟨x, dx, wd, m, ts, rfl, zae, WT' _ (Same.tup s2), m9, m1, ⟨wa, wm, wW⟩, fun pl H1 t1 hc1 PA1 => ⟨rfl, ?_⟩⟩
 have t01 : zea H H1 := zbr (Same.tup s2) t1
 refine ⟨_, rfl, wd, _, _, _, rfl, rfl, sqT (t01 _ _ hw), at0, _, _, rfl, ⟨by rw [p62]; omega, by rw [p62]; omega, by rw [p62]; omega, by rw [p62]; omega⟩, ?_⟩
 refine zhm (lo := 1) (n := ((m : Int) - 1).toNat) (fun i σ H2 => (∃ v3 : Option V, σ = [some (.ref wd), some (.int (wa : Int)), some (.ref x), v3]) ∧ zea H H2 ∧ H2 x = some (.ins a.x_Choice dx (chF wd pl)) ∧ PicksAt H2 pl (ze7 wa i)) ⟨⟨none, rfl⟩, t01, hc1, PA1⟩ ?_ ?_
 ·rintro i σ H2 hi ⟨⟨v3, rfl⟩, t2, hc2, PA2⟩
  have im : i + 1 < m := by omega
  have ek : (1 : Int) + (i : Int) = ((i + 1 : Nat) : Int) := by omega
  rw [ek]
  refine ⟨_, rfl, x, _, _, rfl, hc2, rfl, _, rfl, _, rfl, _, rfl, _, _, rfl, rfl, by omega, _, _, rfl, rfl, rfl, ?_⟩
  rw [zrz]
  refine ⟨x, dx, wd, pl, m, ts, ze7 wa i, i + 1, wa.testBit (i + 1), rfl, hc2, PA2, WT' _ t2, m9, m1, by rw [zrv]; omega, by omega, ztd im, ?_, ⟨wa, wm, ?_, wW⟩, fun H3 t3 hc3 PA3 => ?_⟩
  ·rw [← zep]; exact zmh im
  ·rw [← zep]; exact ztk w0
  ·rw [← zep] at PA3
   exact ⟨⟨_, rfl⟩, zbr t2 t3, hc3, PA3⟩
 ·rintro σ H2 ⟨⟨v3, rfl⟩, t2, hc2, PA2⟩
  rw [show ((m : Int) - 1).toNat = m - 1 by omega] at PA2
  refine ⟨_, rfl, x, _, _, rfl, hc2, rfl, ?_⟩
  refine ⟨x, dx, wd, pl, m, ts, ze7 wa (m - 1), rfl, hc2, PA2, WT' _ t2, m9, m1, zmh (by omega), fun H3 o s3 ho => ?_⟩
  obtain ⟨s0, rfl⟩ := zgl ho ⟨wa, wm, ztk w0, wW⟩
  have es := zud m1 wm w0 ho.1 ho.2.1
  subst es
  refine ⟨_, rfl, rfl, ?_⟩
  rw [decide_eq_true (show zm3 (some s0) = V.int (s0 : Int) from rfl)]
  exact q _ (zbr t2 (Same.tup s3))
end
section
variable {P : Program} {w : World} {K : PySem.W.Frag} {mg : Str → Option Value} {base : Heap} {a : Adr} {d : Fds}
theorem ztq (T : Txt K mg a d) (LBc : zgm mg base a.c_cases_of a.t_cases_of) (LB : zgm mg base a.c_within a.t_within) : zbd P w K mg base CX0 23 a.f_law d.f_law ["_law_script"] (spT a.t_cases_of (spT a.t_within (zo1 K))) := by
 have G_law_take := zdt (P := P) (w := w) (base := base) T
 have G_law_many := zl7 (P := P) (w := w) (base := base) T
 have G_law_wood := zh4 (P := P) (w := w) (base := base) T
 have G_law_near := zlm (P := P) (w := w) (base := base) T
 have G_law_cross := ze3 (P := P) (w := w) (base := base) T
 have G_within := zki (P := P) (w := w) (base := base) T LBc LB
 have G_compared := znk (P := P) (w := w) (base := base) T LBc LB
 have G_wares := zmj (P := P) (w := w) (base := base) T LBc
 have G_first_ware := zf9 (P := P) (w := w) (base := base) T
 have G_law_chosen := zj0 (P := P) (w := w) (base := base) T
 refine T.K_law.ok sc_law (fun vs H Q E h => ?_) (fun cdv A outer s H vs Q E hr h => ?_)
 ·obtain ⟨_, _, p, ns, rfl, _⟩ := h
  rfl
 obtain ⟨ta, tb, sp, ns, rfl, hS, hl, q⟩ := h
 obtain ⟨ct7, ch7, cu7⟩ := zwd (X := (zdh CX0 P w K mg base ["_law_script", "_law_state", "_law_many_here", "_law_first", "_law_second", "_law_third", "_law_steps", "_law_more", "_law_word", "_law_some", "_law_ware"] "law" (zab zeb) a.f_law cdv A outer s H E).nox) (st := (zah zeb).drop 7) (zaf (zax (i := 7) sc_law.nd rfl (Or.inl rfl) (za8 (zaa (pv 2) (zaa (zan (ixT (K := K)) (pv 3) zad (fun _ _ => rfl)) (zaa (zaz zd6 (zan (ixT (K := K)) (pv 3) zad (fun _ _ => rfl)) (zcy zcz rfl T.m_tuple PyProof.Rows.boot_tuple (zaa (zag G_law_cross hr.lv rfl T.g_law_cross T.K_law_cross.kp T.B_law_cross .nil zal (zaa (pv 1) (zaa (pv 2) (zaa zad zac)))) zac))) zac)))))
   (zaf (zax (i := 8) sc_law.nd rfl (Or.inl rfl) (zan (ixT (K := K)) (zag G_compared hr.lv rfl T.g_compared T.K_compared.kp T.B_compared .nil zal (zaa (pv 7) (zaa (pv 3) zac))) zad (fun _ _ => rfl)))
   (zaf (za9 (PW.pt (zj7 (zar zkp (pv 8) (zan (ixL (K := K)) (zcn (zaa za5 (zaa za5 zac))) (zcy zkc rfl T.m_int PyProof.Rows.boot_int (zaa (zce (ziw hr.units) (zag G_wares hr.lv rfl T.g_wares T.K_wares.kp T.B_wares .nil zal (zaa (pv 7) zac)) (zag G_wares hr.lv rfl T.g_wares T.K_wares.kp T.B_wares .nil zal (zaa (pv 3) zac)) (zaq _)) zac)) (fun _ _ => rfl)) (zaq _)) (zhw (zar zkp (zan (ixT (K := K)) (zag G_within hr.lv rfl T.g_within T.K_within.kp T.B_within .nil zal (zaa (pv 7) (zaa (pv 3) zac))) zad (fun _ _ => rfl)) za5 (zaq _))))) (zai (zam zqx)) zau)
   (zaf (za9 (PW.pt (zj7 (zar zkp (zan (ixL (K := K)) (pv 6) zad (fun _ _ => rfl)) za5 (zaq _)) (zhw (zar zol (zag G_first_ware hr.lv rfl T.g_first_ware T.K_first_ware.kp T.B_first_ware .nil zal (zaa (pv 3) (zaa zad (zaa zad zac)))) zdc (zaq _))))) (zai (zam zqx)) zau)
   (zaf (zax (i := 9) sc_law.nd rfl (Or.inl rfl) (zag G_wares hr.lv rfl T.g_wares T.K_wares.kp T.B_wares .nil zal (zaa (pv 3) zac)))
   (zaf (zax (i := 10) sc_law.nd rfl (Or.inl rfl) (zan (ixL (K := K)) (pv 9) (zag G_law_take hr.lv rfl T.g_law_take T.K_law_take.kp T.B_law_take .nil zal (zaa (pv 1) (zaa (za1 (ze9 (K := K)) rfl T.m_len PySem.boot_len (zaa (pv 9) zac)) zac))) (fun _ _ => rfl)))
   (zai (zam (zd2 (zag G_law_chosen hr.lv rfl T.g_law_chosen T.K_law_chosen.kp T.B_law_chosen .nil zal (zaa (pv 3) (zaa (pv 10) zac))) (zc5 (zag G_law_chosen hr.lv rfl T.g_law_chosen T.K_law_chosen.kp T.B_law_chosen .nil zal (zaa (pv 4) (zaa (pv 10) zac)))))))))))))
 refine ⟨_, (zaf (zax (i := 1) sc_law.nd rfl (Or.inl rfl) (zcn (zaa (pv 0) (zaa zad zac))))
   (zaf (zax (i := 2) sc_law.nd rfl (Or.inl rfl) (zag G_law_many hr.lv rfl T.g_law_many T.K_law_many.kp T.B_law_many .nil zal (zaa (pv 1) zac)))
   (zaf (zax (i := 3) sc_law.nd rfl (Or.inl rfl) (zag G_law_wood hr.lv rfl T.g_law_wood T.K_law_wood.kp T.B_law_wood .nil zal (zaa (pv 1) (zaa (pv 2) (zaa zad zac)))))
   (zaf (zax (i := 4) sc_law.nd rfl (Or.inl rfl) (zag G_law_near hr.lv rfl T.g_law_near T.K_law_near.kp T.B_law_near .nil zal (zaa (pv 1) (zaa (pv 3) zac))))
   (zaf (zax (i := 5) sc_law.nd rfl (Or.inl rfl) (zag G_law_near hr.lv rfl T.g_law_near T.K_law_near.kp T.B_law_near .nil zal (zaa (pv 1) (zaa (pv 4) zac))))
   (zaf (zax (i := 6) sc_law.nd rfl (Or.inl rfl) (zcn (zaa (zan (ixT (K := K)) (zag G_within hr.lv rfl T.g_within T.K_within.kp T.B_within .nil zal (zaa (pv 3) (zaa (pv 4) zac))) zad (fun _ _ => rfl)) (zaa (zan (ixT (K := K)) (zag G_within hr.lv rfl T.g_within T.K_within.kp T.B_within .nil zal (zaa (pv 4) (zaa (pv 5) zac))) zad (fun _ _ => rfl)) (zaa (zan (ixT (K := K)) (zag G_within hr.lv rfl T.g_within T.K_within.kp T.B_within .nil zal (zaa (pv 3) (zaa (pv 5) zac))) zad (fun _ _ => rfl)) zac)))))
   (zaf (za9 (PW.pt (zj7 (PW.pt (zhu (zar (ziq hr.units) (zer zsi (pv 6) zf0 (zfr zad)) (zcn (zaa za5 (zaa za5 zac))) (zaq _)) (zf3 (zar zkp (zan (ixL (K := K)) (pv 6) zad (fun _ _ => rfl)) za5 (zaq _))))) (zhw (zar zkp (zan (ixT (K := K)) (zag G_within hr.lv rfl T.g_within T.K_within.kp T.B_within .nil zal (zaa (pv 3) (zaa (pv 3) zac))) zad (fun _ _ => rfl)) za5 (zaq _))))) (zai (zam zqx)) zau)
   ch7))))))), ?_⟩
 refine ⟨_, rfl, small (by show 2 ≤ 1000; decide), fun pen hpen => ?_⟩
 have pn := zsp hS hl hpen
 have s1 := zaj hpen (.lst [.ref sp, .int 0])
 have ta1 := s1.tab ta
 have tb1 := s1.tab tb
 generalize hH1 : L2.upd H pen (.lst [.ref sp, .int 0]) = H1 at pn s1 ta1 tb1 ⊢
 refine ⟨_, rfl, pen, sp, ns, 0, rfl, pn, by decide, by decide, fun m k2 H2 x2 hp2 k20 k21 m1 m9 => ?_⟩
 refine ⟨_, rfl, _, rfl, pen, sp, ns, m, 3, k2, rfl, pn.to x2 hp2, by omega, by omega, m1, m9, by decide, by decide, fun w1 b1 c1 k3 H3 x3 hp3 k30 k31 W3 lc3 => ?_⟩
 have x23 := x2.trans x3
 refine ⟨_, rfl, _, rfl, pen, sp, ns, w1, m, b1, c1, k3, rfl, pn.to x23 hp3, by omega, by omega, W3, 3, by omega, by decide, by decide, fun w2 b2 c2 k4 H4 x4 hp4 k40 k41 W4 lc4 => ?_⟩
 have x24 := x23.trans x4
 refine ⟨_, rfl, _, rfl, pen, sp, ns, w2, m, b2, c2, k4, rfl, pn.to x24 hp4, by omega, by omega, W4, 5, by omega, by decide, by decide, fun w3 b3 c3 k5 H5 x5 hp5 k50 k51 W5 lc5 => ?_⟩
 have x25 := x24.trans x5
 have V1 := W3.tupS (SameX.tup hp3 (x4.trans x5))
 have V2 := W4.tupS (SameX.tup hp4 x5)
 have ta5 := x25.tab pn.at_ ta1
 have tb5 := x25.tab pn.at_ tb1
 obtain ⟨t1, e1, ok1, tl1, WT1⟩ := V1.ties
 obtain ⟨t2, e2, ok2, tl2, WT2⟩ := V2.ties
 obtain ⟨t3, e3, ok3, tl3, WT3⟩ := W5.ties
 have A1 := WT1 H5 (zf4 H5)
 have A2 := WT2 H5 (zf4 H5)
 have A3 := WT3 H5 (zf4 H5)
 refine ⟨_, rfl, _, rfl, ta5, tb5, w1, w2, m, t1, t2, rfl, A1, A2, m1, m9, fun v6 H6 s6 d6 => ?_⟩
 obtain ⟨p6, r6, rfl, h6⟩ := zdj d6
 refine ⟨p6, _, _, _, rfl, rfl, sqT h6, at0, ?_⟩
 refine ⟨_, rfl, _, rfl, s6.tab ta5, s6.tab tb5, w2, w3, m, t2, t3, rfl, A2.same s6, A3.same s6, m1, m9, fun v7 H7 s7 d7 => ?_⟩
 obtain ⟨p7, r7, rfl, h7⟩ := zdj d7
 refine ⟨p7, _, _, _, rfl, rfl, sqT h7, at0, ?_⟩
 have s67 := s6.trans s7
 refine ⟨_, rfl, _, rfl, s67.tab ta5, s67.tab tb5, w1, w3, m, t1, t3, rfl, A1.same s67, A3.same s67, m1, m9, fun v8 H8 s8 d8 => ?_⟩
 obtain ⟨p8, r8, rfl, h8⟩ := zdj d8
 refine ⟨p8, _, _, _, rfl, rfl, sqT h8, at0, ?_⟩
 have s68 := s67.trans s8
 refine ⟨small (by show 3 ≤ 1000; decide), fun st hst => ?_⟩
 obtain ⟨u12, hu12⟩ : ∃ u, wIn m t1 t2 = u := ⟨_, rfl⟩
 obtain ⟨u23, hu23⟩ : ∃ u, wIn m t2 t3 = u := ⟨_, rfl⟩
 obtain ⟨u13, hu13⟩ : ∃ u, wIn m t1 t3 = u := ⟨_, rfl⟩
 rw [hu12, hu23, hu13]
 have nsp : st ≠ pen := fun z => by
  have h : H8 pen = _ := s68 _ _ hp5
  rw [← z, hst] at h
  cases h
 have s9 := s68.trans (zaj hst (.lst [.str (zcf u12), .str (zcf u23), .str (zcf u13)]))
 have h9 : L2.upd H8 st (.lst [.str (zcf u12), .str (zcf u23), .str (zcf u13)]) st = some (.lst [.str (zcf u12), .str (zcf u23), .str (zcf u13)]) := zae
 generalize L2.upd H8 st (.lst [.str (zcf u12), .str (zcf u23), .str (zcf u13)]) = H9 at s9 h9 ⊢
 have eqb : PyData.eqv (.list [.str (zcf u12), .str (zcf u23)]) (.list [.str ("in" : Str), .str ("in" : Str)]) = (u12 && u23) := by cases u12 <;> cases u23 <;> decide +kernel
 have shp : SeqAt.shaped (.list [.str (zcf u12), .str (zcf u23)]) = true := by cases u12 <;> cases u23 <;> decide +kernel
 have tail : ∀ HA, Same H5 HA → HA st = some (.lst [.str (zcf u12), .str (zcf u23), .str (zcf u13)]) → ct7 { nx := fun _ H' => Q .non H', rt := Q } [some (.ref sp), some (.ref pen), some (.int (m : Int)), some (.ref w1), some (.ref w2), some (.ref w3), some (.ref st), none, none, none, none] HA := by
  intro HA sA hA
  refine cu7 _ _ _ ?_
  obtain ⟨xs, ys, ⟨tb', tc', hw, hb, hc⟩, db, dc⟩ := (V1.tupS (Same.tup sA)).ex
  have hpA := sA _ _ hp5
  have xA := x25.trans (Same.x (pen := pen) sA)
  refine ⟨_, rfl, _, rfl, w1, _, _, _, rfl, rfl, sqT hw, at1, _, rfl, w1, _, _, _, rfl, rfl, sqT hw, at2, ?_⟩
  refine ⟨_, rfl, _, rfl, pen, sp, ns, m, 2, k5, rfl, pn.to xA hpA, by omega, by omega, m1, m9, by decide, by decide, fun l ds zs k6 HB xB hpB k60 k61 hlB nlB dB okd ld fd => ?_⟩
  have tB : zea HA HB := SameX.tup hpA xB
  have ldz := dB.length
  have ldy := dc.length
  have c20 := V1.c8
  refine ⟨l, _, rfl, .inl ⟨SqL.of hlB, fun q1 hq1 => ?_⟩⟩
  have sC := zaj hq1 (.tup zs)
  have hC1 : L2.upd HB q1 (.tup zs) q1 = some (.tup zs) := zae
  generalize L2.upd HB q1 (.tup zs) = HC at sC hC1 ⊢
  refine ⟨tc', q1, _, _, rfl, rfl, sC _ _ (tB _ _ hc), hC1, small (by omega), fun q2 HD sD hD2 => ?_⟩
  refine ⟨small (by show 3 ≤ 1000; decide), fun wm hwm => ?_⟩
  have sE0 := zaj hwm (.tup [.int (m : Int), .ref tb', .ref q2])
  have hwE : L2.upd HD wm (.tup [.int (m : Int), .ref tb', .ref q2]) wm = some (.tup [.int (m : Int), .ref tb', .ref q2]) := zae
  generalize L2.upd HD wm (.tup [.int (m : Int), .ref tb', .ref q2]) = HE at sE0 hwE ⊢
  have sBE := (sC.trans sD).trans sE0
  have tAE : zea HA HE := zbr tB (Same.tup sBE)
  have t5E : zea H5 HE := zbr (Same.tup sA) tAE
  obtain ⟨te, ete, oke⟩ := zhy (P := fun t => t.Ok m) (l := ds) fun x hx => zj6 (okd x hx)
  have lte : te.length = ds.length := by rw [ete, List.length_map]
  have AM : WoodT HE wm m (t1 ++ te) := by
   refine ⟨⟨xs, ys ++ zs, ⟨tb', q2, hwE, tAE _ _ hb, sE0 _ _ hD2⟩, ?_⟩, fun t ht => ?_, by rw [List.length_append]; omega, by omega⟩
   ·rw [List.map_append, ← e1, ← ete, ← List.append_assoc]
    exact ((DnL.tupS tAE V1.fb db).append (DnL.tupS tAE V1.fc dc)).append (DnL.same sBE _ _ dB)
   ·rcases List.mem_append.mp ht with z | z
    ·exact ok1 t z
    ·exact oke t z
  have AE := WT1 HE t5E
  have taE := sBE.tab (xB.tab hpA (sA.tab ta5))
  have tbE := sBE.tab (xB.tab hpA (sA.tab tb5))
  have stE : HE st = some (.lst [.str (zcf u12), .str (zcf u23), .str (zcf u13)]) := sBE _ _ (xB _ _ nsp hA)
  refine ⟨_, rfl, _, rfl, taE, tbE, wm, w1, m, t1 ++ te, t1, rfl, AM, AE, m1, m9, fun vF HF sF dF => ?_⟩
  obtain ⟨pF, rF, rfl, hF⟩ := zs0 dF
  refine ⟨pF, _, _, _, rfl, rfl, sqT hF, at0, ?_⟩
  rw [zi1]
  obtain ⟨ub, hub⟩ : ∃ u, wIn m t1 (t1 ++ te) = u := ⟨_, rfl⟩
  rw [hub]
  refine ⟨_, rfl, small (by show 2 ≤ 1000; decide), fun ll hll => ?_⟩
  have sG := sF.trans (zaj hll (.lst [.str ("more" : Str), .str ("same" : Str)]))
  have hG : L2.upd HF ll (.lst [.str ("more" : Str), .str ("same" : Str)]) ll = some (.lst [.str ("more" : Str), .str ("same" : Str)]) := zae
  generalize L2.upd HF ll (.lst [.str ("more" : Str), .str ("same" : Str)]) = HG at sG hG ⊢
  refine ⟨_, rfl, sG.tab taE, wm, m, t1 ++ te, rfl, AM.same sG, m1, m9, fun a1 HI sI na1 hI => ?_⟩
  have sGI := sG.trans sI
  refine ⟨_, rfl, sGI.tab taE, w1, m, t1, rfl, AE.same sGI, m1, m9, fun a2 HJ sJ na2 hJ => ?_⟩
  have sGJ := sGI.trans sJ
  refine ⟨a1, a2, (zco m (t1 ++ te)).map (fun k : Nat => (k : Int)), (zco m t1).map (fun k : Nat => (k : Int)), rfl, rfl, SqL.of (by rw [zj9]; exact sJ _ _ hI), SqL.of (by rw [zj9]; exact hJ), ?_⟩
  rw [zr6 zi1, hub]
  refine .inr ⟨ub, rfl, ?_⟩
  refine ⟨ll, _, _, .str (zq6 true ub), rfl, rfl, SqL.of ((sI.trans sJ) _ _ hG), by cases ub <;> rfl, rfl, _, rfl, ?_⟩
  refine ze6 rfl ?_
  refine ⟨_, rfl, _, rfl, sGJ.tab taE, sGJ.tab tbE, wm, w1, m, t1 ++ te, t1, rfl, AM.same sGJ, AE.same sGJ, m1, m9, fun vK HK sK dK => ?_⟩
  obtain ⟨pK, rK, rfl, hK⟩ := zdj dK
  refine ⟨pK, _, _, _, rfl, rfl, sqT hK, at0, rfl, _, rfl, ?_⟩
  refine ze6 ((zqn _).mpr zi1) ?_
  have sEK := sGJ.trans sK
  refine ⟨_, rfl, st, _, _, _, rfl, rfl, SqL.of (sEK _ _ stE), at0, rfl, _, rfl, ?_⟩
  cases hu : u12
  ·refine zj3 (by decide +kernel) ?_
   exact q _
  refine ze6 rfl ?_
  refine ⟨_, rfl, w1, m, t1, 1, 0, rfl, AE.same sEK, m9, m1, zou m1, fun HL o sL ho => ?_⟩
  cases o with
  | none =>
   refine ⟨rfl, _, rfl, ?_⟩
   refine zd5 rfl ?_
   exact q _
  | some s0 =>
   refine ⟨rfl, _, rfl, ?_⟩
   refine zb5 (fun z => nomatch z) ?_
   have sEL := sEK.trans sL
   refine ⟨_, rfl, sEL.tab taE, w1, m, t1, rfl, AE.same sEL, m1, m9, fun lw HM sM nlw hM => ?_⟩
   have few := zkh (m := m) (ts := t1) m9
   have mem0 : s0 ∈ zco m t1 := mem_wareL.mpr ⟨ho.1, ho.2.2.1⟩
   have pos := List.length_pos_of_mem mem0
   have sEM := sEL.trans sM
   have hpM : HM pen = some (.lst [.ref sp, .int k6]) := sEM _ _ (sBE _ _ hpB)
   have nlp : lw ≠ pen := fun z => by
    have h : HL pen = _ := sEL _ _ (sBE _ _ hpB)
    rw [← z, nlw] at h
    cases h
   refine ⟨_, rfl, _, rfl, _, rfl, lw, _, rfl, .inl (SqL.of hM), pen, sp, ns, ((zb2 (zco m t1)).length : Int), k6, rfl, pn.to ((xA.trans xB).trans (Same.x (sBE.trans sEM))) hpM, by omega, by omega, by rw [List.length_map]; omega, fun c c0 c1 => ?_⟩
   rw [List.length_map] at c1
   obtain ⟨j, rfl⟩ : ∃ j : Nat, c = (j : Int) := ⟨c.toNat, by omega⟩
   have jl : j < (zco m t1).length := by omega
   obtain ⟨wa, hwa⟩ : ∃ wa, (zco m t1)[j]? = some wa := ⟨_, List.getElem?_eq_getElem jl⟩
   obtain ⟨wm1, wW1⟩ := mem_wareL.mp (List.mem_of_getElem? hwa)
   have wW2 := wIn_iff.mp (hu12.trans hu) wa wm1 wW1
   refine ⟨lw, _, _, .int (wa : Int), rfl, rfl, SqL.of (by rw [zao nlp]; exact hM), zd0 (by rw [List.getElem?_map, hwa]; rfl), ?_⟩
   have tN := zbr (zbr t5E (Same.tup sEM)) (zg4 (o' := .lst [.ref sp, .int (k6 + 1)]) hpM (fun _ z => nomatch z))
   refine ⟨_, rfl, _, rfl, w1, m, t1, wa, rfl, fun H' t => WT1 H' (zbr tN t), m9, m1, wm1, wW1, fun HO' tO => ?_⟩
   refine ⟨_, rfl, ?_⟩
   refine zok ?_
   exact ⟨_, rfl, _, rfl, w2, m, t2, wa, rfl, fun H' t => WT2 H' (zbr tN (zbr tO t)), m9, m1, wm1, wW2, fun HP tP => q _⟩
 refine ⟨_, rfl, _, rfl, st, _, rfl, SqL.of h9, fun l1 hl1 => ?_⟩
 have ec : ze8 [V.str (zcf u12), V.str (zcf u23), V.str (zcf u13)] none (some 2) = [V.str (zcf u12), V.str (zcf u23)] := rfl
 rw [ec]
 have sA := zaj hl1 (.lst [.str (zcf u12), .str (zcf u23)])
 have hlA : L2.upd H9 l1 (.lst [.str (zcf u12), .str (zcf u23)]) l1 = some (.lst [.str (zcf u12), .str (zcf u23)]) := zae
 generalize L2.upd H9 l1 (.lst [.str (zcf u12), .str (zcf u23)]) = HA at sA hlA ⊢
 refine ⟨small (by show 2 ≤ 1000; decide), fun l2 hl2 => ?_⟩
 have sB := zaj hl2 (.lst [.str ("in" : Str), .str ("in" : Str)])
 have hlB : L2.upd HA l2 (.lst [.str ("in" : Str), .str ("in" : Str)]) l2 = some (.lst [.str ("in" : Str), .str ("in" : Str)]) := zae
 generalize L2.upd HA l2 (.lst [.str ("in" : Str), .str ("in" : Str)]) = HB at sB hlB ⊢
 have s9B := s9.trans (sA.trans sB)
 have h9B : HB st = some (.lst [.str (zcf u12), .str (zcf u23), .str (zcf u13)]) := sB _ _ (sA _ _ h9)
 refine ⟨.list [.str (zcf u12), .str (zcf u23)], .list [.str ("in" : Str), .str ("in" : Str)], ⟨l1, _, rfl, sB _ _ hlA, _, _, rfl, rfl, _, _, rfl, rfl, rfl⟩, ⟨l2, _, rfl, hlB, _, _, rfl, rfl, _, _, rfl, rfl, rfl⟩, shp, by decide +kernel, _, rfl, ?_⟩
 rw [eqb]
 have same0 : V.str (zcf (wIn m t1 t1)) = V.str ("in" : Str) := (zqn _).mpr (zrc m t1)
 refine zcq (fun c => ?_) (fun c => ?_)
 ·obtain ⟨c1, c2⟩ := Bool.and_eq_true_iff.mp c
  have u13t : u13 = true := by rw [← hu13]; exact zpo (hu12.trans c1) (hu23.trans c2)
  refine ⟨_, rfl, st, _, _, _, rfl, rfl, SqL.of h9B, at2, rfl, _, rfl, ?_⟩
  refine ze6 (by rw [u13t]; rfl) ?_
  refine ⟨_, rfl, _, rfl, s9B.tab ta5, s9B.tab tb5, w1, w1, m, t1, t1, rfl, A1.same s9B, A1.same s9B, m1, m9, fun vC HC sC dC => ?_⟩
  obtain ⟨pC, rC, rfl, hC⟩ := zdj dC
  refine ⟨pC, _, _, _, rfl, rfl, sqT hC, at0, rfl, _, rfl, ?_⟩
  refine ze6 same0 ?_
  exact tail _ (s9B.trans sC) (sC _ _ h9B)
 ·refine zhk ?_
  refine ⟨_, rfl, _, rfl, s9B.tab ta5, s9B.tab tb5, w1, w1, m, t1, t1, rfl, A1.same s9B, A1.same s9B, m1, m9, fun vC HC sC dC => ?_⟩
  obtain ⟨pC, rC, rfl, hC⟩ := zdj dC
  refine ⟨pC, _, _, _, rfl, rfl, sqT hC, at0, rfl, _, rfl, ?_⟩
  refine ze6 same0 ?_
  exact tail _ (s9B.trans sC) (sC _ _ h9B)
end
@[elab_as_elim] theorem zn6 {α : Type} {R : List α → Prop} : ∀ us : List α, us.length = 1 → (∀ x0, R [x0]) → R us | [x0], _, h => h x0
@[elab_as_elim] theorem len2 {α : Type} {R : List α → Prop} : ∀ us : List α, us.length = 2 → (∀ x0 x1, R [x0, x1]) → R us | [x0, x1], _, h => h x0 x1
@[elab_as_elim] theorem zf6 {α : Type} {R : List α → Prop} : ∀ us : List α, us.length = 3 → (∀ x0 x1 x2, R [x0, x1, x2]) → R us | [x0, x1, x2], _, h => h x0 x1 x2
@[elab_as_elim] theorem zt9 {α : Type} {R : List α → Prop} : ∀ us : List α, us.length = 4 → (∀ x0 x1 x2 x3, R [x0, x1, x2, x3]) → R us | [x0, x1, x2, x3], _, h => h x0 x1 x2 x3
@[elab_as_elim] theorem zvq {α : Type} {R : List α → Prop} : ∀ us : List α, us.length = 5 → (∀ x0 x1 x2 x3 x4, R [x0, x1, x2, x3, x4]) → R us | [x0, x1, x2, x3, x4], _, h => h x0 x1 x2 x3 x4
theorem all_mk {l : PySem.W.OpenLaw} {w : World} {K : PySem.W.Frag} {h : Heap} {mg : Str → Option Value} {fa f1 f2 f3 f4 f5 f6 f7 f8 f9 f10 f11 f12 f13 f14 f15 f16 f17 f18 f19 f20 f21 f22 f23 f24 f25 f26 f27 f28 f29 f30 f31 f32 f33 f34 f35 f36 f37 f38 f39 f40 f41 f42 f43 f44 f45 f46 cc21 tt21 cc28 tt28 y_Choice : Addr} (X : K.In h) (G : h.Ns mainGlobals mg) (hfa : mg "law" = some (.ref fa))
  {od1 an1 od2 an2 od3 an3 od4 an4 od5 an5 od6 an6 od7 an7 od8 an8 od9 an9 od10 an10 od11 an11 od12 an12 od13 an13 od14 an14 od15 an15 od16 an16 od17 an17 od18 an18 od19 an19 od20 an20 od21 an21 od22 an22 od23 an23 od24 an24 od25 an25 od26 an26 od27 an27 od28 an28 od29 an29 od30 an30 od31 an31 od32 an32 od33 an33 od34 an34 od35 an35 od36 an36 od37 an37 od38 an38 od39 an39 od40 an40 od41 an41 od42 an42 od43 an43 od44 an44 od45 an45 od46 an46 : Option Addr} {sl1 sl2 sl3 sl4 sl5 sl6 sl7 sl8 sl9 sl10 sl11 sl12 sl13 sl14 sl15 sl16 sl17 sl18 sl19 sl20 sl21 sl22 sl23 sl24 sl25 sl26 sl27 sl28 sl29 sl30 sl31 sl32 sl33 sl34 sl35 sl36 sl37 sl38 sl39 sl40 sl41 sl42 sl43 sl44 sl45 sl46 : Array (Option Value)} {kV1 dc1 pm1 ct1 oc1 cd1 kV2 dc2 pm2 ct2 oc2 cd2 kV3 dc3 pm3 ct3 oc3 cd3 kV4 dc4 pm4 ct4 oc4 cd4 kV5 dc5 pm5 ct5 oc5 cd5 kV6 dc6 pm6 ct6 oc6 cd6 kV7 dc7 pm7 ct7 oc7 cd7 kV8 dc8 pm8 ct8 oc8 cd8 kV9 dc9 pm9 ct9 oc9 cd9 kV10 dc10 pm10 ct10 oc10 cd10 kV11 dc11 pm11 ct11 oc11 cd11 kV12 dc12 pm12 ct12 oc12 cd12 kV13 dc13 pm13 ct13 oc13 cd13 kV14 dc14 pm14 ct14 oc14 cd14 kV15 dc15 pm15 ct15 oc15 cd15 kV16 dc16 pm16 ct16 oc16 cd16 kV17 dc17 pm17 ct17 oc17 cd17 kV18 dc18 pm18 ct18 oc18 cd18 kV19 dc19 pm19 ct19 oc19 cd19 kV20 dc20 pm20 ct20 oc20 cd20 kV21 dc21 pm21 ct21 oc21 kV22 dc22 pm22 ct22 oc22 cd22 kV23 dc23 pm23 ct23 oc23 cd23 kV24 dc24 pm24 ct24 oc24 cd24 kV25 dc25 pm25 ct25 oc25 cd25 kV26 dc26 pm26 ct26 oc26 cd26 kV27 dc27 pm27 ct27 oc27 cd27 kV28 dc28 pm28 ct28 oc28 kV29 dc29 pm29 ct29 oc29 cd29 kV30 dc30 pm30 ct30 oc30 cd30 kV31 dc31 pm31 ct31 oc31 cd31 kV32 dc32 pm32 ct32 oc32 cd32 kV33 dc33 pm33 ct33 oc33 cd33 kV34 dc34 pm34 ct34 oc34 cd34 kV35 dc35 pm35 ct35 oc35 cd35 kV36 dc36 pm36 ct36 oc36 cd36 kV37 dc37 pm37 ct37 oc37 cd37 kV38 dc38 pm38 ct38 oc38 cd38 kV39 dc39 pm39 ct39 oc39 cd39 kV40 dc40 pm40 ct40 oc40 cd40 kV41 dc41 pm41 ct41 oc41 cd41 kV42 dc42 pm42 ct42 oc42 cd42 kV43 dc43 pm43 ct43 oc43 cd43 kV44 dc44 pm44 ct44 oc44 cd44 kV45 dc45 pm45 ct45 oc45 cd45 kV46 dc46 pm46 ct46 oc46 cd46 : Value}
  {coc21 : Value} {cod21 : Option Addr} {cvs21 : Array Value} {csl21 : Array (Option Value)}
  {coc28 : Value} {cod28 : Option Addr} {cvs28 : Array Value} {csl28 : Array (Option Value)}
  (a1 : PySem.W.nsIn K mainGlobals "has" = some (some (.ref f1))) (l1 : K.lookup f1 = some ⟨oc1, od1, .func (PySem.W.fnOf "has" "has" (zak zgy) (zah zgy) (zab zgy) .none kV1 dc1 pm1 an1 cd1 ct1), sl1⟩) (c1 : PySem.W.codeIn K cd1 "has" = true) (k1 : PySem.W.keepIn K (.ref f1) = true)
  (a2 : PySem.W.nsIn K mainGlobals "with_option" = some (some (.ref f2))) (l2 : K.lookup f2 = some ⟨oc2, od2, .func (PySem.W.fnOf "with_option" "with_option" (zak zbv) (zah zbv) (zab zbv) .none kV2 dc2 pm2 an2 cd2 ct2), sl2⟩) (c2 : PySem.W.codeIn K cd2 "with_option" = true) (k2 : PySem.W.keepIn K (.ref f2) = true)
  (a3 : PySem.W.nsIn K mainGlobals "open_options" = some (some (.ref f3))) (l3 : K.lookup f3 = some ⟨oc3, od3, .func (PySem.W.fnOf "open_options" "open_options" (zak zbi) (zah zbi) (zab zbi) .none kV3 dc3 pm3 an3 cd3 ct3), sl3⟩) (c3 : PySem.W.codeIn K cd3 "open_options" = true) (k3 : PySem.W.keepIn K (.ref f3) = true)
  (a4 : PySem.W.nsIn K mainGlobals "many_ties" = some (some (.ref f4))) (l4 : K.lookup f4 = some ⟨oc4, od4, .func (PySem.W.fnOf "many_ties" "many_ties" (zak zcl) (zah zcl) (zab zcl) .none kV4 dc4 pm4 an4 cd4 ct4), sl4⟩) (c4 : PySem.W.codeIn K cd4 "many_ties" = true) (k4 : PySem.W.keepIn K (.ref f4) = true)
  (a5 : PySem.W.nsIn K mainGlobals "tie_at" = some (some (.ref f5))) (l5 : K.lookup f5 = some ⟨oc5, od5, .func (PySem.W.fnOf "tie_at" "tie_at" (zak zdb) (zah zdb) (zab zdb) .none kV5 dc5 pm5 an5 cd5 ct5), sl5⟩) (c5 : PySem.W.codeIn K cd5 "tie_at" = true) (k5 : PySem.W.keepIn K (.ref f5) = true)
  (a6 : PySem.W.nsIn K mainGlobals "keeps" = some (some (.ref f6))) (l6 : K.lookup f6 = some ⟨oc6, od6, .func (PySem.W.fnOf "keeps" "keeps" (zak zdr) (zah zdr) (zab zdr) .none kV6 dc6 pm6 an6 cd6 ct6), sl6⟩) (c6 : PySem.W.codeIn K cd6 "keeps" = true) (k6 : PySem.W.keepIn K (.ref f6) = true)
  (a7 : PySem.W.nsIn K mainGlobals "keeps_bough" = some (some (.ref f7))) (l7 : K.lookup f7 = some ⟨oc7, od7, .func (PySem.W.fnOf "keeps_bough" "keeps_bough" (zak zbx) (zah zbx) (zab zbx) .none kV7 dc7 pm7 an7 cd7 ct7), sl7⟩) (c7 : PySem.W.codeIn K cd7 "keeps_bough" = true) (k7 : PySem.W.keepIn K (.ref f7) = true)
  (a8 : PySem.W.nsIn K mainGlobals "count_in" = some (some (.ref f8))) (l8 : K.lookup f8 = some ⟨oc8, od8, .func (PySem.W.fnOf "count_in" "count_in" (zak zcm) (zah zcm) (zab zcm) .none kV8 dc8 pm8 an8 cd8 ct8), sl8⟩) (c8 : PySem.W.codeIn K cd8 "count_in" = true) (k8 : PySem.W.keepIn K (.ref f8) = true)
  (a9 : PySem.W.nsIn K mainGlobals "every_tie" = some (some (.ref f9))) (l9 : K.lookup f9 = some ⟨oc9, od9, .func (PySem.W.fnOf "every_tie" "every_tie" (zak zci) (zah zci) (zab zci) .none kV9 dc9 pm9 an9 cd9 ct9), sl9⟩) (c9 : PySem.W.codeIn K cd9 "every_tie" = true) (k9 : PySem.W.keepIn K (.ref f9) = true)
  (a10 : PySem.W.nsIn K mainGlobals "first_broken" = some (some (.ref f10))) (l10 : K.lookup f10 = some ⟨oc10, od10, .func (PySem.W.fnOf "first_broken" "first_broken" (zak zbp) (zah zbp) (zab zbp) .none kV10 dc10 pm10 an10 cd10 ct10), sl10⟩) (c10 : PySem.W.codeIn K cd10 "first_broken" = true) (k10 : PySem.W.keepIn K (.ref f10) = true)
  (a11 : PySem.W.nsIn K mainGlobals "is_ware" = some (some (.ref f11))) (l11 : K.lookup f11 = some ⟨oc11, od11, .func (PySem.W.fnOf "is_ware" "is_ware" (zak zc2) (zah zc2) (zab zc2) .none kV11 dc11 pm11 an11 cd11 ct11), sl11⟩) (c11 : PySem.W.codeIn K cd11 "is_ware" = true) (k11 : PySem.W.keepIn K (.ref f11) = true)
  (a12 : PySem.W.nsIn K mainGlobals "sure_broken" = some (some (.ref f12))) (l12 : K.lookup f12 = some ⟨oc12, od12, .func (PySem.W.fnOf "sure_broken" "sure_broken" (zak zby) (zah zby) (zab zby) .none kV12 dc12 pm12 an12 cd12 ct12), sl12⟩) (c12 : PySem.W.codeIn K cd12 "sure_broken" = true) (k12 : PySem.W.keepIn K (.ref f12) = true)
  (a13 : PySem.W.nsIn K mainGlobals "sure_kept" = some (some (.ref f13))) (l13 : K.lookup f13 = some ⟨oc13, od13, .func (PySem.W.fnOf "sure_kept" "sure_kept" (zak zck) (zah zck) (zab zck) .none kV13 dc13 pm13 an13 cd13 ct13), sl13⟩) (c13 : PySem.W.codeIn K cd13 "sure_kept" = true) (k13 : PySem.W.keepIn K (.ref f13) = true)
  (a14 : PySem.W.nsIn K mainGlobals "least_sum" = some (some (.ref f14))) (l14 : K.lookup f14 = some ⟨oc14, od14, .func (PySem.W.fnOf "least_sum" "least_sum" (zak zb8) (zah zb8) (zab zb8) .none kV14 dc14 pm14 an14 cd14 ct14), sl14⟩) (c14 : PySem.W.codeIn K cd14 "least_sum" = true) (k14 : PySem.W.keepIn K (.ref f14) = true)
  (a15 : PySem.W.nsIn K mainGlobals "greatest_sum" = some (some (.ref f15))) (l15 : K.lookup f15 = some ⟨oc15, od15, .func (PySem.W.fnOf "greatest_sum" "greatest_sum" (zak zbk) (zah zbk) (zab zbk) .none kV15 dc15 pm15 an15 cd15 ct15), sl15⟩) (c15 : PySem.W.codeIn K cd15 "greatest_sum" = true) (k15 : PySem.W.keepIn K (.ref f15) = true)
  (a16 : PySem.W.nsIn K mainGlobals "sure_broken_bough" = some (some (.ref f16))) (l16 : K.lookup f16 = some ⟨oc16, od16, .func (PySem.W.fnOf "sure_broken_bough" "sure_broken_bough" (zak zas) (zah zas) (zab zas) .none kV16 dc16 pm16 an16 cd16 ct16), sl16⟩) (c16 : PySem.W.codeIn K cd16 "sure_broken_bough" = true) (k16 : PySem.W.keepIn K (.ref f16) = true)
  (a17 : PySem.W.nsIn K mainGlobals "sure_kept_bough" = some (some (.ref f17))) (l17 : K.lookup f17 = some ⟨oc17, od17, .func (PySem.W.fnOf "sure_kept_bough" "sure_kept_bough" (zak zaw) (zah zaw) (zab zaw) .none kV17 dc17 pm17 an17 cd17 ct17), sl17⟩) (c17 : PySem.W.codeIn K cd17 "sure_kept_bough" = true) (k17 : PySem.W.keepIn K (.ref f17) = true)
  (a18 : PySem.W.nsIn K mainGlobals "first_sure_broken" = some (some (.ref f18))) (l18 : K.lookup f18 = some ⟨oc18, od18, .func (PySem.W.fnOf "first_sure_broken" "first_sure_broken" (zak za4) (zah za4) (zab za4) .none kV18 dc18 pm18 an18 cd18 ct18), sl18⟩) (c18 : PySem.W.codeIn K cd18 "first_sure_broken" = true) (k18 : PySem.W.keepIn K (.ref f18) = true)
  (a19 : PySem.W.nsIn K mainGlobals "all_sure_kept" = some (some (.ref f19))) (l19 : K.lookup f19 = some ⟨oc19, od19, .func (PySem.W.fnOf "all_sure_kept" "all_sure_kept" (zak zbh) (zah zbh) (zab zbh) .none kV19 dc19 pm19 an19 cd19 ct19), sl19⟩) (c19 : PySem.W.codeIn K cd19 "all_sure_kept" = true) (k19 : PySem.W.keepIn K (.ref f19) = true)
  (a20 : PySem.W.nsIn K mainGlobals "cases" = some (some (.ref f20))) (l20 : K.lookup f20 = some ⟨oc20, od20, .func (PySem.W.fnOf "cases" "cases" (zak zdy) (zah zdy) (zab zdy) .none kV20 dc20 pm20 an20 cd20 ct20), sl20⟩) (c20 : PySem.W.codeIn K cd20 "cases" = true) (k20 : PySem.W.keepIn K (.ref f20) = true)
  (a21 : PySem.W.nsIn K mainGlobals "cases_of" = some (some (.ref f21))) (l21 : K.lookup f21 = some ⟨oc21, od21, .func (PySem.W.fnOf "cases_of" "cases_of" (zak zbq) (zah zbq) (zab zbq) .none kV21 dc21 pm21 an21 (.ref cc21) ct21), sl21⟩) (c21 : PySem.W.codeIn K (.ref cc21) "cases_of" = true) (k21 : PySem.W.keepIn K (.ref f21) = true)
  (m21 : K.lookup cc21 = some ⟨coc21, cod21, .fields cvs21, csl21⟩) (n21 : (cvs21[11]? : Option Value) = some (.ref tt21))
  (a22 : PySem.W.nsIn K mainGlobals "ware_leaf" = some (some (.ref f22))) (l22 : K.lookup f22 = some ⟨oc22, od22, .func (PySem.W.fnOf "ware_leaf" "ware_leaf" (zak zcj) (zah zcj) (zab zcj) .none kV22 dc22 pm22 an22 cd22 ct22), sl22⟩) (c22 : PySem.W.codeIn K cd22 "ware_leaf" = true) (k22 : PySem.W.keepIn K (.ref f22) = true)
  (a23 : PySem.W.nsIn K mainGlobals "told_tree" = some (some (.ref f23))) (l23 : K.lookup f23 = some ⟨oc23, od23, .func (PySem.W.fnOf "told_tree" "told_tree" (zak zb0) (zah zb0) (zab zb0) .none kV23 dc23 pm23 an23 cd23 ct23), sl23⟩) (c23 : PySem.W.codeIn K cd23 "told_tree" = true) (k23 : PySem.W.keepIn K (.ref f23) = true)
  (a24 : PySem.W.nsIn K mainGlobals "wares_in" = some (some (.ref f24))) (l24 : K.lookup f24 = some ⟨oc24, od24, .func (PySem.W.fnOf "wares_in" "wares_in" (zak zcs) (zah zcs) (zab zcs) .none kV24 dc24 pm24 an24 cd24 ct24), sl24⟩) (c24 : PySem.W.codeIn K cd24 "wares_in" = true) (k24 : PySem.W.keepIn K (.ref f24) = true)
  (a25 : PySem.W.nsIn K mainGlobals "wares" = some (some (.ref f25))) (l25 : K.lookup f25 = some ⟨oc25, od25, .func (PySem.W.fnOf "wares" "wares" (zak zd1) (zah zd1) (zab zd1) .none kV25 dc25 pm25 an25 cd25 ct25), sl25⟩) (c25 : PySem.W.codeIn K cd25 "wares" = true) (k25 : PySem.W.keepIn K (.ref f25) = true)
  (a26 : PySem.W.nsIn K mainGlobals "first_ware" = some (some (.ref f26))) (l26 : K.lookup f26 = some ⟨oc26, od26, .func (PySem.W.fnOf "first_ware" "first_ware" (zak zb6) (zah zb6) (zab zb6) .none kV26 dc26 pm26 an26 cd26 ct26), sl26⟩) (c26 : PySem.W.codeIn K cd26 "first_ware" = true) (k26 : PySem.W.keepIn K (.ref f26) = true)
  (a27 : PySem.W.nsIn K mainGlobals "first_keeping" = some (some (.ref f27))) (l27 : K.lookup f27 = some ⟨oc27, od27, .func (PySem.W.fnOf "first_keeping" "first_keeping" (zak za7) (zah za7) (zab za7) .none kV27 dc27 pm27 an27 cd27 ct27), sl27⟩) (c27 : PySem.W.codeIn K cd27 "first_keeping" = true) (k27 : PySem.W.keepIn K (.ref f27) = true)
  (a28 : PySem.W.nsIn K mainGlobals "within" = some (some (.ref f28))) (l28 : K.lookup f28 = some ⟨oc28, od28, .func (PySem.W.fnOf "within" "within" (zak zb3) (zah zb3) (zab zb3) .none kV28 dc28 pm28 an28 (.ref cc28) ct28), sl28⟩) (c28 : PySem.W.codeIn K (.ref cc28) "within" = true) (k28 : PySem.W.keepIn K (.ref f28) = true)
  (m28 : K.lookup cc28 = some ⟨coc28, cod28, .fields cvs28, csl28⟩) (n28 : (cvs28[11]? : Option Value) = some (.ref tt28))
  (a29 : PySem.W.nsIn K mainGlobals "compared" = some (some (.ref f29))) (l29 : K.lookup f29 = some ⟨oc29, od29, .func (PySem.W.fnOf "compared" "compared" (zak zcv) (zah zcv) (zab zcv) .none kV29 dc29 pm29 an29 cd29 ct29), sl29⟩) (c29 : PySem.W.codeIn K cd29 "compared" = true) (k29 : PySem.W.keepIn K (.ref f29) = true)
  (a30 : PySem.W.nsIn K mainGlobals "check_alike" = some (some (.ref f30))) (l30 : K.lookup f30 = some ⟨oc30, od30, .func (PySem.W.fnOf "check_alike" "check_alike" (zak zbw) (zah zbw) (zab zbw) .none kV30 dc30 pm30 an30 cd30 ct30), sl30⟩) (c30 : PySem.W.codeIn K cd30 "check_alike" = true) (k30 : PySem.W.keepIn K (.ref f30) = true)
  (a31 : PySem.W.nsIn K mainGlobals "kept_leaf" = some (some (.ref f31))) (l31 : K.lookup f31 = some ⟨oc31, od31, .func (PySem.W.fnOf "kept_leaf" "kept_leaf" (zak zcg) (zah zcg) (zab zcg) .none kV31 dc31 pm31 an31 cd31 ct31), sl31⟩) (c31 : PySem.W.codeIn K cd31 "kept_leaf" = true) (k31 : PySem.W.keepIn K (.ref f31) = true)
  (a32 : PySem.W.nsIn K mainGlobals "stand_of" = some (some (.ref f32))) (l32 : K.lookup f32 = some ⟨oc32, od32, .func (PySem.W.fnOf "stand_of" "stand_of" (zak zcx) (zah zcx) (zab zcx) .none kV32 dc32 pm32 an32 cd32 ct32), sl32⟩) (c32 : PySem.W.codeIn K cd32 "stand_of" = true) (k32 : PySem.W.keepIn K (.ref f32) = true)
  (a33 : PySem.W.nsIn K mainGlobals "open_at" = some (some (.ref f33))) (l33 : K.lookup f33 = some ⟨oc33, od33, .func (PySem.W.fnOf "open_at" "open_at" (zak zc4) (zah zc4) (zab zc4) .none kV33 dc33 pm33 an33 cd33 ct33), sl33⟩) (c33 : PySem.W.codeIn K cd33 "open_at" = true) (k33 : PySem.W.keepIn K (.ref f33) = true)
  (a34 : PySem.W.nsIn K mainGlobals "first_ware_at" = some (some (.ref f34))) (l34 : K.lookup f34 = some ⟨oc34, od34, .func (PySem.W.fnOf "first_ware_at" "first_ware_at" (zak zbl) (zah zbl) (zab zbl) .none kV34 dc34 pm34 an34 cd34 ct34), sl34⟩) (c34 : PySem.W.codeIn K cd34 "first_ware_at" = true) (k34 : PySem.W.keepIn K (.ref f34) = true)
  (a35 : PySem.W.nsIn K mainGlobals "leads_on" = some (some (.ref f35))) (l35 : K.lookup f35 = some ⟨oc35, od35, .func (PySem.W.fnOf "leads_on" "leads_on" (zak zcr) (zah zcr) (zab zcr) .none kV35 dc35 pm35 an35 cd35 ct35), sl35⟩) (c35 : PySem.W.codeIn K cd35 "leads_on" = true) (k35 : PySem.W.keepIn K (.ref f35) = true)
  (a36 : PySem.W.nsIn K mainGlobals "_law_take" = some (some (.ref f36))) (l36 : K.lookup f36 = some ⟨oc36, od36, .func (PySem.W.fnOf "_law_take" "_law_take" (zak zcc) (zah zcc) (zab zcc) .none kV36 dc36 pm36 an36 cd36 ct36), sl36⟩) (c36 : PySem.W.codeIn K cd36 "_law_take" = true) (k36 : PySem.W.keepIn K (.ref f36) = true)
  (a37 : PySem.W.nsIn K mainGlobals "_law_boughs" = some (some (.ref f37))) (l37 : K.lookup f37 = some ⟨oc37, od37, .func (PySem.W.fnOf "_law_boughs" "_law_boughs" (zak zbm) (zah zbm) (zab zbm) .none kV37 dc37 pm37 an37 cd37 ct37), sl37⟩) (c37 : PySem.W.codeIn K cd37 "_law_boughs" = true) (k37 : PySem.W.keepIn K (.ref f37) = true)
  (a38 : PySem.W.nsIn K mainGlobals "_law_cross" = some (some (.ref f38))) (l38 : K.lookup f38 = some ⟨oc38, od38, .func (PySem.W.fnOf "_law_cross" "_law_cross" (zak zbf) (zah zbf) (zab zbf) .none kV38 dc38 pm38 an38 cd38 ct38), sl38⟩) (c38 : PySem.W.codeIn K cd38 "_law_cross" = true) (k38 : PySem.W.keepIn K (.ref f38) = true)
  (a39 : PySem.W.nsIn K mainGlobals "_law_many" = some (some (.ref f39))) (l39 : K.lookup f39 = some ⟨oc39, od39, .func (PySem.W.fnOf "_law_many" "_law_many" (zak zcw) (zah zcw) (zab zcw) .none kV39 dc39 pm39 an39 cd39 ct39), sl39⟩) (c39 : PySem.W.codeIn K cd39 "_law_many" = true) (k39 : PySem.W.keepIn K (.ref f39) = true)
  (a40 : PySem.W.nsIn K mainGlobals "_law_wood" = some (some (.ref f40))) (l40 : K.lookup f40 = some ⟨oc40, od40, .func (PySem.W.fnOf "_law_wood" "_law_wood" (zak zcu) (zah zcu) (zab zcu) .none kV40 dc40 pm40 an40 cd40 ct40), sl40⟩) (c40 : PySem.W.codeIn K cd40 "_law_wood" = true) (k40 : PySem.W.keepIn K (.ref f40) = true)
  (a41 : PySem.W.nsIn K mainGlobals "_law_near" = some (some (.ref f41))) (l41 : K.lookup f41 = some ⟨oc41, od41, .func (PySem.W.fnOf "_law_near" "_law_near" (zak zcd) (zah zcd) (zab zcd) .none kV41 dc41 pm41 an41 cd41 ct41), sl41⟩) (c41 : PySem.W.codeIn K cd41 "_law_near" = true) (k41 : PySem.W.keepIn K (.ref f41) = true)
  (a42 : PySem.W.nsIn K mainGlobals "_law_chosen" = some (some (.ref f42))) (l42 : K.lookup f42 = some ⟨oc42, od42, .func (PySem.W.fnOf "_law_chosen" "_law_chosen" (zak zb7) (zah zb7) (zab zb7) .none kV42 dc42 pm42 an42 cd42 ct42), sl42⟩) (c42 : PySem.W.codeIn K cd42 "_law_chosen" = true) (k42 : PySem.W.keepIn K (.ref f42) = true)
  (a43 : PySem.W.nsIn K mainGlobals "law" = some (some (.ref f43))) (l43 : K.lookup f43 = some ⟨oc43, od43, .func (PySem.W.fnOf "law" "law" (zak zeb) (zah zeb) (zab zeb) .none kV43 dc43 pm43 an43 cd43 ct43), sl43⟩) (c43 : PySem.W.codeIn K cd43 "law" = true) (k43 : PySem.W.keepIn K (.ref f43) = true)
  (a44 : PySem.W.findIn K (.ref y_Choice) "__init__" = some (some (.ref f44))) (l44 : K.lookup f44 = some ⟨oc44, od44, .func (PySem.W.fnOf "__init__" "Choice.__init__" (zak zbb) (zah zbb) (zab zbb) .none kV44 dc44 pm44 an44 cd44 ct44), sl44⟩) (c44 : PySem.W.codeIn K cd44 "Choice.__init__" = true) (k44 : PySem.W.keepIn K (.ref f44) = true)
  (i44 : PySem.W.isFn K (.ref f44) = true)
  (a45 : PySem.W.findIn K (.ref y_Choice) "choose" = some (some (.ref f45))) (l45 : K.lookup f45 = some ⟨oc45, od45, .func (PySem.W.fnOf "choose" "Choice.choose" (zak zbn) (zah zbn) (zab zbn) .none kV45 dc45 pm45 an45 cd45 ct45), sl45⟩) (c45 : PySem.W.codeIn K cd45 "Choice.choose" = true) (k45 : PySem.W.keepIn K (.ref f45) = true)
  (i45 : PySem.W.isFn K (.ref f45) = true)
  (a46 : PySem.W.findIn K (.ref y_Choice) "ware" = some (some (.ref f46))) (l46 : K.lookup f46 = some ⟨oc46, od46, .func (PySem.W.fnOf "ware" "Choice.ware" (zak zbz) (zah zbz) (zab zbz) .none kV46 dc46 pm46 an46 cd46 ct46), sl46⟩) (c46 : PySem.W.codeIn K cd46 "Choice.ware" = true) (k46 : PySem.W.keepIn K (.ref f46) = true)
  (i46 : PySem.W.isFn K (.ref f46) = true)
  (z1 : PySem.W.nsIn K mainGlobals "range" = some none)
  (z2 : PySem.W.nsIn K mainGlobals "len" = some none)
  (z3 : PySem.W.nsIn K mainGlobals "max" = some none)
  (z4 : PySem.W.nsIn K mainGlobals "all" = some none)
  (z5 : PySem.W.nsIn K mainGlobals "int" = some none)
  (z6 : PySem.W.nsIn K mainGlobals "list" = some none)
  (z7 : PySem.W.nsIn K mainGlobals "tuple" = some none)
  (z8 : PySem.W.nsIn K mainGlobals "sorted" = some none)
  (z9 : PySem.W.nsIn K mainGlobals "sum" = some none)
  (gm_Choice : PySem.W.nsIn K mainGlobals "Choice" = some (some (.ref y_Choice)))
  (p1_Choice : PySem.W.plainGet K y_Choice Str.empty = true) (p2_Choice : PySem.W.hasDictIn K y_Choice = true) (p3_Choice : PySem.W.plainOver K y_Choice = true) (p4_Choice : PySem.W.findIn K (.ref y_Choice) "__setattr__" = some (some (.builtin "object.__setattr__"))) (p5_Choice : PySem.W.makesIn K y_Choice = true) (p6_Choice : PySem.W.keepIn K (.ref y_Choice) = true)
  (q_Choice_picks : PySem.W.findIn K (.ref y_Choice) "picks" = some none)
  (q_Choice_wood : PySem.W.findIn K (.ref y_Choice) "wood" = some none)
  : (∃ fd : FuncData, (∀ (s : Shared) (v : Value), BindsTo s fd ⟨[v], []⟩ [("_law_script", v)]) ∧ ∀ base : Heap, K.In base → base.Ns mainGlobals mg → (∀ p ∈ ([(cc21, tt21), (cc28, tt28)] : List (Addr × Addr)), zgm mg base p.1 p.2) → zbd l.prog w K mg base CX0 23 fa fd ["_law_script"] (spT tt21 (spT tt28 (zo1 K)))) := by
 have e := hfa.symm.trans (PySem.W.mg_of X G a43)
 cases e
 have F1 := za0 (st := zgy) l1 c1 k1
 have F2 := za0 (st := zbv) l2 c2 k2
 have F3 := za0 (st := zbi) l3 c3 k3
 have F4 := za0 (st := zcl) l4 c4 k4
 have F5 := za0 (st := zdb) l5 c5 k5
 have F6 := za0 (st := zdr) l6 c6 k6
 have F7 := za0 (st := zbx) l7 c7 k7
 have F8 := za0 (st := zcm) l8 c8 k8
 have F9 := za0 (st := zci) l9 c9 k9
 have F10 := za0 (st := zbp) l10 c10 k10
 have F11 := za0 (st := zc2) l11 c11 k11
 have F12 := za0 (st := zby) l12 c12 k12
 have F13 := za0 (st := zck) l13 c13 k13
 have F14 := za0 (st := zb8) l14 c14 k14
 have F15 := za0 (st := zbk) l15 c15 k15
 have F16 := za0 (st := zas) l16 c16 k16
 have F17 := za0 (st := zaw) l17 c17 k17
 have F18 := za0 (st := za4) l18 c18 k18
 have F19 := za0 (st := zbh) l19 c19 k19
 have F20 := za0 (st := zdy) l20 c20 k20
 have F21 := za0 (st := zbq) l21 c21 k21
 have F22 := za0 (st := zcj) l22 c22 k22
 have F23 := za0 (st := zb0) l23 c23 k23
 have F24 := za0 (st := zcs) l24 c24 k24
 have F25 := za0 (st := zd1) l25 c25 k25
 have F26 := za0 (st := zb6) l26 c26 k26
 have F27 := za0 (st := za7) l27 c27 k27
 have F28 := za0 (st := zb3) l28 c28 k28
 have F29 := za0 (st := zcv) l29 c29 k29
 have F30 := za0 (st := zbw) l30 c30 k30
 have F31 := za0 (st := zcg) l31 c31 k31
 have F32 := za0 (st := zcx) l32 c32 k32
 have F33 := za0 (st := zc4) l33 c33 k33
 have F34 := za0 (st := zbl) l34 c34 k34
 have F35 := za0 (st := zcr) l35 c35 k35
 have F36 := za0 (st := zcc) l36 c36 k36
 have F37 := za0 (st := zbm) l37 c37 k37
 have F38 := za0 (st := zbf) l38 c38 k38
 have F39 := za0 (st := zcw) l39 c39 k39
 have F40 := za0 (st := zcu) l40 c40 k40
 have F41 := za0 (st := zcd) l41 c41 k41
 have F42 := za0 (st := zb7) l42 c42 k42
 have F43 := za0 (st := zeb) l43 c43 k43
 have F44 := za0 (st := zbb) l44 c44 k44
 have F45 := za0 (st := zbn) l45 c45 k45
 have F46 := za0 (st := zbz) l46 c46 k46
 have b1 := F1.binds (ps := ["some", "k"]) fun _ _ _ _ _ _ us hl => len2 us hl fun _ _ => rfl
 have b2 := F2.binds (ps := ["some", "k"]) fun _ _ _ _ _ _ us hl => len2 us hl fun _ _ => rfl
 have b3 := F3.binds (ps := ["many", "yes", "no"]) fun _ _ _ _ _ _ us hl => zf6 us hl fun _ _ _ => rfl
 have b4 := F4.binds (ps := ["wood"]) fun _ _ _ _ _ _ us hl => zn6 us hl fun _ => rfl
 have b5 := F5.binds (ps := ["wood", "t"]) fun _ _ _ _ _ _ us hl => len2 us hl fun _ _ => rfl
 have b6 := F6.binds (ps := ["tie", "some"]) fun _ _ _ _ _ _ us hl => len2 us hl fun _ _ => rfl
 have b7 := F7.binds (ps := ["bough", "some"]) fun _ _ _ _ _ _ us hl => len2 us hl fun _ _ => rfl
 have b8 := F8.binds (ps := ["kids", "some"]) fun _ _ _ _ _ _ us hl => len2 us hl fun _ _ => rfl
 have b9 := F9.binds (ps := ["wood"]) fun _ _ _ _ _ _ us hl => zn6 us hl fun _ => rfl
 have b10 := F10.binds (ps := ["wood", "some"]) fun _ _ _ _ _ _ us hl => len2 us hl fun _ _ => rfl
 have b11 := F11.binds (ps := ["wood", "some"]) fun _ _ _ _ _ _ us hl => len2 us hl fun _ _ => rfl
 have b12 := F12.binds (ps := ["tie", "yes", "no"]) fun _ _ _ _ _ _ us hl => zf6 us hl fun _ _ _ => rfl
 have b13 := F13.binds (ps := ["tie", "yes", "no"]) fun _ _ _ _ _ _ us hl => zf6 us hl fun _ _ _ => rfl
 have b14 := F14.binds (ps := ["pairs", "yes", "no"]) fun _ _ _ _ _ _ us hl => zf6 us hl fun _ _ _ => rfl
 have b15 := F15.binds (ps := ["pairs", "yes", "no"]) fun _ _ _ _ _ _ us hl => zf6 us hl fun _ _ _ => rfl
 have b16 := F16.binds (ps := ["bough", "yes", "no"]) fun _ _ _ _ _ _ us hl => zf6 us hl fun _ _ _ => rfl
 have b17 := F17.binds (ps := ["bough", "yes", "no"]) fun _ _ _ _ _ _ us hl => zf6 us hl fun _ _ _ => rfl
 have b18 := F18.binds (ps := ["wood", "ties", "yes", "no"]) fun _ _ _ _ _ _ us hl => zt9 us hl fun _ _ _ _ => rfl
 have b19 := F19.binds (ps := ["wood", "yes", "no"]) fun _ _ _ _ _ _ us hl => zf6 us hl fun _ _ _ => rfl
 have b20 := F20.binds (ps := ["wood", "yes", "no"]) fun _ _ _ _ _ _ us hl => zf6 us hl fun _ _ _ => rfl
 have b21 := F21.binds (ps := ["wood", "ties", "yes", "no"]) fun _ _ _ _ _ _ us hl => zt9 us hl fun _ _ _ _ => rfl
 have b22 := F22.binds (ps := ["wood", "yes", "no"]) fun _ _ _ _ _ _ us hl => zf6 us hl fun _ _ _ => rfl
 have b23 := F23.binds (ps := ["wood", "ties", "yes", "no", "leaf_at"]) fun _ _ _ _ _ _ us hl => zvq us hl fun _ _ _ _ _ => rfl
 have b24 := F24.binds (ps := ["yes", "tree"]) fun _ _ _ _ _ _ us hl => len2 us hl fun _ _ => rfl
 have b25 := F25.binds (ps := ["wood"]) fun _ _ _ _ _ _ us hl => zn6 us hl fun _ => rfl
 have b26 := F26.binds (ps := ["wood", "yes", "no"]) fun _ _ _ _ _ _ us hl => zf6 us hl fun _ _ _ => rfl
 have b27 := F27.binds (ps := ["wood", "ties", "yes", "no"]) fun _ _ _ _ _ _ us hl => zt9 us hl fun _ _ _ _ => rfl
 have b28 := F28.binds (ps := ["one", "other"]) fun _ _ _ _ _ _ us hl => len2 us hl fun _ _ => rfl
 have b29 := F29.binds (ps := ["one", "other"]) fun _ _ _ _ _ _ us hl => len2 us hl fun _ _ => rfl
 have b30 := F30.binds (ps := ["one", "other"]) fun _ _ _ _ _ _ us hl => len2 us hl fun _ _ => rfl
 have b31 := F31.binds (ps := ["other", "yes", "no"]) fun _ _ _ _ _ _ us hl => zf6 us hl fun _ _ _ => rfl
 have b32 := F32.binds (ps := ["picks"]) fun _ _ _ _ _ _ us hl => zn6 us hl fun _ => rfl
 have b33 := F33.binds (ps := ["wood", "picks"]) fun _ _ _ _ _ _ us hl => len2 us hl fun _ _ => rfl
 have b34 := F34.binds (ps := ["wood", "picks"]) fun _ _ _ _ _ _ us hl => len2 us hl fun _ _ => rfl
 have b35 := F35.binds (ps := ["wood", "picks", "pick"]) fun _ _ _ _ _ _ us hl => zf6 us hl fun _ _ _ => rfl
 have b36 := F36.binds (ps := ["_law_state", "_law_most"]) fun _ _ _ _ _ _ us hl => len2 us hl fun _ _ => rfl
 have b37 := F37.binds (ps := ["_law_state", "_law_many_here"]) fun _ _ _ _ _ _ us hl => len2 us hl fun _ _ => rfl
 have b38 := F38.binds (ps := ["_law_state", "_law_many_here", "_law_most"]) fun _ _ _ _ _ _ us hl => zf6 us hl fun _ _ _ => rfl
 have b39 := F39.binds (ps := ["_law_state"]) fun _ _ _ _ _ _ us hl => zn6 us hl fun _ => rfl
 have b40 := F40.binds (ps := ["_law_state", "_law_many_here", "_law_most"]) fun _ _ _ _ _ _ us hl => zf6 us hl fun _ _ _ => rfl
 have b41 := F41.binds (ps := ["_law_state", "_law_wood_here"]) fun _ _ _ _ _ _ us hl => len2 us hl fun _ _ => rfl
 have b42 := F42.binds (ps := ["_law_wood_here", "_law_ware"]) fun _ _ _ _ _ _ us hl => len2 us hl fun _ _ => rfl
 have b43 := F43.binds (ps := ["_law_script"]) fun _ _ _ _ _ _ us hl => zn6 us hl fun _ => rfl
 have b44 := F44.binds (ps := ["self", "wood"]) fun _ _ _ _ _ _ us hl => len2 us hl fun _ _ => rfl
 have b45 := F45.binds (ps := ["self", "k", "value"]) fun _ _ _ _ _ _ us hl => zf6 us hl fun _ _ _ => rfl
 have b46 := F46.binds (ps := ["self"]) fun _ _ _ _ _ _ us hl => zn6 us hl fun _ => rfl
 have T : Txt K mg ⟨f1, f2, f3, f4, f5, f6, f7, f8, f9, f10, f11, f12, f13, f14, f15, f16, f17, f18, f19, f20, f21, f22, f23, f24, f25, f26, f27, f28, f29, f30, f31, f32, f33, f34, f35, f36, f37, f38, f39, f40, f41, f42, fa, f44, f45, f46, cc21, tt21, cc28, tt28, y_Choice⟩ ⟨PySem.W.fnOf "has" "has" (zak zgy) (zah zgy) (zab zgy) .none kV1 dc1 pm1 an1 cd1 ct1, PySem.W.fnOf "with_option" "with_option" (zak zbv) (zah zbv) (zab zbv) .none kV2 dc2 pm2 an2 cd2 ct2, PySem.W.fnOf "open_options" "open_options" (zak zbi) (zah zbi) (zab zbi) .none kV3 dc3 pm3 an3 cd3 ct3, PySem.W.fnOf "many_ties" "many_ties" (zak zcl) (zah zcl) (zab zcl) .none kV4 dc4 pm4 an4 cd4 ct4, PySem.W.fnOf "tie_at" "tie_at" (zak zdb) (zah zdb) (zab zdb) .none kV5 dc5 pm5 an5 cd5 ct5, PySem.W.fnOf "keeps" "keeps" (zak zdr) (zah zdr) (zab zdr) .none kV6 dc6 pm6 an6 cd6 ct6, PySem.W.fnOf "keeps_bough" "keeps_bough" (zak zbx) (zah zbx) (zab zbx) .none kV7 dc7 pm7 an7 cd7 ct7, PySem.W.fnOf "count_in" "count_in" (zak zcm) (zah zcm) (zab zcm) .none kV8 dc8 pm8 an8 cd8 ct8, PySem.W.fnOf "every_tie" "every_tie" (zak zci) (zah zci) (zab zci) .none kV9 dc9 pm9 an9 cd9 ct9, PySem.W.fnOf "first_broken" "first_broken" (zak zbp) (zah zbp) (zab zbp) .none kV10 dc10 pm10 an10 cd10 ct10, PySem.W.fnOf "is_ware" "is_ware" (zak zc2) (zah zc2) (zab zc2) .none kV11 dc11 pm11 an11 cd11 ct11, PySem.W.fnOf "sure_broken" "sure_broken" (zak zby) (zah zby) (zab zby) .none kV12 dc12 pm12 an12 cd12 ct12, PySem.W.fnOf "sure_kept" "sure_kept" (zak zck) (zah zck) (zab zck) .none kV13 dc13 pm13 an13 cd13 ct13, PySem.W.fnOf "least_sum" "least_sum" (zak zb8) (zah zb8) (zab zb8) .none kV14 dc14 pm14 an14 cd14 ct14, PySem.W.fnOf "greatest_sum" "greatest_sum" (zak zbk) (zah zbk) (zab zbk) .none kV15 dc15 pm15 an15 cd15 ct15, PySem.W.fnOf "sure_broken_bough" "sure_broken_bough" (zak zas) (zah zas) (zab zas) .none kV16 dc16 pm16 an16 cd16 ct16, PySem.W.fnOf "sure_kept_bough" "sure_kept_bough" (zak zaw) (zah zaw) (zab zaw) .none kV17 dc17 pm17 an17 cd17 ct17, PySem.W.fnOf "first_sure_broken" "first_sure_broken" (zak za4) (zah za4) (zab za4) .none kV18 dc18 pm18 an18 cd18 ct18, PySem.W.fnOf "all_sure_kept" "all_sure_kept" (zak zbh) (zah zbh) (zab zbh) .none kV19 dc19 pm19 an19 cd19 ct19, PySem.W.fnOf "cases" "cases" (zak zdy) (zah zdy) (zab zdy) .none kV20 dc20 pm20 an20 cd20 ct20, PySem.W.fnOf "cases_of" "cases_of" (zak zbq) (zah zbq) (zab zbq) .none kV21 dc21 pm21 an21 (.ref cc21) ct21, PySem.W.fnOf "ware_leaf" "ware_leaf" (zak zcj) (zah zcj) (zab zcj) .none kV22 dc22 pm22 an22 cd22 ct22, PySem.W.fnOf "told_tree" "told_tree" (zak zb0) (zah zb0) (zab zb0) .none kV23 dc23 pm23 an23 cd23 ct23, PySem.W.fnOf "wares_in" "wares_in" (zak zcs) (zah zcs) (zab zcs) .none kV24 dc24 pm24 an24 cd24 ct24, PySem.W.fnOf "wares" "wares" (zak zd1) (zah zd1) (zab zd1) .none kV25 dc25 pm25 an25 cd25 ct25, PySem.W.fnOf "first_ware" "first_ware" (zak zb6) (zah zb6) (zab zb6) .none kV26 dc26 pm26 an26 cd26 ct26, PySem.W.fnOf "first_keeping" "first_keeping" (zak za7) (zah za7) (zab za7) .none kV27 dc27 pm27 an27 cd27 ct27, PySem.W.fnOf "within" "within" (zak zb3) (zah zb3) (zab zb3) .none kV28 dc28 pm28 an28 (.ref cc28) ct28, PySem.W.fnOf "compared" "compared" (zak zcv) (zah zcv) (zab zcv) .none kV29 dc29 pm29 an29 cd29 ct29, PySem.W.fnOf "check_alike" "check_alike" (zak zbw) (zah zbw) (zab zbw) .none kV30 dc30 pm30 an30 cd30 ct30, PySem.W.fnOf "kept_leaf" "kept_leaf" (zak zcg) (zah zcg) (zab zcg) .none kV31 dc31 pm31 an31 cd31 ct31, PySem.W.fnOf "stand_of" "stand_of" (zak zcx) (zah zcx) (zab zcx) .none kV32 dc32 pm32 an32 cd32 ct32, PySem.W.fnOf "open_at" "open_at" (zak zc4) (zah zc4) (zab zc4) .none kV33 dc33 pm33 an33 cd33 ct33, PySem.W.fnOf "first_ware_at" "first_ware_at" (zak zbl) (zah zbl) (zab zbl) .none kV34 dc34 pm34 an34 cd34 ct34, PySem.W.fnOf "leads_on" "leads_on" (zak zcr) (zah zcr) (zab zcr) .none kV35 dc35 pm35 an35 cd35 ct35, PySem.W.fnOf "_law_take" "_law_take" (zak zcc) (zah zcc) (zab zcc) .none kV36 dc36 pm36 an36 cd36 ct36, PySem.W.fnOf "_law_boughs" "_law_boughs" (zak zbm) (zah zbm) (zab zbm) .none kV37 dc37 pm37 an37 cd37 ct37, PySem.W.fnOf "_law_cross" "_law_cross" (zak zbf) (zah zbf) (zab zbf) .none kV38 dc38 pm38 an38 cd38 ct38, PySem.W.fnOf "_law_many" "_law_many" (zak zcw) (zah zcw) (zab zcw) .none kV39 dc39 pm39 an39 cd39 ct39, PySem.W.fnOf "_law_wood" "_law_wood" (zak zcu) (zah zcu) (zab zcu) .none kV40 dc40 pm40 an40 cd40 ct40, PySem.W.fnOf "_law_near" "_law_near" (zak zcd) (zah zcd) (zab zcd) .none kV41 dc41 pm41 an41 cd41 ct41, PySem.W.fnOf "_law_chosen" "_law_chosen" (zak zb7) (zah zb7) (zab zb7) .none kV42 dc42 pm42 an42 cd42 ct42, PySem.W.fnOf "law" "law" (zak zeb) (zah zeb) (zab zeb) .none kV43 dc43 pm43 an43 cd43 ct43, PySem.W.fnOf "__init__" "Choice.__init__" (zak zbb) (zah zbb) (zab zbb) .none kV44 dc44 pm44 an44 cd44 ct44, PySem.W.fnOf "choose" "Choice.choose" (zak zbn) (zah zbn) (zab zbn) .none kV45 dc45 pm45 an45 cd45 ct45, PySem.W.fnOf "ware" "Choice.ware" (zak zbz) (zah zbz) (zab zbz) .none kV46 dc46 pm46 an46 cd46 ct46⟩ := ⟨PySem.W.mg_none_of X G z1, PySem.W.mg_none_of X G z2, PySem.W.mg_none_of X G z3, PySem.W.mg_none_of X G z4, PySem.W.mg_none_of X G z5, PySem.W.mg_none_of X G z6, PySem.W.mg_none_of X G z7, PySem.W.mg_none_of X G z8, PySem.W.mg_none_of X G z9, PySem.W.mg_of X G a1, F1, b1, PySem.W.mg_of X G a2, F2, b2, PySem.W.mg_of X G a3, F3, b3, PySem.W.mg_of X G a4, F4, b4, PySem.W.mg_of X G a5, F5, b5, PySem.W.mg_of X G a6, F6, b6, PySem.W.mg_of X G a7, F7, b7, PySem.W.mg_of X G a8, F8, b8, PySem.W.mg_of X G a9, F9, b9, PySem.W.mg_of X G a10, F10, b10, PySem.W.mg_of X G a11, F11, b11, PySem.W.mg_of X G a12, F12, b12, PySem.W.mg_of X G a13, F13, b13, PySem.W.mg_of X G a14, F14, b14, PySem.W.mg_of X G a15, F15, b15, PySem.W.mg_of X G a16, F16, b16, PySem.W.mg_of X G a17, F17, b17, PySem.W.mg_of X G a18, F18, b18, PySem.W.mg_of X G a19, F19, b19, PySem.W.mg_of X G a20, F20, b20, PySem.W.mg_of X G a21, F21, b21, PySem.W.mg_of X G a22, F22, b22, PySem.W.mg_of X G a23, F23, b23, PySem.W.mg_of X G a24, F24, b24, PySem.W.mg_of X G a25, F25, b25, PySem.W.mg_of X G a26, F26, b26, PySem.W.mg_of X G a27, F27, b27, PySem.W.mg_of X G a28, F28, b28, PySem.W.mg_of X G a29, F29, b29, PySem.W.mg_of X G a30, F30, b30, PySem.W.mg_of X G a31, F31, b31, PySem.W.mg_of X G a32, F32, b32, PySem.W.mg_of X G a33, F33, b33, PySem.W.mg_of X G a34, F34, b34, PySem.W.mg_of X G a35, F35, b35, PySem.W.mg_of X G a36, F36, b36, PySem.W.mg_of X G a37, F37, b37, PySem.W.mg_of X G a38, F38, b38, PySem.W.mg_of X G a39, F39, b39, PySem.W.mg_of X G a40, F40, b40, PySem.W.mg_of X G a41, F41, b41, PySem.W.mg_of X G a42, F42, b42, PySem.W.mg_of X G a43, F43, b43, ⟨p5_Choice, a44, i44, p6_Choice⟩, F44, b44, ⟨a45, i45, k45⟩, F45, b45, ⟨a46, i46, k46⟩, F46, b46, rfl, rfl, PySem.W.mg_of X G gm_Choice, ⟨p1_Choice, p2_Choice, p3_Choice, p4_Choice⟩, q_Choice_picks, q_Choice_wood⟩
 exact ⟨PySem.W.fnOf "law" "law" (zak zeb) (zah zeb) (zab zeb) .none kV43 dc43 pm43 an43 cd43 ct43, fun s v => .of_eq rfl, fun base _ _ LL => ztq T (LL _ List.mem_cons_self) (LL _ (List.mem_cons_of_mem _ List.mem_cons_self))⟩
theorem walk {l : PySem.W.OpenLaw} {q : Program} {loose : List Str} {XP : (Str → Option Value) → Heap → Prop} {YP : World → Heap → Prop} {d : DefRec} {K : Params → PySem.W.Frag} {c21 P21 c28 P28 : Addr} (hn : l.most = some 63) (hdf : d.params.defaults = [])
  (hY : ∀ (w : World) (h : Heap), YP w h → (K w.params).In h)
  (hK0 : ∀ w : World, PySem.W.noTabs (K w.params) = true) (hT : ∀ (w : World) (h : Heap), YP w h → PySem.W.TabsAt [(c21, P21), (c28, P28)] h)
(F : ∀ (w : World) (mg : Str → Option Value) (fa : Addr) (h : Heap), (K w.params).In h → h.Ns mainGlobals mg → mg d.name = some (.ref fa) →
   ∃ fd : FuncData, (∀ (s : Shared) (u : Value), BindsTo s fd ⟨[u], []⟩ [("_law_script", u)]) ∧ ∀ base : Heap, (K w.params).In base → base.Ns mainGlobals mg → (∀ p ∈ ([(c21, P21), (c28, P28)] : List (Addr × Addr)), zgm mg base p.1 p.2) → zbd l.prog w (K w.params) mg base CX0 23 fa fd ["_law_script"] (spT P21 (spT P28 (zo1 (K w.params))))) :
  PySem.W.WalkO q loose XP YP l.row.toRowW d [] (fun f vs => PySem.call f vs) :=
 L2.walk_ofT (n := 63) (k := 23) (x := "_law_script") (tabs := fun _ => [(c21, P21), (c28, P28)]) (sp := fun w => (spT P21 (spT P28 (zo1 (K w.params))))) hn (by decide) hdf ⟨rfl, by decide, by decide⟩ hY hK0 hT F (fun _ _ a ns hl hT hS => ⟨hT _ List.mem_cons_self, hT _ (List.mem_cons_of_mem _ List.mem_cons_self), a, ns, rfl, hS, hl, fun _ => rfl⟩)
end Ow
namespace PySem.W.Fast
def tw7598635919645220572 : Unit := ()
def tw8216665916827419026 : Unit := ()
def tw2686329069351521349 : Unit := ()
def tw8123943347957159843 : Unit := ()
def tw203877325757845352 : Unit := ()
def tw4488179080313835808 : Unit := ()
def tw16204706094607171180 : Unit := ()
def tw9914060557631651841 : Unit := ()
def tw8535704174261232252 : Unit := ()
def tw1313564767122743422 : Unit := ()
def tw8920106717410335029 : Unit := ()
def tw12203751197030167839 : Unit := ()
def tw15090398665780382355 : Unit := ()
def tw13381624383979657655 : Unit := ()
def tw13110505659092023914 : Unit := ()
def tw7190873281002486855 : Unit := ()
def tw10964337433057524168 : Unit := ()
def tw10888505890436802828 : Unit := ()
def tw18284300054211093678 : Unit := ()
def tw3079100781502749710 : Unit := ()
def tw7522998190095595578 : Unit := ()
def tw15493399573678469596 : Unit := ()
def tw17175878884714886138 : Unit := ()
def tw4871597925255089561 : Unit := ()
def tw5154313535191495781 : Unit := ()
def tw3118597281068869941 : Unit := ()
def tw10781669103360976643 : Unit := ()
def tw8404586565086717452 : Unit := ()
def tw13129599422928911762 : Unit := ()
def tw11721301346512957779 : Unit := ()
def tw10867022549595547072 : Unit := ()
def tw12088330331373797963 : Unit := ()
def tw15014788798836133699 : Unit := ()
def tw10574748590513233293 : Unit := ()
def tw13127294428902526957 : Unit := ()
def tw508622884622010157 : Unit := ()
def tw10711683257817993210 : Unit := ()
def tw7661546646436515880 : Unit := ()
def tw2031256750831832172 : Unit := ()
def tw179929244687325816 : Unit := ()
def tw15228618700515146682 : Unit := ()
def tw15888139449511465548 : Unit := ()
def tw16584718679543376411 : Unit := ()
def tw6304255044230887934 : Unit := ()
def tw15212035687961861804 : Unit := ()
def tw7198577307923606893 : Unit := ()
def tw11685583708439342292 : Unit := ()
def tw4431111109495394940 : Unit := ()
def tw11154148979735220537 : Unit := ()
def tw17466320583321859126 : Unit := ()
def tw4875191674999535174 : Unit := ()
def tw6097315913446186500 : Unit := ()
def tw12380178841738601479 : Unit := ()
def tw16718935568170881351 : Unit := ()
def tw10290304292164512378 : Unit := ()
def tw14587713725856713144 : Unit := ()
def tw18388279958526708589 : Unit := ()
def tw8951522896989610256 : Unit := ()
def tw4348517677567496747 : Unit := ()
def tw14506727726736666714 : Unit := ()
def tw3284209507692289537 : Unit := ()
def tw16628714220544265600 : Unit := ()
def tw12565320670686403159 : Unit := ()
def tw7639729018033758375 : Unit := ()
def tw15609272568620278696 : Unit := ()
def tw319289119955039974 : Unit := ()
def tw11710305509415496528 : Unit := ()
def tw2319636220244572066 : Unit := ()
def tw4444176633475413020 : Unit := ()
def tw5691944968980861325 : Unit := ()
def tw15190032251132008300 : Unit := ()
def tw11800023892911204140 : Unit := ()
def tw11666965976280483096 : Unit := ()
def tw17362160455621947583 : Unit := ()
def tw10682222325572232587 : Unit := ()
def tw14027755582010443649 : Unit := ()
def tw10604343699779445971 : Unit := ()
def tw7790232203446891137 : Unit := ()
def tw6990112472820531876 : Unit := ()
def tw17995006833477812147 : Unit := ()
def tw10948995582295751895 : Unit := ()
def tw5742185278828734412 : Unit := ()
def tw12705851394210929101 : Unit := ()
def tw9474864859659074655 : Unit := ()
def tw8835880143207868130 : Unit := ()
def tw8322161127715663816 : Unit := ()
def tw17849816730363060900 : Unit := ()
def tw10012410641227834257 : Unit := ()
def tw1806108905708654242 : Unit := ()
def tw16717220732400771354 : Unit := ()
def tw12623403801419653772 : Unit := ()
def tw9570384597644486020 : Unit := ()
def tw16351425392427578591 : Unit := ()
def tw10146812334110946167 : Unit := ()
def tw7400624489277557507 : Unit := ()
def tw7998497364120799006 : Unit := ()
def tw4185393564025308681 : Unit := ()
def tw16519743634119889072 : Unit := ()
def tw15262066645386445749 : Unit := ()
def tw13321993846942030978 : Unit := ()
def tw13830719547634448639 : Unit := ()
def tw11474886254498684418 : Unit := ()
def tw4624897833976609598 : Unit := ()
def tw15920384544014061831 : Unit := ()
def tw6098345684848472674 : Unit := ()
def tw15919416745218607329 : Unit := ()
def tw17282934089044497076 : Unit := ()
def tw11584711064762049061 : Unit := ()
def tw12029921106746968953 : Unit := ()
def tw9260837441990624407 : Unit := ()
def tw10055670719954606080 : Unit := ()
def tw3714703516176926111 : Unit := ()
def tw15037465389184535155 : Unit := ()
def tw7041364531230082356 : Unit := ()
def tw10355352929592008898 : Unit := ()
def tw6662712508070916519 : Unit := ()
def tw6746397818125532553 : Unit := ()
def tw7669449247947477650 : Unit := ()
def tw17487310494329302496 : Unit := ()
def tw14984331411317087640 : Unit := ()
def tw17423893816880751828 : Unit := ()
def tw17519203078206198267 : Unit := ()
def tw18299263732613448659 : Unit := ()
def tw9887479259670686297 : Unit := ()
def tw8667946520921155443 : Unit := ()
def tw12401030194546080833 : Unit := ()
def tw3673383481755301657 : Unit := ()
def tw3836945782695664527 : Unit := ()
def tw17781247633177377702 : Unit := ()
def tw1278237129303415537 : Unit := ()
def tw3823968390719693316 : Unit := ()
def tw9133607664782072008 : Unit := ()
def tw16677545270237708393 : Unit := ()
def tw12283971239405462552 : Unit := ()
def tw14256154151984461060 : Unit := ()
def tw4228497201313138668 : Unit := ()
def tw3982700455214840562 : Unit := ()
def tw13588566170795777286 : Unit := ()
def tw3368606357656023647 : Unit := ()
def tw2850562360521280510 : Unit := ()
def tw15062583746354877070 : Unit := ()
def tw4921549989171670087 : Unit := ()
def tw9673514900056692938 : Unit := ()
def tw5384283015519369656 : Unit := ()
def tw10083630623329633153 : Unit := ()
def tw12940453667067227473 : Unit := ()
def tw5479517399558868539 : Unit := ()
def tw16955492172337256409 : Unit := ()
def tw2097083614085520962 : Unit := ()
def tw5987634489649767409 : Unit := ()
def tw3356234321003805440 : Unit := ()
def tw2949807899594016602 : Unit := ()
def tw11235384843689050589 : Unit := ()
def tw7865966832757481368 : Unit := ()
def tw347708824016424792 : Unit := ()
def tw14154419801776393372 : Unit := ()
def tw4726588188742601207 : Unit := ()
def tw3190646515097034364 : Unit := ()
def tw1156910419425508106 : Unit := ()
def tw11616515657050819117 : Unit := ()
def tw15335920691411523030 : Unit := ()
def tw469801610588830620 : Unit := ()
def tw7007636106472052281 : Unit := ()
def tw2333762858987285357 : Unit := ()
def tw4321434121214302474 : Unit := ()
def tw15729851604255379464 : Unit := ()
def tw6751848337316828423 : Unit := ()
def tw4020237831632678878 : Unit := ()
def tw11232640112977695200 : Unit := ()
def tw17081589474170118921 : Unit := ()
def tw9908861756163561350 : Unit := ()
def tw18069267717163184979 : Unit := ()
def tw5852491840223410141 : Unit := ()
def tw12592822416384530172 : Unit := ()
def tw14819568361161051411 : Unit := ()
def tw215825434266072563 : Unit := ()
def tw15727192765304846052 : Unit := ()
def tw16263910059041863694 : Unit := ()
def tw11692587206689512930 : Unit := ()
def tw6932921475455767040 : Unit := ()
def tw5576715541602988745 : Unit := ()
def tw14339511265040575020 : Unit := ()
def tw7913603116839484195 : Unit := ()
def tw690922441853245804 : Unit := ()
def tw5027252796608494135 : Unit := ()
def tw7433758993828484582 : Unit := ()
def tw10854333191005578552 : Unit := ()
def tw1889785972676771216 : Unit := ()
def tw6957966060895238362 : Unit := ()
def tw16782863020289646130 : Unit := ()
def tw12479781200451168967 : Unit := ()
def tw1941031728198167760 : Unit := ()
def tw4749149823524836412 : Unit := ()
def tw13857339152252933985 : Unit := ()
def tw9449812112738607493 : Unit := ()
def tw12211381921118889310 : Unit := ()
def tw9593269086104338512 : Unit := ()
def tw16913155404738349106 : Unit := ()
def tw4242736025851027128 : Unit := ()
def tw1930759574005253968 : Unit := ()
def tw4960566920027039809 : Unit := ()
def tw7286754189909905194 : Unit := ()
def tw6692244958555452418 : Unit := ()
def tw16595259365908478244 : Unit := ()
def tw4163349881954796828 : Unit := ()
def tw4533781075663451755 : Unit := ()
def tw17647714848449921557 : Unit := ()
def tw1072275284713681905 : Unit := ()
def tw13780891236412475419 : Unit := ()
def tw4253885012829861801 : Unit := ()
def tw2324543224885669907 : Unit := ()
def tw11449964074166612103 : Unit := ()
def tw17709958031457737600 : Unit := ()
def tw17222539989294986892 : Unit := ()
def tw15891317506505526116 : Unit := ()
def tw8455675583023247888 : Unit := ()
def tw3632579087350516831 : Unit := ()
def tw6352537815739461597 : Unit := ()
def tw17872384175419867633 : Unit := ()
def tw7918956439176799946 : Unit := ()
def tw547454951705095743 : Unit := ()
def tw5452289610205596160 : Unit := ()
def tw4729167341339402473 : Unit := ()
def tw8536929610812247934 : Unit := ()
def tw17921746797509913233 : Unit := ()
def tw6443840722197074252 : Unit := ()
def tw8067947047178855992 : Unit := ()
def tw16773105862409934751 : Unit := ()
def tw14383080574347466112 : Unit := ()
def tw7822326883859323909 : Unit := ()
def tw3604325362661245844 : Unit := ()
def tw11860558511568507580 : Unit := ()
def tw14741217481345422944 : Unit := ()
def tw10360613881951194292 : Unit := ()
def tw12917159287406789502 : Unit := ()
def tw8560066620776928132 : Unit := ()
def tw8159630621917256769 : Unit := ()
def tw13237257413300202237 : Unit := ()
def tw1162471007271857557 : Unit := ()
def tw12450365509598252615 : Unit := ()
def tw593375140899604238 : Unit := ()
def tw13326782123376894799 : Unit := ()
def tw7421998691738254359 : Unit := ()
def tw5785075400166919402 : Unit := ()
def tw14430966033492071792 : Unit := ()
def tw126003355977410581 : Unit := ()
def tw18182208172195601215 : Unit := ()
def tw10395531972310857119 : Unit := ()
def tw1670564634151723553 : Unit := ()
def tw16700462933998110855 : Unit := ()
def tw7307700154596362498 : Unit := ()
def tw8790842633494770292 : Unit := ()
def tw17496880681031512816 : Unit := ()
def tw3905242123433099463 : Unit := ()
def tw1887501854691573347 : Unit := ()
def tw13137316111887944525 : Unit := ()
def tw3130557714459691419 : Unit := ()
def tw5702304078985730196 : Unit := ()
def tw10338752576569930562 : Unit := ()
def tw3693019308209255969 : Unit := ()
def tw17548440336934822832 : Unit := ()
def tw12948725665907300261 : Unit := ()
def tw11622170013474259214 : Unit := ()
def tw17994174574733456083 : Unit := ()
def tw4200162174250255497 : Unit := ()
def tw10042697822824070578 : Unit := ()
def tw10213030249801096576 : Unit := ()
def tw14642019630519212365 : Unit := ()
def tw1970810685665200955 : Unit := ()
def tw12089863494732064014 : Unit := ()
def tw11544991790340039661 : Unit := ()
def tw11991009660401336382 : Unit := ()
def tw5244951443618210878 : Unit := ()
def tw10487989719550679579 : Unit := ()
def tw1797639709034060531 : Unit := ()
def tw8800806220536311418 : Unit := ()
def tw3464979795914719657 : Unit := ()
def tw7900360297105617631 : Unit := ()
def tw11161578998836329554 : Unit := ()
def tw13424605940066912141 : Unit := ()
def tw15236362189278231689 : Unit := ()
def tw1615139621446402394 : Unit := ()
def tw5621706846296751534 : Unit := ()
def tw4901785920398930562 : Unit := ()
def tw107504675777654878 : Unit := ()
def tw3383778747974067152 : Unit := ()
def tw4789695576493897645 : Unit := ()
def tw15045369146796196183 : Unit := ()
def tw12456236361627042897 : Unit := ()
def tw1011070408068632929 : Unit := ()
def tw8609715306584159377 : Unit := ()
def tw11607250700059822022 : Unit := ()
def tw7930054675237344212 : Unit := ()
def tw12167675595350353388 : Unit := ()
def tw5855013951024165794 : Unit := ()
def tw9978054257078127111 : Unit := ()
def tw9678336859532238631 : Unit := ()
def tw7934815881381893753 : Unit := ()
def tw468383749252470967 : Unit := ()
def tw7861673286754203893 : Unit := ()
def tw10226413224030778361 : Unit := ()
def tw10109561257941819504 : Unit := ()
def tw2020537831838606260 : Unit := ()
def tw7918773081453902939 : Unit := ()
def tw15015841778236790791 : Unit := ()
def tw16507693344560802344 : Unit := ()
def tw12698459028866009217 : Unit := ()
def tw15747386874929979482 : Unit := ()
def tw2209938634590411080 : Unit := ()
def tw9737102105832375126 : Unit := ()
def tw13993225278974747599 : Unit := ()
def tw4115599414138424448 : Unit := ()
def tw12235250329497089961 : Unit := ()
def tw13502381503484888480 : Unit := ()
def tw9162072835251404521 : Unit := ()
def tw14467277630980850029 : Unit := ()
def tw17431992654811622018 : Unit := ()
def tw3874885879264975904 : Unit := ()
def tw6947220705660861473 : Unit := ()
def tw13102769952344226157 : Unit := ()
def tw822884954737353377 : Unit := ()
def tw9785474860848612939 : Unit := ()
def tw17809617012304952383 : Unit := ()
def tw4529790171252965933 : Unit := ()
def tw5704893971439517395 : Unit := ()
def tw3535900471782183855 : Unit := ()
def tw17205104162524900778 : Unit := ()
def tw1207811772676759944 : Unit := ()
def tw16864920943437977698 : Unit := ()
def tw6297202201490717854 : Unit := ()
def tw15489972319793385540 : Unit := ()
def tw16815209560099977088 : Unit := ()
def tw12650230146685147260 : Unit := ()
def tw10323829799543406059 : Unit := ()
def tw1433035593975251320 : Unit := ()
def tw13288343315330792262 : Unit := ()
def tw3630987491645032091 : Unit := ()
def tw15409657088622037016 : Unit := ()
def tw7931926875013261616 : Unit := ()
def tw2696592512385651713 : Unit := ()
def tw18067123840983907265 : Unit := ()
def tw15717648360019923969 : Unit := ()
def tw1758434238272762153 : Unit := ()
def tw12296529469565670241 : Unit := ()
def tw14058594244762439245 : Unit := ()
def tw5021694271409497701 : Unit := ()
def tw15801405316579023286 : Unit := ()
def tw2868636205925742371 : Unit := ()
def tw14385917818433961124 : Unit := ()
def tw8513441582820806019 : Unit := ()
def tw8343843844271980814 : Unit := ()
def tw10006650885107906297 : Unit := ()
def tw11065298040833333680 : Unit := ()
def tw5495888829586769698 : Unit := ()
def tw7440219124917584291 : Unit := ()
def tw14307944631027876779 : Unit := ()
def tw14238881340659855241 : Unit := ()
def tw8447892520059961528 : Unit := ()
def tw4020981630414721937 : Unit := ()
def tw3073152757126952595 : Unit := ()
def tw4437648364138915522 : Unit := ()
def tw2656845361422800538 : Unit := ()
def tw9608692171492640398 : Unit := ()
def tw17850657275163477750 : Unit := ()
def tw11171445027301063941 : Unit := ()
def tw18438119685062248268 : Unit := ()
def tw10931675085844964061 : Unit := ()
def tw16069396705431723044 : Unit := ()
def tw9204477314921846632 : Unit := ()
def tw15180396445739889640 : Unit := ()
def tw12386166126568884902 : Unit := ()
def tw2320252384551510145 : Unit := ()
def tw8257673478670849991 : Unit := ()
def tw16486568375000882470 : Unit := ()
def tw3842863862150393433 : Unit := ()
def tw7533466663767469134 : Unit := ()
def tw13121480395729534388 : Unit := ()
def tw14155736034300075124 : Unit := ()
def tw4650190897753556625 : Unit := ()
def tw1176777401777949168 : Unit := ()
def tw4820558713304483287 : Unit := ()
def tw9873602060918764361 : Unit := ()
def tw9941964353279929583 : Unit := ()
def tw3033519428736682919 : Unit := ()
def tw1817049468174883400 : Unit := ()
def tw7951395325531424982 : Unit := ()
def tw16033161182432757530 : Unit := ()
def tw4859340761898110966 : Unit := ()
def tw4163201687298018183 : Unit := ()
def tw5322252541127243207 : Unit := ()
end PySem.W.Fast
namespace Ow
end Ow
open PySem PySem.W PyProof.Rows
set_option maxRecDepth 100000 in
set_option maxHeartbeats 0 in
theorem PySem.Challenge.cw_optionwood_k55_whole_three_woods_holds : PySem.Challenge.rw_optionwood_k55_whole_three_woods.Holds := by
 w_on; o_law; k_head; (case hw => w_witness2)
 k_fill
 refine' Ow.walk (l := PySem.Challenge.rw_optionwood_k55_whole_three_woods) (c21 := _) (P21 := _) (c28 := _) (P28 := _) rfl rfl (fun w h Y => PySem.W.km_in_of Y) ?K0 ?hT ?F
 case F =>
  intro w mg fa h KX G hmg
  refine' Ow.all_mk KX G hmg ?a1 ?l1 ?c1 ?k1 ?a2 ?l2 ?c2 ?k2 ?a3 ?l3 ?c3 ?k3 ?a4 ?l4 ?c4 ?k4 ?a5 ?l5 ?c5 ?k5 ?a6 ?l6 ?c6 ?k6 ?a7 ?l7 ?c7 ?k7 ?a8 ?l8 ?c8 ?k8 ?a9 ?l9 ?c9 ?k9 ?a10 ?l10 ?c10 ?k10 ?a11 ?l11 ?c11 ?k11 ?a12 ?l12 ?c12 ?k12 ?a13 ?l13 ?c13 ?k13 ?a14 ?l14 ?c14 ?k14 ?a15 ?l15 ?c15 ?k15 ?a16 ?l16 ?c16 ?k16 ?a17 ?l17 ?c17 ?k17 ?a18 ?l18 ?c18 ?k18 ?a19 ?l19 ?c19 ?k19 ?a20 ?l20 ?c20 ?k20 ?a21 ?l21 ?c21 ?k21 ?m21 ?n21 ?a22 ?l22 ?c22 ?k22 ?a23 ?l23 ?c23 ?k23 ?a24 ?l24 ?c24 ?k24 ?a25 ?l25 ?c25 ?k25 ?a26 ?l26 ?c26 ?k26 ?a27 ?l27 ?c27 ?k27 ?a28 ?l28 ?c28 ?k28 ?m28 ?n28 ?a29 ?l29 ?c29 ?k29 ?a30 ?l30 ?c30 ?k30 ?a31 ?l31 ?c31 ?k31 ?a32 ?l32 ?c32 ?k32 ?a33 ?l33 ?c33 ?k33 ?a34 ?l34 ?c34 ?k34 ?a35 ?l35 ?c35 ?k35 ?a36 ?l36 ?c36 ?k36 ?a37 ?l37 ?c37 ?k37 ?a38 ?l38 ?c38 ?k38 ?a39 ?l39 ?c39 ?k39 ?a40 ?l40 ?c40 ?k40 ?a41 ?l41 ?c41 ?k41 ?a42 ?l42 ?c42 ?k42 ?a43 ?l43 ?c43 ?k43 ?a44 ?l44 ?c44 ?k44 ?i44 ?a45 ?l45 ?c45 ?k45 ?i45 ?a46 ?l46 ?c46 ?k46 ?i46 ?z1 ?z2 ?z3 ?z4 ?z5 ?z6 ?z7 ?z8 ?z9 ?gm_Choice ?p1_Choice ?p2_Choice ?p3_Choice ?p4_Choice ?p5_Choice ?p6_Choice ?q_Choice_picks ?q_Choice_wood
  (case gm_Choice => k_is)
  (case a1 => k_is)
  (case l1 => k_is)
  (case c1 => k_is)
  (case k1 => k_is)
  (case a2 => k_is)
  (case l2 => k_is)
  (case c2 => k_is)
  (case k2 => k_is)
  (case a3 => k_is)
  (case l3 => k_is)
  (case c3 => k_is)
  (case k3 => k_is)
  (case a4 => k_is)
  (case l4 => k_is)
  (case c4 => k_is)
  (case k4 => k_is)
  (case a5 => k_is)
  (case l5 => k_is)
  (case c5 => k_is)
  (case k5 => k_is)
  (case a6 => k_is)
  (case l6 => k_is)
  (case c6 => k_is)
  (case k6 => k_is)
  (case a7 => k_is)
  (case l7 => k_is)
  (case c7 => k_is)
  (case k7 => k_is)
  (case a8 => k_is)
  (case l8 => k_is)
  (case c8 => k_is)
  (case k8 => k_is)
  (case a9 => k_is)
  (case l9 => k_is)
  (case c9 => k_is)
  (case k9 => k_is)
  (case a10 => k_is)
  (case l10 => k_is)
  (case c10 => k_is)
  (case k10 => k_is)
  (case a11 => k_is)
  (case l11 => k_is)
  (case c11 => k_is)
  (case k11 => k_is)
  (case a12 => k_is)
  (case l12 => k_is)
  (case c12 => k_is)
  (case k12 => k_is)
  (case a13 => k_is)
  (case l13 => k_is)
  (case c13 => k_is)
  (case k13 => k_is)
  (case a14 => k_is)
  (case l14 => k_is)
  (case c14 => k_is)
  (case k14 => k_is)
  (case a15 => k_is)
  (case l15 => k_is)
  (case c15 => k_is)
  (case k15 => k_is)
  (case a16 => k_is)
  (case l16 => k_is)
  (case c16 => k_is)
  (case k16 => k_is)
  (case a17 => k_is)
  (case l17 => k_is)
  (case c17 => k_is)
  (case k17 => k_is)
  (case a18 => k_is)
  (case l18 => k_is)
  (case c18 => k_is)
  (case k18 => k_is)
  (case a19 => k_is)
  (case l19 => k_is)
  (case c19 => k_is)
  (case k19 => k_is)
  (case a20 => k_is)
  (case l20 => k_is)
  (case c20 => k_is)
  (case k20 => k_is)
  (case a21 => k_is)
  (case l21 => k_is)
  (case c21 => k_is)
  (case k21 => k_is)
  (case m21 => k_is)
  (case n21 => exact rfl)
  (case a22 => k_is)
  (case l22 => k_is)
  (case c22 => k_is)
  (case k22 => k_is)
  (case a23 => k_is)
  (case l23 => k_is)
  (case c23 => k_is)
  (case k23 => k_is)
  (case a24 => k_is)
  (case l24 => k_is)
  (case c24 => k_is)
  (case k24 => k_is)
  (case a25 => k_is)
  (case l25 => k_is)
  (case c25 => k_is)
  (case k25 => k_is)
  (case a26 => k_is)
  (case l26 => k_is)
  (case c26 => k_is)
  (case k26 => k_is)
  (case a27 => k_is)
  (case l27 => k_is)
  (case c27 => k_is)
  (case k27 => k_is)
  (case a28 => k_is)
  (case l28 => k_is)
  (case c28 => k_is)
  (case k28 => k_is)
  (case m28 => k_is)
  (case n28 => exact rfl)
  (case a29 => k_is)
  (case l29 => k_is)
  (case c29 => k_is)
  (case k29 => k_is)
  (case a30 => k_is)
  (case l30 => k_is)
  (case c30 => k_is)
  (case k30 => k_is)
  (case a31 => k_is)
  (case l31 => k_is)
  (case c31 => k_is)
  (case k31 => k_is)
  (case a32 => k_is)
  (case l32 => k_is)
  (case c32 => k_is)
  (case k32 => k_is)
  (case a33 => k_is)
  (case l33 => k_is)
  (case c33 => k_is)
  (case k33 => k_is)
  (case a34 => k_is)
  (case l34 => k_is)
  (case c34 => k_is)
  (case k34 => k_is)
  (case a35 => k_is)
  (case l35 => k_is)
  (case c35 => k_is)
  (case k35 => k_is)
  (case a36 => k_is)
  (case l36 => k_is)
  (case c36 => k_is)
  (case k36 => k_is)
  (case a37 => k_is)
  (case l37 => k_is)
  (case c37 => k_is)
  (case k37 => k_is)
  (case a38 => k_is)
  (case l38 => k_is)
  (case c38 => k_is)
  (case k38 => k_is)
  (case a39 => k_is)
  (case l39 => k_is)
  (case c39 => k_is)
  (case k39 => k_is)
  (case a40 => k_is)
  (case l40 => k_is)
  (case c40 => k_is)
  (case k40 => k_is)
  (case a41 => k_is)
  (case l41 => k_is)
  (case c41 => k_is)
  (case k41 => k_is)
  (case a42 => k_is)
  (case l42 => k_is)
  (case c42 => k_is)
  (case k42 => k_is)
  (case a43 => k_is)
  (case l43 => k_is)
  (case c43 => k_is)
  (case k43 => k_is)
  (case a44 => k_is)
  (case l44 => k_is)
  (case c44 => k_is)
  (case k44 => k_is)
  (case i44 => k_is)
  (case a45 => k_is)
  (case l45 => k_is)
  (case c45 => k_is)
  (case k45 => k_is)
  (case i45 => k_is)
  (case a46 => k_is)
  (case l46 => k_is)
  (case c46 => k_is)
  (case k46 => k_is)
  (case i46 => k_is)
  (case z1 => k_is)
  (case z2 => k_is)
  (case z3 => k_is)
  (case z4 => k_is)
  (case z5 => k_is)
  (case z6 => k_is)
  (case z7 => k_is)
  (case z8 => k_is)
  (case z9 => k_is)
  (case p1_Choice => first | k_is | kernel_rfl)
  (case p2_Choice => first | k_is | kernel_rfl)
  (case p3_Choice => first | k_is | kernel_rfl)
  (case p4_Choice => first | k_is | kernel_rfl)
  (case p5_Choice => first | k_is | kernel_rfl)
  (case p6_Choice => first | k_is | kernel_rfl)
  (case q_Choice_picks => first | k_is | kernel_rfl)
  (case q_Choice_wood => first | k_is | kernel_rfl)
 case K0 => intro w; kernel_rfl
 case hT =>
  intro w h Y q hq
  simp only [List.mem_cons, List.not_mem_nil, or_false] at hq
  rcases hq with rfl | rfl
  ·exact ⟨PySem.W.codeHd_of_K (PySem.W.km_in_of Y) (by kernel_rfl), PySem.W.km_tabs_of Y _ (by decide)⟩
  ·exact ⟨PySem.W.codeHd_of_K (PySem.W.km_in_of Y) (by kernel_rfl), PySem.W.km_tabs_of Y _ (by decide)⟩
#print axioms PySem.Challenge.cw_optionwood_k55_whole_three_woods_holds
