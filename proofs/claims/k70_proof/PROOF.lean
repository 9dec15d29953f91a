import PyProof.Rows.All
import Wide.All
import OpenK.AllK
import Wide.FinOn
import Lean
import PyProof.EqAt
import PyProof.EqKinds
import PyProof.TupleCall
import PySem.Challenge.RW_optionwood_k70_folded_boughs
set_option Elab.async false
set_option linter.all false
set_option maxRecDepth 100000
set_option maxRecDepth 100000
set_option maxHeartbeats 4000000
namespace L2
open PySem PySem.Spec PyProof.Rows
abbrev Key:=Sum Int Str
def zwf:Key→Value→Bool
 |.inl k,v=>Value.isInt k v
 |.inr x,v=>Value.isStrOf x v
def zzo(w:World):Key→Int
 |.inl k=>hashInt k
 |.inr x=>hashStr w x
theorem zby:∀{k:Key} {v:Value},zwf k v=true→(∃i t,k=Sum.inl i∧v=Value.int i t)∨(∃x t,k=Sum.inr x∧v=Value.str x t)
 |.inl i,v,h=>by
  obtain⟨t,e⟩:=Value.isInt_shape (k:=i) (v:=v) h
  exact .inl ⟨i,t,rfl,e⟩
 |.inr x,v,h=>by
  obtain⟨t,e⟩:=Value.isStrOf_shape (x:=x) (v:=v) h
  exact .inr ⟨x,t,rfl,e⟩
theorem zxe(a b:Int):decide ((Sum.inl a:Key)=Sum.inl b)=(a==b):=by
 by_cases e:a=b
 ·subst e;simp
 ·have h:¬(Sum.inl a:Key)=Sum.inl b:=fun q=>e (Sum.inl.inj q)
  rw[decide_eq_false h]
  exact(beq_eq_false_iff_ne.mpr e).symm
theorem zwp(a b:Str):decide ((Sum.inr a:Key)=Sum.inr b)=decide (a=b):=by
 by_cases e:a=b
 ·subst e;simp
 ·have h:¬(Sum.inr a:Key)=Sum.inr b:=fun q=>e (Sum.inr.inj q)
  rw[decide_eq_false h,decide_eq_false e]
theorem zw9(a:Int)(b:Str):decide ((Sum.inl a:Key)=Sum.inr b)=false:=decide_eq_false (fun q=>nomatch q)
theorem zw6(a:Str)(b:Int):decide ((Sum.inr a:Key)=Sum.inl b)=false:=decide_eq_false (fun q=>nomatch q)
def zq1(prog:Program)(w:World):PySem.KeyKind prog w Key where
 is:=zwf
 hash:=zzo w
 inj:=fun v a b ha hb=>by
  rcases zby ha with⟨i,t,rfl,rfl⟩|⟨x,t,rfl,rfl⟩
  ·rcases zby hb with⟨j,u,rfl,e⟩|⟨y,u,rfl,e⟩
   ·injection e with e1 _;rw[e1]
   ·exact nomatch e
  ·rcases zby hb with⟨j,u,rfl,e⟩|⟨y,u,rfl,e⟩
   ·exact nomatch e
   ·injection e with e1 _;rw[e1]
 byValue:=fun k v h=>by
  rcases zby h with⟨i,t,rfl,rfl⟩|⟨x,t,rfl,rfl⟩<;>rfl
 pyHash:=fun hv h=>by
  rcases zby hv with⟨i,t,rfl,rfl⟩|⟨x,t,rfl,rfl⟩
  ·exact wpAny_pyHash_int h
  ·exact wpAny_pyHash_str h
 eqBool:=fun hu hv h=>by
  rcases zby hu with⟨i,t,rfl,rfl⟩|⟨x,t,rfl,rfl⟩
  ·rcases zby hv with⟨j,u,rfl,rfl⟩|⟨y,u,rfl,rfl⟩
   ·rw[zxe] at h;exact wpAny_eqBool_int h
   ·rw[zw9] at h;exact SeqAt.EqAt.int_str i t y u _ _ _ _ h
  ·rcases zby hv with⟨j,u,rfl,rfl⟩|⟨y,u,rfl,rfl⟩
   ·rw[zw6] at h;exact SeqAt.EqAt.str_int x t j u _ _ _ _ h
   ·rw[zwp] at h;exact wpAny_eqBool_str h
 «strs»:=fun k x t v h=>by
  rcases zby h with⟨i,u,rfl,e⟩|⟨y,u,rfl,e⟩
  ·exact nomatch e
  ·injection e with e1 _
   subst e1
   cases v<;>rfl
inductive V where
 |non|bl (b:Bool)|int (i:Int)|str (x:Str)|byt (b:Array UInt8)|flt (b:UInt64)|ref (a:Addr)|ty (n:String)
 deriving DecidableEq
def RelV:V→Value→Prop
 |.non,u=>u=Value.none
 |.bl b,u=>u=Value.bool b
 |.int i,u=>∃t,u=Value.int i t
 |.str x,u=>∃t,u=Value.str x t
 |.byt b,u=>∃t,u=Value.bytes b t
 |.flt b,u=>∃t,u=Value.float b t
 |.ref a,u=>u=Value.ref a
 |.ty n,u=>u=Value.type n
abbrev Vals:List V→List Value→Prop:=Paired RelV
theorem Vals.length{xs:List V}{us:List Value}(r:Vals xs us):xs.length=us.length:=Paired.length r
theorem Vals.get:∀{xs:List V} {us:List Value} {i:Nat} {x:V},Vals xs us→xs[i]?=some x→∃u,us[i]?=some u∧RelV x u
 |_,_,_,_,.nil,e=>by simp at e
 |_,_,0,_,.cons r _,e=>by simp at e;subst e;exact⟨_,rfl,r⟩
 |_,_,i+1,x,.cons _ t,e=>by
  obtain⟨u,h1,h2⟩:=Vals.get (i:=i) (x:=x) t (by simpa using e)
  exact⟨u,by simpa using h1,h2⟩
theorem Vals.set{x:V}{u:Value}(r:RelV x u):∀{xs:List V} {us:List Value} (i:Nat),Vals xs us→Vals (xs.set i x) (us.set i u)
 |_,_,_,.nil=>.nil
 |_,_,0,.cons _ t=>.cons r t
 |_,_,i+1,.cons q t=>.cons q (Vals.set r i t)
theorem Vals.append:∀{xs ys:List V} {us ws:List Value},Vals xs us→Vals ys ws→Vals (xs++ys) (us++ws)
 |_,_,_,_,.nil,s=>s
 |_,_,_,_,.cons r t,s=>.cons r (Vals.append t s)
theorem Vals.take:∀{xs:List V} {us:List Value} (n:Nat),Vals xs us→Vals (xs.take n) (us.take n)
 |_,_,0,_=>.nil
 |_,_,_+1,.nil=>.nil
 |_,_,n+1,.cons r t=>.cons r (Vals.take n t)
theorem Vals.drop:∀{xs:List V} {us:List Value} (n:Nat),Vals xs us→Vals (xs.drop n) (us.drop n)
 |_,_,0,r=>r
 |_,_,_+1,.nil=>.nil
 |_,_,n+1,.cons _ t=>Vals.drop n t
def zw0:Option V→Option Value→Prop
 |some v,some u=>RelV v u
 |none,none=>True
 |_,_=>False
def KV{κ:Type}:List (κ×V)→List (κ×Value)→Prop:=Paired fun(p:κ×V)(q:κ×Value)=>p.1=q.1∧RelV p.2 q.2
def kV:Key→V
 |.inl i=>.int i
 |.inr x=>.str x
inductive HO where
 |lst (xs:List V)
 |tup (xs:List V)
 |dK (kvs:List (Key×V))|dT (kvs:List (List Key×V))
 |set (S:Int→Bool) (n:Nat)
 |ins (C dx:Addr) (fs:List (Str×V))
 |own (x:Addr)
 |xd (fs:List (Str×V))
 |met (f x:Addr)
 |rng (lo hi:Int)
 |frz (o:Obj) (u:HO)
 |tbl (ps:Array Value)
 |ext (φ:Heap→Prop)
abbrev Hp:=Addr→Option HO
def upd(H:Hp)(a:Addr)(o:HO):Hp:=fun b=>if b=a then some o else H b
theorem zac{H:Hp}{a:Addr}{o:HO}:upd H a o a=some o:=by unfold upd;rw[if_pos rfl]
theorem zam{H:Hp}{a b:Addr}{o:HO}(h:b≠a):upd H a o b=H b:=by unfold upd;rw[if_neg h]
theorem zo7{H:Hp}{a b:Addr}{o u:HO}(h:H a=some o)(h':H b=some u)(d:o≠u):a≠b:=by
 intro e;subst e;rw[h] at h';exact d (Option.some.inj h')
theorem zaq{H:Hp}{a b:Addr}{o:HO}(h:H a=some o)(h':H b=none):a≠b:=by
 intro e;subst e;rw[h] at h';cases h'
section
variable (P : Program) (w : World)
def ObjOk(H:Hp)(h:Heap)(a:Addr):HO→Prop
 |.lst xs=>xs.length≤sizeLine∧∃(its:List Value)(n:Nat),Vals xs its∧h.get? a=some { cls:=.type "list",data:=.seq its.toArray n }
 |.tup xs=>xs.length≤sizeLine∧∃its:List Value,Vals xs its∧IsTup h a its.toArray
 |.dK kvs=>kvs.length≤sizeLine∧(a==sysModules)=false∧∃vs,KV kvs vs∧h.DictOf (zq1 P w) a vs
 |.dT kvs=>kvs.length≤sizeLine∧(a==sysModules)=false∧∃xs:List (List Key×Addr×Value),
   Paired (fun(p:List Key×V)(q:List Key×Addr×Value)=>p.1=q.1∧H q.2.1=some (.tup (p.1.map kV))∧RelV p.2 q.2.2) kvs xs ∧
   ∃o es ep,h.get? a=some o∧o.ExactDict∧o.data=.dict es ep∧es.toList=xs.map (entryOfKey (tupleKind (zq1 P w)))∧(xs.map (·.1)).Nodup
 |.set S n=>h.SetOf (intKind P w) a S n
 |.ins C dx fs=>H dx=some (.own a)∧fs.length≤1000∧dx≠a∧h.get? a=some (PySem.W.instObj C dx) ∧
   ∃mA,h.Ns1 dx mA∧(∀f,zw0 (fs.lookup f) (mA f))∧PySem.Within mA (fs.map (·.1))
 |.own _=>∃o,h.get? a=some o
 |.xd fs=>∃mA,h.Ns1 a mA∧∀f,zw0 (fs.lookup f) (mA f)
 |.rng lo hi=>∃t u v,h.get? a=some { cls:=.type "range",data:=.fields #[.int lo t,.int hi u,.int 1 v] }
 |.frz o u=>h.get? a=some o∧ObjOk H h a u
 |.tbl ps=>h.get? a=some { cls:=.none,data:=.fields ps }
 |.met f x=>h.get? a=some (PySem.W.methodObj (.ref f) (.ref x))
 |.ext φ=>φ h∧(∃o,h.get? a=some o)∧∀h1 h2:Heap,φ h1→(∀o,h1.get? a=some o→h2.get? a=some o)→φ h2
def HOk(H:Hp)(h:Heap):Prop:=∀a o,H a=some o→ObjOk P w H h a o
end
section
variable {P : Program} {w : World} {H H' : Hp} {h h' : Heap} {a : Addr} {o : HO}
theorem ObjOk.lt(x:ObjOk P w H h a o):a<h.objs.size:=by
 cases o with
 |lst xs=>obtain⟨_,_,_,_,e⟩:=x;exact Heap.lt_size e
 |tup xs=>obtain⟨_,_,_,p⟩:=x;exact p.lt
 |dK kvs=>obtain⟨_,_,_,_,o,_,_,e,_⟩:=x;exact Heap.lt_size e
 |dT kvs=>obtain⟨_,_,_,_,o,_,_,e,_⟩:=x;exact Heap.lt_size e
 |set S n=>obtain⟨o,_,_,_,e,_⟩:=x;exact Heap.lt_size e
 |ins C dx fs=>obtain⟨_,_,_,e,_⟩:=x;exact Heap.lt_size e
 |own y=>obtain⟨_,e⟩:=x;exact Heap.lt_size e
 |xd fs=>obtain⟨_,⟨_,_,_,e,_⟩,_⟩:=x;exact Heap.lt_size e
 |rng lo hi=>obtain⟨_,_,_,e⟩:=x;exact Heap.lt_size e
 |frz ob u=>obtain⟨e,_⟩:=x;exact Heap.lt_size e
 |tbl ps=>exact Heap.lt_size (show h.get? a=some _ from x)
 |met f y=>exact Heap.lt_size (show h.get? a=some _ from x)
 |ext φ=>obtain⟨_,⟨_,e⟩,_⟩:=x;exact Heap.lt_size e
theorem Paired.mapP{α β:Type}{F G:α→β→Prop}:∀{l₁:List α} {l₂:List β},Paired F l₁ l₂→(∀a b,F a b→G a b)→Paired G l₁ l₂
 |_,_,.nil,_=>.nil
 |_,_,.cons r t,f=>.cons (f _ _ r) (Paired.mapP t f)
theorem ObjOk.stay(x:ObjOk P w H h a o)(k:∀b u,(b=a∨H b=some (.own a))→h.get? b=some u→h'.get? b=some u)
  (ho:∀b,H b=some (.own a)→H' b=some (.own a)) (ht:∀b xs,H b=some (.tup xs)→H' b=some (.tup xs)):ObjOk P w H' h' a o:=by
 induction o with
 |lst xs=>obtain⟨z,ad,n,r,e⟩:=x;exact⟨z,ad,n,r,k _ _ (.inl rfl) e⟩
 |tup xs=>obtain⟨z,ad,r,ob,e,c⟩:=x;exact⟨z,ad,r,ob,k _ _ (.inl rfl) e,c⟩
 |dK kvs=>obtain⟨z,y,vs,r,ob,es,ep,e,c⟩:=x;exact⟨z,y,vs,r,ob,es,ep,k _ _ (.inl rfl) e,c⟩
 |dT kvs=>
  obtain⟨z,y,xs,r,ob,es,ep,e,c⟩:=x
  exact⟨z,y,xs,Paired.mapP r fun p q z=>⟨z.1,ht _ _ z.2.1,z.2.2⟩,ob,es,ep,k _ _ (.inl rfl) e,c⟩
 |set S n=>obtain⟨ob,es,ep,t,e,c⟩:=x;exact⟨ob,es,ep,t,k _ _ (.inl rfl) e,c⟩
 |ins C dx fs=>
  obtain⟨d,z,ne,e,mA,⟨od,es,ep,e2,c⟩,r⟩:=x
  exact⟨ho _ d,z,ne,k _ _ (.inl rfl) e,mA,⟨od,es,ep,k _ _ (.inr d) e2,c⟩,r⟩
 |own y=>obtain⟨ob,e⟩:=x;exact⟨ob,k _ _ (.inl rfl) e⟩
 |xd fs=>obtain⟨mA,⟨od,es,ep,e,c⟩,r⟩:=x;exact⟨mA,⟨od,es,ep,k _ _ (.inl rfl) e,c⟩,r⟩
 |rng lo hi=>obtain⟨t,u,v,e⟩:=x;exact⟨t,u,v,k _ _ (.inl rfl) e⟩
 |frz ob u ih=>obtain⟨e,q⟩:=x;exact⟨k _ _ (.inl rfl) e,ih q⟩
 |tbl ps=>
  have e:h.get? a=some { cls:=.none,data:=.fields ps }:=x
  show h'.get? a=some { cls:=.none,data:=.fields ps }
  exact k a _ (.inl rfl) e
 |met f y=>
  have e:h.get? a=some (PySem.W.methodObj (.ref f) (.ref y)):=x
  show h'.get? a=some (PySem.W.methodObj (.ref f) (.ref y))
  exact k a _ (.inl rfl) e
 |ext φ=>obtain⟨p,⟨o,e⟩,st⟩:=x;exact⟨st _ _ p fun o q=>k _ _ (.inl rfl) q,⟨o,k _ _ (.inl rfl) e⟩,st⟩
theorem HOk.lt(x:HOk P w H h)(e:H a=some o):a<h.objs.size:=(x a o e).lt
theorem HOk.fresh(x:HOk P w H h)(e:h.objs.size≤a):H a=none:=by
 cases q:H a with
 |none=>rfl
 |some u=>exact absurd (Nat.lt_of_lt_of_le (x.lt q) e) (Nat.lt_irrefl _)
theorem HOk.kept(x:HOk P w H h)(k:∀b u,h.get? b=some u→h'.get? b=some u):HOk P w H h':=fun a o e=>
 (x a o e).stay (fun b u _ q=>k b u q) (fun _ q=>q) fun _ _ q=>q
theorem HOk.laid(x:HOk P w H h)(k:∀b u,h.get? b=some u→h'.get? b=some u)(hp:h.objs.size≤a)(new:ObjOk P w (upd H a o) h' a o):HOk P w (upd H a o) h':=fun b u e=>by
 have hn:=x.fresh hp
 by_cases hb:b=a
 ·subst hb;rw[zac] at e;cases e;exact new
 ·rw[zam hb] at e
  exact(x b u e).stay (fun c v _ q=>k c v q) (fun c q=>by rw[zam (zaq q hn)];exact q) fun c xs q=>by rw[zam (zaq q hn)];exact q
end
def Rd(H:Hp)(a:Addr)(u:HO):Prop:=H a=some u∨∃o,H a=some (.frz o u)
theorem Rd.ok{P:Program}{w:World}{H:Hp}{h:Heap}{a:Addr}{u:HO}(r:Rd H a u)(x:HOk P w H h):ObjOk P w H h a u:=by
 rcases r with r|⟨o,r⟩
 ·exact x a u r
 ·obtain⟨_,q⟩:=x a _ r
  exact q
def Mut:Option HO→Prop
 |some (.lst _)=>True
 |some (.dK _)=>True
 |some (.dT _)=>True
 |some (.set _ _)=>True
 |some (.ins _ _ _)=>True
 |some (.ext _)=>True
 |_=>False
section
variable {P : Program} {w : World} {H : Hp} {h h' : Heap} {x e : Addr} {o' : HO}
theorem HOk.write(ok:HOk P w H h)(mu:Mut (H x))(he:e=x∨H e=some (.own x))(k:∀b u,b≠e→h.get? b=some u→h'.get? b=some u)(heo:∃u,h'.get? e=some u)
  (new:ObjOk P w (upd H x o') h' x o'):HOk P w (upd H x o') h':=fun b u q=>by
 have nown:∀c y,H c=some (.own y)→c≠x:=fun c y r z=>by subst z;rw[r] at mu;exact mu
 have ntup:∀c xs,H c=some (.tup xs)→c≠x:=fun c xs r z=>by subst z;rw[r] at mu;exact mu
 by_cases hb:b=x
 ·subst hb;rw[zac] at q;cases q;exact new
 ·rw[zam hb] at q
  by_cases hbe:b=e
  ·have q':H b=some (.own x):=by
    rcases he with z|z
    ·exact absurd (hbe.trans z) hb
    ·rw[hbe];exact z
   rw[q] at q';cases q'
   obtain⟨v,hv⟩:=heo
   exact⟨v,by rw[hbe];exact hv⟩
  ·refine(ok b u q).stay (fun c v hc r=>k c v ?_ r) (fun c r=>by rw[zam (nown c b r)];exact r) fun c xs r=>by rw[zam (ntup c xs r)];exact r
   rcases hc with rfl|hc
   ·exact hbe
   ·rintro rfl
    rcases he with z|z
    ·exact nown c b hc z
    ·rw[hc] at z;cases z;exact hb rfl
end
structure Un(fs ex:List Addr)(H H':Hp)(h h':Heap):Prop where
 keep:∀b o,h.get? b=some o→H b=none→b∉fs→b∉ex→h'.get? b=some o
 slot:∀b o,h.get? b=some o→H b=none→b∈fs→b∉ex→∃sl,h'.get? b=some { o with slots:=sl }
 free:∀b o,h.get? b=some o→H b=none→b∉ex→H' b=none
 there:∀b o,h.get? b=some o→b∉ex→∃o',h'.get? b=some o'
 tups:∀b xs,H b=some (.tup xs)→H' b=some (.tup xs)
 frzs:∀b o u,H b=some (.frz o u)→H' b=some (.frz o u)
 tbls:∀b ps,H b=some (.tbl ps)→∃more,H' b=some (.tbl (ps++more))
section
variable {fs fs' ex ex' : List Addr} {H H1 H2 : Hp} {h h1 h2 h' : Heap} {a x e : Addr} {o : HO}
theorem Un.any(u:Un fs ex H H1 h h1){b:Addr}{ob:Obj}(q:h.get? b=some ob)(n:H b=none)(hx:b∉ex):∃sl,h1.get? b=some { ob with slots:=sl }:=by
 by_cases hb:b∈fs
 ·exact u.slot b ob q n hb hx
 ·exact⟨ob.slots,u.keep b ob q n hb hx⟩
theorem Un.kept(k:∀b u,h.get? b=some u→h'.get? b=some u):Un fs ex H H h h':=
 ⟨fun b ob q _ _ _=>k b ob q,fun b ob q _ _ _=>⟨ob.slots,k b ob q⟩,fun _ _ _ n _=>n,fun b ob q _=>⟨ob,k b ob q⟩,fun _ _ q=>q,fun _ _ _ q=>q,fun _ ps q=>⟨#[],by rw[q];simp⟩⟩
theorem Un.refl:Un fs ex H H h h:=Un.kept fun _ _ q=>q
theorem Un.laid(k:∀b u,h.get? b=some u→h'.get? b=some u)(hp:h.objs.size≤a)(hn:H a=none):Un fs ex H (upd H a o) h h' where
 keep:=fun b u q _ _ _=>k b u q
 slot:=fun b u q _ _ _=>⟨u.slots,k b u q⟩
 free:=fun b u q n _=>by rw[zam (Nat.ne_of_lt (Nat.lt_of_lt_of_le (Heap.lt_size q) hp))];exact n
 there:=fun b u q _=>⟨u,k b u q⟩
 tups:=fun b xs q=>by rw[zam (zaq q hn)];exact q
 frzs:=fun b u xs q=>by rw[zam (zaq q hn)];exact q
 tbls:=fun b ps q=>⟨#[],by rw[zam (zaq q hn),q];simp⟩
theorem Un.write(mu:Mut (H x))(he:e=x∨H e=some (.own x))(k:∀b u,b≠e→h.get? b=some u→h'.get? b=some u)(heo:∃u,h'.get? e=some u):Un fs ex H (upd H x o) h h':=by
 have hx:∀b,H b=none→b≠x:=fun b n z=>by subst z;rw[n] at mu;exact mu
 have hb:∀b,H b=none→b≠e:=fun b n z=>by
  subst z
  rcases he with r|r
  ·exact hx b n r
  ·rw[n] at r;cases r
 have hm:∀b u,H b=some u→¬Mut (some u)→b≠x:=fun b u q nm z=>by subst z;rw[q] at mu;exact nm mu
 refine⟨fun b u q n _ _=>k b u (hb b n) q,fun b u q n _ _=>⟨u.slots,k b u (hb b n) q⟩,fun b u q n _=>by rw[zam (hx b n)];exact n,fun b u q _=>?_,
  fun b xs q=>by rw[zam (hm b _ q fun z=>z)];exact q,fun b u xs q=>by rw[zam (hm b _ q fun z=>z)];exact q,fun b ps q=>⟨#[],by rw[zam (hm b _ q fun z=>z),q];simp⟩⟩
 by_cases ad:b=e
 ·subst ad;exact heo
 ·exact⟨u,k b u ad q⟩
end
def trk(h:Heap)(H:Hp):List Addr:=(List.range h.objs.size).filter fun a=>(H a).isSome
def zlc(h:Heap)(H:Hp):Heap:=PySem.W.hideAll h (trk h H)
theorem zrr(h:Heap)(H:Hp):(zlc h H).objs.size=h.objs.size:=PySem.W.hideAll_size _ _
theorem ztq{h:Heap}{H:Hp}{b:Addr}{o:Obj}(e:h.get? b=some o)(n:H b=none):(zlc h H).get? b=some o:=
 PySem.W.hideAll_get _ e fun hm=>by
  have q:(H b).isSome=true:=(List.mem_filter.mp hm).2
  rw[n] at q;simp at q
theorem zvj{h:Heap}{H:Hp}{b:Addr}{o:Obj}(e:(zlc h H).get? b=some o):h.get? b=some o∧H b=none:=by
 have e':h.get? b=some o:=PySem.W.of_hideAll (trk h H) e
 refine⟨e',?_⟩
 cases q:H b with
 |none=>rfl
 |some x=>
  have hm:b∈trk h H:=List.mem_filter.mpr ⟨List.mem_range.mpr (Heap.lt_size e'),by simp[q]⟩
  have z:(zlc h H).get? b=none:=PySem.W.hideAll_none (trk h H) hm
  rw[z] at e;cases e
structure Mod(K:PySem.W.Frag)(mg:Str→Option Value)(base:Heap):Prop where
 kin:K.In base
 glob:base.Ns mainGlobals mg
 blt:∃mb,base.Ns builtinsNs mb∧∀x:Str,x ≠ "__name__" → mb x=bootBuiltins x
 nolimit:base.NoLimit
structure Cx where
 prog:Program
 w:World
 K:PySem.W.Frag
 mg:Str→Option Value
 base:Heap
 A:Around
 N:List Str
 s₀:Shared
 H₀:Hp
 env:Env
 outer:List Env
 stack:List Env
 ex:List Addr
 fn:Str→Bool
 calm:Bool
 pn:List (Addr×Obj)
 xe:Value→Shared→Prop
def frs(l:List Env):List Addr:=l.filterMap (·.frame)
abbrev Cx.fs(X:Cx):List Addr:=frs X.outer
def Vis(sc:Scope)(x:Str):Prop:=sc.names.lookup x=some .local∨sc.names.lookup x=some .cell∨sc.names.lookup x=some .free
def Loc(sc:Scope)(x:Str):Prop:=sc.names.lookup x=some .local∨sc.names.lookup x=some .cell
def zzk(env:Env)(h:Heap)(m:Str→Option Value)(x:Str)(u:Value):Prop:=
 (env.kindOf x=some .local∧m x=some u)∨((env.kindOf x=some .cell∨env.kindOf x=some .free)∧∃c,env.cells.lookup x=some c∧h.IsCell c (some u))
structure Cx.Ok(X:Cx):Prop where
 mod:Mod X.K X.mg X.base
 kind:X.env.scope.kind=.function
 glob:X.env.globals=mainGlobals
 blt:X.env.builtins=builtinsNs
 above:X.s₀.heap.objs.size≤X.env.locals
 inj:∀x y c,X.env.cells.lookup x=some c→X.env.cells.lookup y=some c→x=y
 has:∀x,(X.env.kindOf x=some .cell∨X.env.kindOf x=some .free)→∃c,X.env.cells.lookup x=some c
 cab:∀x c,X.fn x=true→X.env.cells.lookup x=some c→X.s₀.heap.objs.size≤c
 hd:X.calm=true→X.A.handled=none
 frames:X.A.frames=some X.stack
 stk:X.stack=X.outer∨(X.stack=X.env::X.outer∧X.env.frame=some X.env.locals)
 exf:∀b∈X.ex,b≠X.env.locals∧∀x c,X.env.cells.lookup x=some c→c≠b
 bs:∀b o,X.base.get? b=some o→X.s₀.heap.get? b=some o∧X.H₀ b=none
 bsz:X.base.objs.size≤X.s₀.heap.objs.size
 noex:∀b o,X.base.get? b=some o→b∉X.ex
 exfs:∀b∈X.ex,b∉X.fs
 funs:X.s₀.heap.FunFrames X.base X.outer
 frf:∀b∈X.fs,X.H₀ b=none
structure Inv(X:Cx)(pins:List (Addr×Obj))(σ:List (Option V))(H:Hp)(s:Shared):Prop where
 ok:X.Ok
 os:s.os=X.s₀.os
 bare:AllBare s.gens
 base:Un X.fs X.ex X.H₀ H X.s₀.heap s.heap
 loc:∃m,s.heap.Ns X.env.locals m∧∀(i:Nat)(x:Str)(v:V),X.N[i]?=some x→σ[i]?=some (some v)→Vis X.env.scope x→∃u,RelV v u∧zzk X.env s.heap m x u
 cell:∀x c,X.env.cells.lookup x=some c→∃v,s.heap.IsCell c v
 free:H X.env.locals=none
 freeC:∀x c,X.env.cells.lookup x=some c→H c=none
 pin:∀p∈X.pn++pins,s.heap.get? p.1=some p.2∧H p.1=none∧p.1≠X.env.locals∧p.1∉X.fs∧∀v,p.2.data≠.cell v
 hok:HOk X.prog X.w H s.heap
 len:σ.length=X.N.length
section
variable {X : Cx} {pins : List (Addr × Obj)} {σ : List (Option V)} {H H' : Hp} {s : Shared} {h' : Heap}
theorem Cx.Ok.nofr(ok:X.Ok){b:Addr}{o:Obj}(e:X.base.get? b=some o):b∉X.fs:=fun hb=>by
 have:=(ok.funs.mem hb).1
 rw[e] at this;cases this
theorem Inv.bs(I:Inv X pins σ H s):∀b o,X.base.get? b=some o→s.heap.get? b=some o∧H b=none:=fun b o e=>
 ⟨I.base.keep b o (I.ok.bs b o e).1 (I.ok.bs b o e).2 (I.ok.nofr e) (I.ok.noex b o e),I.base.free b o (I.ok.bs b o e).1 (I.ok.bs b o e).2 (I.ok.noex b o e)⟩
theorem Inv.bk(I:Inv X pins σ H s):∀b o,X.base.get? b=some o→s.heap.get? b=some o:=fun b o e=>(I.bs b o e).1
theorem Inv.mod(I:Inv X pins σ H s):Mod X.K X.mg X.base:=I.ok.mod
theorem Inv.kIn(I:Inv X pins σ H s):X.K.In s.heap:=I.ok.mod.kin.keeps I.bk
theorem Inv.lt(I:Inv X pins σ H s):X.env.locals<s.heap.objs.size:=let ⟨_,hn,_⟩:=I.loc;hn.lt
theorem Inv.sz(I:Inv X pins σ H s):X.s₀.heap.objs.size≤s.heap.objs.size:=Nat.le_trans I.ok.above (Nat.le_of_lt I.lt)
theorem Inv.nofs(I:Inv X pins σ H s){a:Addr}(h:s.heap.objs.size≤a):a∉X.fs:=fun hb=>by
 obtain⟨_,o,ho,_⟩:=I.ok.funs.mem hb
 exact absurd (Nat.lt_of_lt_of_le (Heap.lt_size ho) (Nat.le_trans I.sz h)) (Nat.lt_irrefl _)
theorem Inv.cne(I:Inv X pins σ H s):∀x c,X.env.cells.lookup x=some c→c≠X.env.locals:=fun x c e z=>by
 obtain⟨v,o,ho,hd⟩:=I.cell x c e
 obtain⟨m,⟨o',es,ep,ho',hd',_⟩,_⟩:=I.loc
 rw[z,ho'] at ho;cases ho;rw[hd'] at hd;cases hd
theorem Inv.funs(I:Inv X pins σ H s):s.heap.FunFrames X.base X.outer:=by
 have all:∀(l:List Env),(∀b∈frs l,b∈X.fs)→X.s₀.heap.FunFrames X.base l→s.heap.FunFrames X.base l:=by
  intro l
  induction l with
  |nil=>intro _ _;trivial
  |cons env r ih=>
   intro hs hl
   obtain⟨hk,⟨L,o,hf,hn,ho,hd⟩,hr⟩:=hl
   have hL:L∈X.fs:=hs L (by unfold frs;rw[List.filterMap_cons,hf];exact List.mem_cons_self)
   obtain⟨sl,e⟩:=I.base.slot L o ho (I.ok.frf L hL) hL fun z=>I.ok.exfs L z hL
   exact⟨hk,⟨L,_,hf,hn,e,hd⟩,ih (fun b hb=>hs b (by unfold frs;rw[List.filterMap_cons,hf];exact List.mem_cons_of_mem _ hb)) hr⟩
 exact all X.outer (fun _ hb=>hb) I.ok.funs
theorem Inv.stack(I:Inv X pins σ H s):s.heap.FunFrames X.base X.stack:=by
 rcases I.ok.stk with e|⟨e,hf⟩
 ·rw[e];exact I.funs
 ·rw[e]
  obtain⟨m,hn,_⟩:=I.loc
  refine .cons (by rw[I.ok.kind];decide) hf hn ?_ I.funs
  exact Heap.get?_none_of_le (Nat.le_trans I.ok.bsz I.ok.above)
theorem Inv.stkSub(I:Inv X pins σ H s):∀b∈frs X.stack,b∈X.env.locals::X.fs:=fun b hb=>by
 rcases I.ok.stk with e|⟨e,hf⟩
 ·rw[e] at hb;exact List.mem_cons_of_mem _ hb
 ·rw[e] at hb
  unfold frs at hb
  rw[List.filterMap_cons,hf] at hb
  exact hb
theorem Inv.stkFree(I:Inv X pins σ H s):∀b∈frs X.stack,H b=none:=fun b hb=>by
 rcases List.mem_cons.mp (I.stkSub b hb) with e|hb
 ·rw[e];exact I.free
 ·obtain⟨_,o,ho,_⟩:=I.ok.funs.mem hb
  exact I.base.free b o ho (I.ok.frf b hb) fun z=>I.ok.exfs b z hb
theorem Inv.step{g':Array GenState}{t':Nat}{d':Drawn}{ch:List Addr}(I:Inv X pins σ H s)
  (hch:∀b∈ch,(b∈X.ex∨X.s₀.heap.objs.size≤b)∧b≠X.env.locals∧(∀x c,X.env.cells.lookup x=some c→c≠b)∧∀p∈X.pn++pins,p.1≠b)
  (keep:∀b o,b≠X.env.locals→b∉X.fs→b∉ch→s.heap.get? b=some o→H b=none→h'.get? b=some o)
  (slot:∀b o,b≠X.env.locals→b∈X.fs→b∉ch→s.heap.get? b=some o→H b=none→∃sl,h'.get? b=some { o with slots:=sl }) (free:∀b o,b∉ch→s.heap.get? b=some o→H b=none→H' b=none)
  (there:∀b o,b∉ch→s.heap.get? b=some o→∃o',h'.get? b=some o')
  (tups:∀b xs,H b=some (.tup xs)→H' b=some (.tup xs)) (frzs:∀b o u,H b=some (.frz o u)→H' b=some (.frz o u)) (tbls:∀b ps,H b=some (.tbl ps)→∃more,H' b=some (.tbl (ps++more)))
  (ns:∀m,s.heap.Ns X.env.locals m→h'.Ns X.env.locals m) (hok:HOk X.prog X.w H' h') (hg:AllBare g'):
  Inv X pins σ H' { s with heap:=h',gens:=g',drawn:=d',toks:=t' }:=by
 have ag:∀b o,X.s₀.heap.get? b=some o→b≠X.env.locals:=fun b o e=>Nat.ne_of_lt (Nat.lt_of_lt_of_le (Heap.lt_size e) I.ok.above)
 have af:∀b o,X.s₀.heap.get? b=some o→b∉X.ex→b∉ch:=fun b o e hx hb=>by
  rcases(hch b hb).1 with z|z
  ·exact hx z
  ·exact absurd (Nat.lt_of_lt_of_le (Heap.lt_size e) z) (Nat.lt_irrefl _)
 have ad:∀x c,X.env.cells.lookup x=some c→∀v,s.heap.IsCell c v→h'.IsCell c v:=fun x c e v ⟨o,ho,hd⟩=>by
  have ae:c∉ch:=fun z=>(hch c z).2.2.1 x c e rfl
  by_cases hc:c∈X.fs
  ·obtain⟨sl,q⟩:=slot c o (I.cne x c e) hc ae ho (I.freeC x c e)
   exact⟨_,q,hd⟩
  ·exact⟨o,keep c o (I.cne x c e) hc ae ho (I.freeC x c e),hd⟩
 refine⟨I.ok,I.os,hg,⟨fun b o e n hb hx=>?_,fun b o e n hb hx=>?_,fun b o e n hx=>?_,fun b o e hx=>?_,fun b xs e=>tups b xs (I.base.tups b xs e),fun b o xs e=>frzs b o xs (I.base.frzs b o xs e),fun b ps e=>?_⟩,?_,fun x c e=>?_,?_,fun x c e=>?_,fun p hp=>?_,hok,I.len⟩
 ·exact keep b o (ag b o e) hb (af b o e hx) (I.base.keep b o e n hb hx) (I.base.free b o e n hx)
 ·obtain⟨sl,e1⟩:=I.base.slot b o e n hb hx
  obtain⟨ah,e2⟩:=slot b _ (ag b o e) hb (af b o e hx) e1 (I.base.free b o e n hx)
  exact⟨ah,e2⟩
 ·obtain⟨o',e1⟩:=I.base.there b o e hx
  exact free b o' (af b o e hx) e1 (I.base.free b o e n hx)
 ·obtain⟨o',e1⟩:=I.base.there b o e hx
  exact there b o' (af b o e hx) e1
 ·obtain⟨m1,e1⟩:=I.base.tbls b ps e
  obtain⟨m2,e2⟩:=tbls b _ e1
  exact⟨m1++m2,by rw[e2,Array.append_assoc]⟩
 ·obtain⟨m,hn,hl⟩:=I.loc
  refine⟨m,ns m hn,fun i x v e1 e2 e3=>?_⟩
  obtain⟨u,r,l⟩:=hl i x v e1 e2 e3
  refine⟨u,r,?_⟩
  rcases l with l|⟨k,c,e,z⟩
  ·exact .inl l
  ·exact .inr ⟨k,c,e,ad x c e _ z⟩
 ·obtain⟨v,z⟩:=I.cell x c e
  exact⟨v,ad x c e v z⟩
 ·obtain⟨m,⟨o,_,_,ho,_⟩,_⟩:=I.loc
  exact free _ o (fun z=>(hch _ z).2.1 rfl) ho I.free
 ·obtain⟨v,o,ho,hd⟩:=I.cell x c e
  exact free c o (fun z=>(hch c z).2.2.1 x c e rfl) ho (I.freeC x c e)
 ·obtain⟨e,n,ne,nf,d⟩:=I.pin p hp
  have ae:p.1∉ch:=fun z=>(hch p.1 z).2.2.2 p hp rfl
  exact⟨keep p.1 p.2 ne nf ae e n,free p.1 p.2 ae e n,ne,nf,d⟩
theorem Inv.un{t':Nat}(I:Inv X pins σ H s)(u:Un X.fs [] H H' s.heap h')(hok:HOk X.prog X.w H' h'):Inv X pins σ H' { s with heap:=h',toks:=t' }:=by
 obtain⟨m,⟨o,es,ep,ho,r⟩,_⟩:=id I.loc
 obtain⟨sl,hL⟩:=u.any ho I.free (by simp)
 exact I.step (g':=s.gens) (d':=s.drawn) (ch:=[]) (fun _ z=>nomatch z) (fun b o _ hb _ e n=>u.keep b o e n hb (by simp)) (fun b o _ hb _ e n=>u.slot b o e n hb (by simp)) (fun b o _ e n=>u.free b o e n (by simp)) (fun b o _ e=>u.there b o e (by simp)) u.tups u.frzs u.tbls (fun m' hm=>by
  obtain⟨o',af,ae,ad,r'⟩:=hm
  rw[ho] at ad;cases ad
  exact⟨_,af,ae,hL,r'⟩) hok I.bare
theorem Inv.call{g':Array GenState}{t':Nat}{d':Drawn}{ch:List Addr}(I:Inv X pins σ H s)(u:Un (frs X.stack) ch H H' s.heap h')(hok:HOk X.prog X.w H' h')(hg:AllBare g')
  (hch:∀b∈ch,(b∈X.ex∨X.s₀.heap.objs.size≤b)∧b≠X.env.locals∧(∀x c,X.env.cells.lookup x=some c→c≠b)∧∀p∈X.pn++pins,p.1≠b):
  Inv X pins σ H' { s with heap:=h',gens:=g',drawn:=d',toks:=t' }:=by
 obtain⟨m,⟨o,es,ep,ho,r⟩,_⟩:=id I.loc
 obtain⟨sl,hL⟩:=u.any ho I.free fun z=>(hch _ z).2.1 rfl
 exact I.step (ch:=ch) hch (fun b o hL hb hc e n=>u.keep b o e n (fun z=>(List.mem_cons.mp (I.stkSub b z)).elim hL hb) hc) (fun b o _ _ hc e n=>u.any e n hc) (fun b o hc e n=>u.free b o e n hc) (fun b o hc e=>u.there b o e hc) u.tups u.frzs u.tbls (fun m' hm=>by
  obtain⟨o',af,ae,ad,r'⟩:=hm
  rw[ho] at ad;cases ad
  exact⟨_,af,ae,hL,r'⟩) hok hg
theorem Inv.turned{t':Nat}{it:Addr}(I:Inv X pins σ H s)(k:∀b o,b≠it→s.heap.get? b=some o→h'.get? b=some o)(hn:H it=none)(hL:it≠X.env.locals)
  (h1:it∈X.ex∨X.s₀.heap.objs.size≤it) (h2:∀x c,X.env.cells.lookup x=some c→c≠it) (h3:∀p∈X.pn++pins,p.1≠it):Inv X pins σ H { s with heap:=h',toks:=t' }:=by
 have ad:∀b u,H b=some u→b≠it:=fun b u e z=>by rw[z,hn] at e;cases e
 refine I.step (g':=s.gens) (d':=s.drawn) (ch:=[it]) (fun b hb=>?_) (fun b o _ _ hc e _=>k b o (fun z=>hc (by simp[z])) e) (fun b o _ _ hc e _=>⟨o.slots,k b o (fun z=>hc (by simp[z])) e⟩) (fun _ _ _ _ n=>n)
  (fun b o hc e=>⟨o,k b o (fun z=>hc (by simp[z])) e⟩) (fun _ _ e=>e) (fun _ _ _ e=>e) (fun b ps e=>⟨#[],by rw[e];simp⟩) (fun m hm=>?_) (fun b u e=>?_) I.bare
 ·have e:b=it:=by simpa using hb
  subst e
  exact⟨h1,hL,h2,h3⟩
 ·obtain⟨o,es,ep,ho,r⟩:=hm
  exact⟨o,es,ep,k _ o (Ne.symm hL) ho,r⟩
 ·refine(I.hok b u e).stay (fun c v hc q=>k c v ?_ q) (fun _ q=>q) fun _ _ q=>q
  rcases hc with z|z
  ·rw[z];exact ad b u e
  ·exact ad c _ z
theorem Inv.tok(I:Inv X pins σ H s)(t:Nat):Inv X pins σ H { s with toks:=t }:=I.un (h':=s.heap) (t':=t) Un.refl I.hok
theorem Inv.kept{t':Nat}(I:Inv X pins σ H s)(k:∀b u,s.heap.get? b=some u→h'.get? b=some u):Inv X pins σ H { s with heap:=h',toks:=t' }:=I.un (Un.kept k) (I.hok.kept k)
theorem Inv.laid{a:Addr}{o:HO}{t':Nat}(I:Inv X pins σ H s)(k:∀b u,s.heap.get? b=some u→h'.get? b=some u)(hp:s.heap.objs.size≤a)(new:ObjOk X.prog X.w (upd H a o) h' a o):
  Inv X pins σ (upd H a o) { s with heap:=h',toks:=t' }:=I.un (Un.laid k hp (I.hok.fresh hp)) (I.hok.laid k hp new)
theorem Inv.write{x e:Addr}{o:HO}{t':Nat}(I:Inv X pins σ H s)(mu:Mut (H x))(he:e=x∨H e=some (.own x))(k:∀b u,b≠e→s.heap.get? b=some u→h'.get? b=some u)(heo:∃u,h'.get? e=some u)
  (new:ObjOk X.prog X.w (upd H x o) h' x o):Inv X pins σ (upd H x o) { s with heap:=h',toks:=t' }:=I.un (Un.write mu he k heo) (I.hok.write mu he k heo new)
theorem Inv.pins_of{pins':List (Addr×Obj)}(I:Inv X pins σ H s)(h:∀p∈pins',s.heap.get? p.1=some p.2∧H p.1=none∧p.1≠X.env.locals∧p.1∉X.fs∧∀v,p.2.data≠.cell v):Inv X pins' σ H s:=
 ⟨I.ok,I.os,I.bare,I.base,I.loc,I.cell,I.free,I.freeC,fun p hp=>(List.mem_append.mp hp).elim (fun z=>I.pin p (List.mem_append_left _ z)) (h p),I.hok,I.len⟩
theorem zk1{N:List Str}(hN:N.Nodup){i j:Nat}{x:Str}(a:N[i]?=some x)(b:N[j]?=some x):i=j:=by
 obtain⟨h1,e1⟩:=List.getElem?_eq_some_iff.mp a
 obtain⟨h2,e2⟩:=List.getElem?_eq_some_iff.mp b
 exact(List.getElem_inj hN).mp (e1.trans e2.symm)
theorem zsa{M:Model}{A:Around}{E:Value→Shared→Prop}{i:Nat}{x:Str}{v:V}{u:Value}{Q:Unit→Shared→Prop}(I:Inv X pins σ H s)(hN:X.N.Nodup)(hi:X.N[i]?=some x)(hx:Loc X.env.scope x)(r:RelV v u)
  (h:∀s',Inv X pins (σ.set i (some v)) H s'→(∃a,Heap.SameBut a s.heap s'.heap∧(a=X.env.locals∨X.env.cells.lookup x=some a))→Q () s') (hf:X.fn x=true∨X.env.scope.names.lookup x=some .local:=by first|exact .inl rfl|exact .inr rfl|assumption):wpAny M A (storeName X.env x u) Q E s:=by
 obtain⟨m,hn,hl⟩:=id I.loc
 have af:(X.env.scope.kind==.class||(X.env.scope.kind==.module&&X.env.locals !=X.env.globals))=false:=by rw[I.ok.kind];rfl
 have hiσ:i<σ.length:=by rw[I.len];exact(List.getElem?_eq_some_iff.mp hi).1
 have cne:=I.cne
 have ad:∀{a:Addr} {h':Heap},(∃o,s.heap.get? a=some o∧H a=none)→Heap.SameBut a s.heap h'→HOk X.prog X.w H h':=fun {a h'} ha hs b ob e=>by
  obtain⟨_,_,ae⟩:=ha
  refine(I.hok b ob e).stay (fun c w' hc q=>(hs.2 c ?_).trans q) (fun _ q=>q) fun _ _ q=>q
  rintro rfl
  rcases hc with rfl|hc
  ·rw[ae] at e;cases e
  ·rw[ae] at hc;cases hc
 rcases hx with hk|hk
 ·refine wpAny_storeName_local hk hn (fun h' am hs=>?_) af
  obtain⟨oL,_,_,al,_⟩:=id hn
  refine h _ ⟨I.ok,I.os,I.bare,⟨fun b o e n hb hx=>?_,fun b o e n hb hx=>?_,I.base.free,fun b o e hx=>?_,I.base.tups,I.base.frzs,I.base.tbls⟩,⟨_,am,fun j y v' e1 e2 e3=>?_⟩,fun y c e=>?_,I.free,I.freeC,fun p hp=>?_,ad ⟨oL,al,I.free⟩ hs,by simpa using I.len⟩ ⟨_,hs,.inl rfl⟩
  ·exact(hs.2 b (Nat.ne_of_lt (Nat.lt_of_lt_of_le (Heap.lt_size e) I.ok.above))).trans (I.base.keep b o e n hb hx)
  ·obtain⟨sl,e1⟩:=I.base.slot b o e n hb hx
   exact⟨sl,(hs.2 b (Nat.ne_of_lt (Nat.lt_of_lt_of_le (Heap.lt_size e) I.ok.above))).trans e1⟩
  ·obtain⟨o',e1⟩:=I.base.there b o e hx
   exact⟨o',(hs.2 b (Nat.ne_of_lt (Nat.lt_of_lt_of_le (Heap.lt_size e) I.ok.above))).trans e1⟩
  ·by_cases hj:j=i
   ·subst hj
    rw[hi] at e1;cases e1
    rw[List.getElem?_set_self hiσ] at e2
    cases e2
    exact⟨u,r,.inl ⟨hk,by simp⟩⟩
   ·rw[List.getElem?_set_ne (Ne.symm hj)] at e2
    obtain⟨u',r',q⟩:=hl j y v' e1 e2 e3
    refine⟨u',r',?_⟩
    rcases q with⟨k,e⟩|⟨k,c,e,z⟩
    ·refine .inl ⟨k,?_⟩
     have:y≠x:=fun e=>hj (zk1 hN e1 (e▸hi))
     simp[this,e]
    ·exact .inr ⟨k,c,e,z.sameBut hs (cne y c e)⟩
  ·obtain⟨w',z⟩:=I.cell y c e
   exact⟨w',z.sameBut hs (cne y c e)⟩
  ·obtain⟨e,n,ne,nf,d⟩:=I.pin p hp
   exact⟨(hs.2 p.1 ne).trans e,n,ne,nf,d⟩
 ·have ag:X.fn x=true:=by
   rcases hf with z|z
   ·exact z
   ·rw[z] at hk;cases hk
  obtain⟨c,hc⟩:=I.ok.has x (.inl hk)
  obtain⟨w',z⟩:=I.cell x c hc
  refine wpAny_storeName_cell I.ok.kind hk hc z (fun h' ak hs=>?_)
  obtain⟨oc,ai,ah⟩:=id z
  refine h { s with heap:=h' } ⟨I.ok,I.os,I.bare,⟨fun b o e n hb hx=>?_,fun b o e n hb hx=>?_,I.base.free,fun b o e hx=>?_,I.base.tups,I.base.frzs,I.base.tbls⟩,⟨m,hn.sameBut hs (Ne.symm (cne x c hc)),fun j y v' e1 e2 e3=>?_⟩,fun y c' e=>?_,I.free,I.freeC,fun p hp=>?_,ad ⟨oc,ai,I.freeC x c hc⟩ hs,by simpa using I.len⟩ ⟨c,hs,.inr hc⟩
  ·exact(hs.2 b (Nat.ne_of_lt (Nat.lt_of_lt_of_le (Heap.lt_size e) (I.ok.cab x c ag hc)))).trans (I.base.keep b o e n hb hx)
  ·obtain⟨sl,e1⟩:=I.base.slot b o e n hb hx
   exact⟨sl,(hs.2 b (Nat.ne_of_lt (Nat.lt_of_lt_of_le (Heap.lt_size e) (I.ok.cab x c ag hc)))).trans e1⟩
  ·obtain⟨o',e1⟩:=I.base.there b o e hx
   exact⟨o',(hs.2 b (Nat.ne_of_lt (Nat.lt_of_lt_of_le (Heap.lt_size e) (I.ok.cab x c ag hc)))).trans e1⟩
  ·by_cases hj:j=i
   ·subst hj
    rw[hi] at e1;cases e1
    rw[List.getElem?_set_self hiσ] at e2
    cases e2
    exact⟨u,r,.inr ⟨.inl hk,c,hc,ak⟩⟩
   ·rw[List.getElem?_set_ne (Ne.symm hj)] at e2
    obtain⟨u',r',q⟩:=hl j y v' e1 e2 e3
    refine⟨u',r',?_⟩
    rcases q with q|⟨k,c',e,z'⟩
    ·exact .inl q
    ·refine .inr ⟨k,c',e,z'.sameBut hs ?_⟩
     rintro rfl
     exact hj (zk1 hN e1 (I.ok.inj _ _ _ e hc▸hi))
  ·by_cases aj:c'=c
   ·subst aj;exact⟨_,ak⟩
   ·obtain⟨w2,z2⟩:=I.cell y c' e
    exact⟨w2,z2.sameBut hs aj⟩
  ·obtain⟨e,n,ne,nf,d⟩:=I.pin p hp
   refine⟨(hs.2 p.1 ?_).trans e,n,ne,nf,d⟩
   intro q
   rw[q,ai] at e
   have q':oc=p.2:=Option.some.inj e
   exact d w' (by rw[←q'];exact ah)
theorem zj2{M:Model}{A:Around}{E:Value→Shared→Prop}{i:Nat}{x:Str}{v:V}{u:Value}{Q:Unit→Shared→Prop}(I:Inv X pins σ H s)(hN:X.N.Nodup)(hi:X.N[i]?=some x)(hx:Loc X.env.scope x)(r:RelV v u)
  (h:∀s',Inv X pins (σ.set i (some v)) H s'→Q () s') (hf:X.fn x=true∨X.env.scope.names.lookup x=some .local:=by first|exact .inl rfl|exact .inr rfl|assumption):wpAny M A (storeName X.env x u) Q E s:=
 zsa I hN hi hx r (fun s' I' _=>h s' I') hf
theorem Inv.call'{s':Shared}{ch:List Addr}(I:Inv X pins σ H s)(ho:s'.os=s.os)(u:Un (frs X.stack) ch H H' s.heap s'.heap)(hok:HOk X.prog X.w H' s'.heap)(hg:AllBare s'.gens)
  (hch:∀b∈ch,(b∈X.ex∨X.s₀.heap.objs.size≤b)∧b≠X.env.locals∧(∀x c,X.env.cells.lookup x=some c→c≠b)∧∀p∈X.pn++pins,p.1≠b):Inv X pins σ H' s':=by
 obtain⟨h',g',d',t',o'⟩:=s'
 have e:o'=s.os:=ho
 subst e
 exact I.call (g':=g') (t':=t') (d':=d') u hok hg hch
end
abbrev XK:=Value→Option Addr→Hp→Prop
abbrev St:=List (Option V)
abbrev VK:=V→Hp→Prop
abbrev TE:=St→Hp→VK→Prop
abbrev TT:=St→Hp→(Bool→Hp→Prop)→Prop
abbrev TA:=St→Hp→(List V→Hp→Prop)→Prop
structure zjd where
 nx:St→Hp→Prop
 rt:VK
 bk:St→Hp→Prop:=fun _ _=>False
 ct:St→Hp→Prop:=fun _ _=>False
abbrev TS:=zjd→St→Hp→Prop
def EP(X:Cx)(pins:List (Addr×Obj))(σ:St)(Q:VK)(u:Value)(s':Shared):Prop:=∃v H',Inv X pins σ H' s'∧RelV v u∧Q v H'
def TP(X:Cx)(pins:List (Addr×Obj))(σ:St)(Q:Bool→Hp→Prop)(b:Bool)(s':Shared):Prop:=∃H',Inv X pins σ H' s'∧Q b H'
def AP(X:Cx)(pins:List (Addr×Obj))(σ:St)(Q:List V→Hp→Prop)(us:List Value)(s':Shared):Prop:=∃vs H',Inv X pins σ H' s'∧Vals vs us∧Q vs H'
def SP(X:Cx)(pins:List (Addr×Obj))(D:zjd)(f:Flow)(s':Shared):Prop:=
 match f with
 |.next=>∃σ' H',Inv X pins σ' H' s'∧D.nx σ' H'
 |.brk=>∃σ' H',Inv X pins σ' H' s'∧D.bk σ' H'
 |.cont=>∃σ' H',Inv X pins σ' H' s'∧D.ct σ' H'
 |.ret u=>∃v σ' H',Inv X pins σ' H' s'∧RelV v u∧D.rt v H'
def PE(X:Cx)(e:Expr)(t:TE):Prop:=
 ∀(pins:List (Addr×Obj))(s:Shared)(σ:St)(H:Hp)(Q:VK),Inv X pins σ H s→t σ H Q→wpAny (model X.prog X.w) X.A (eval e X.env) (EP X pins σ Q) X.xe s
def PT(X:Cx)(e:Expr)(t:TT):Prop:=
 ∀(pins:List (Addr×Obj))(s:Shared)(σ:St)(H:Hp)(Q:Bool→Hp→Prop),Inv X pins σ H s→t σ H Q→wpAny (model X.prog X.w) X.A (isTrue e X.env (eval e X.env)) (TP X pins σ Q) X.xe s
def PW(X:Cx)(e:Expr)(t:TT):Prop:=
 ∀(whole:Sem Value)(pins:List (Addr×Obj))(s:Shared)(σ:St)(H:Hp)(Q:Bool→Hp→Prop),Inv X pins σ H s→t σ H Q→wpAny (model X.prog X.w) X.A (isTrue e X.env whole) (TP X pins σ Q) X.xe s
theorem PW.pt{X:Cx}{e:Expr}{t:TT}(h:PW X e t):PT X e t:=h _
def PA(X:Cx)(es:List Expr)(t:TA):Prop:=
 ∀(pos:Pos)(pins:List (Addr×Obj))(s:Shared)(σ:St)(H:Hp)(Q:List V→Hp→Prop),Inv X pins σ H s→t σ H Q→wpAny (model X.prog X.w) X.A (spliced (backTo pos (starEach es X.env))) (AP X pins σ Q) X.xe s
def PS(X:Cx)(st:Stmt)(t:TS):Prop:=
 ∀(pins:List (Addr×Obj))(s:Shared)(σ:St)(H:Hp)(D:zjd),Inv X pins σ H s→t D σ H→wpAny (model X.prog X.w) X.A (exec st X.env) (SP X pins D) X.xe s
def PSs(X:Cx)(st:List Stmt)(t:TS):Prop:=
 ∀(pins:List (Addr×Obj))(s:Shared)(σ:St)(H:Hp)(D:zjd),Inv X pins σ H s→t D σ H→wpAny (model X.prog X.w) X.A (execs st X.env) (SP X pins D) X.xe s
theorem thn{α:Type}{t:Sem α}{Q Q':α→Shared→Prop}{M:Model}{A:Around}{E:Value→Shared→Prop}{s:Shared}(h:wpAny M A t Q E s)(hQ:∀a s,Q a s→Q' a s):wpAny M A t Q' E s:=wpAny_mono h hQ fun _ _ x=>x
section
variable {X : Cx}
def zti(i:Nat):TE:=fun σ H Q=>∃v,σ[i]?=some (some v)∧Q v H
def tC(v:V):TE:=fun _ H Q=>Q v H
theorem ztj{i:Nat}{x:Str}{pos:Pos}(hN:X.N[i]?=some x)(hv:Vis X.env.scope x)(hd:(x==("__debug__" : Str))=false:=by decide)(hcd:(x==("__classdict__" : Str))=false:=by decide):PE X (.Name x pos) (zti i):=by
 intro pins s σ H Q I h
 obtain⟨v,e,h⟩:=h
 obtain⟨m,hn,hl⟩:=I.loc
 obtain⟨u,r,l⟩:=hl i x v hN e hv
 have fin:EP X pins σ Q u s:=⟨v,H,I,r,h⟩
 rcases l with⟨hk,hm⟩|⟨hk,c,hc,ad⟩
 ·exact wpAny_Name (wpAny_loadName_local I.ok.kind hk hn hm fin) hd
 ·rcases hk with hk|hk
  ·exact wpAny_Name (wpAny_loadName_cell I.ok.kind hk hc ad fin) hd
  ·exact wpAny_Name (wpAny_loadName_free I.ok.kind hk hc ad fin hcd) hd
theorem zad{i j pos}:PE X (.Constant (.int i) j pos) (tC (.int i)):=fun _ _ _ H _ I h=>wpAny_Constant_int ⟨.int i,H,I.tok _,⟨_,rfl⟩,h⟩
theorem zd9{b j pos}:PE X (.Constant (.bool b) j pos) (tC (.bl b)):=fun _ _ _ H _ I h=>Constant_bool ⟨.bl b,H,I,rfl,h⟩
theorem zhv{j pos}:PE X (.Constant .none j pos) (tC .non):=fun _ _ _ H _ I h=>Constant_none ⟨.non,H,I,rfl,h⟩
theorem zbq{x j pos}:PE X (.Constant (.str x) j pos) (tC (.str x)):=fun _ _ _ H _ I h=>Calls.Constant_str ⟨.str x,H,I.tok _,⟨_,rfl⟩,h⟩
def Gl(X:Cx)(x:Str):Prop:=X.env.kindOf x=some .globalImplicit
theorem zh8{E:Value→Shared→Prop}{pins:List (Addr×Obj)}{s:Shared}{σ:St}{H:Hp}{x:Str}{u:Value}{pos:Pos}{Q:Value→Shared→Prop}(I:Inv X pins σ H s)(hg:Gl X x)(hm:X.mg x=some u)(h:Q u s)
  (hd:(x==("__debug__" : Str))=false:=by decide):wpAny (model X.prog X.w) X.A (eval (.Name x pos) X.env) Q E s:=
 Calls.Name_function_global I.ok.kind hg (Calls.loadGlobal_global (by rw[I.ok.glob];exact I.mod.glob.keeps I.bk) hm h) hd
theorem ziv{E:Value→Shared→Prop}{pins:List (Addr×Obj)}{s:Shared}{σ:St}{H:Hp}{x:Str}{u:Value}{pos:Pos}{Q:Value→Shared→Prop}(I:Inv X pins σ H s)(hg:Gl X x)(hm:X.mg x=none)(hv:bootBuiltins x=some u)(h:Q u s)
  (hn:x ≠ "__name__" := by decide) (hd:(x==("__debug__" : Str))=false:=by decide):wpAny (model X.prog X.w) X.A (eval (.Name x pos) X.env) Q E s:=by
 obtain⟨mb,h1,h2⟩:=I.mod.blt
 exact Calls.Name_function_global I.ok.kind hg (Calls.loadGlobal_builtin (by rw[I.ok.glob];exact I.mod.glob.keeps I.bk) hm (by rw[I.ok.blt];exact h1.keeps I.bk) ((h2 x hn).trans hv) h) hd
theorem zdj{x:Str}{v:V}{u:Value}{pos:Pos}(hg:Gl X x)(hm:X.mg x=some u)(r:RelV v u)(hd:(x==("__debug__" : Str))=false:=by decide):PE X (.Name x pos) (tC v):=
 fun _ _ _ H _ I h=>zh8 I hg hm ⟨v,H,I,r,h⟩ hd
theorem zcd{x:Str}{v:V}{u:Value}{pos:Pos}(hg:Gl X x)(hm:X.mg x=none)(hv:bootBuiltins x=some u)(r:RelV v u)(hn:x ≠ "__name__" := by decide)(hd:(x==("__debug__" : Str))=false:=by decide):PE X (.Name x pos) (tC v):=
 fun _ _ _ H _ I h=>ziv I hg hm hv ⟨v,H,I,r,h⟩ hn hd
variable {a b : Expr} {ta tb : TE} {pos : Pos}
def tB(t:TE):TT:=fun σ H Q=>t σ H fun x H1=>∃c,x=.bl c∧Q c H1
theorem za9{e:Expr}{t:TE}(h:PE X e t)(he:∀whole,isTrue e X.env whole=(do let v ←whole;standAt e.pos;holding [v] (truthy v)):=by intro _;rfl):PT X e (tB t):=by
 intro pins s σ H Q I hw
 refine isTrue_plain (thn (h pins s σ H _ I hw) fun v s1 ⟨x,H1,I1,r1,q1⟩=>?_) (he _)
 obtain⟨d,rfl,q⟩:=q1
 cases r1
 exact wpAny_truthy_bool ⟨H1,I1,q⟩
variable {tA tB' : TT} {rest : List Expr}
def zzj(t u:TT):TT:=fun σ H Q=>t σ H fun c H1=>if c=true then u σ H1 Q else Q false H1
def tOr(t u:TT):TT:=fun σ H Q=>t σ H fun c H1=>if c=true then Q true H1 else u σ H1 Q
def zzn(t:TT):TT:=fun σ H Q=>t σ H fun c H1=>Q (!c) H1
theorem zfm(ha:PT X a tA):PW X (.BoolOp .And [a] pos) tA:=by
 intro wh pins s σ H Q I h
 refine isTrue_and (thn (ha pins s σ H Q I h) fun c s1 e=>?_)
 cases c with
 |true=>exact isTrue_and_nil e
 |false=>exact e
theorem ze1(ha:PT X a tA):PW X (.BoolOp .Or [a] pos) tA:=by
 intro wh pins s σ H Q I h
 refine isTrue_or (thn (ha pins s σ H Q I h) fun c s1 e=>?_)
 cases c with
 |false=>exact isTrue_or_nil e
 |true=>exact e
theorem zhk(ha:PT X a tA)(hb:PW X (.BoolOp .And (b::rest) pos) tB'):PW X (.BoolOp .And (a::b::rest) pos) (zzj tA tB'):=by
 intro wh pins s σ H Q I h
 refine isTrue_and (thn (ha pins s σ H _ I h) fun c s1 ⟨H1,I1,q1⟩=>?_)
 cases c with
 |true=>exact hb wh pins s1 σ H1 Q I1 q1
 |false=>exact⟨H1,I1,q1⟩
theorem zfu(ha:PT X a tA)(hb:PW X (.BoolOp .Or (b::rest) pos) tB'):PW X (.BoolOp .Or (a::b::rest) pos) (tOr tA tB'):=by
 intro wh pins s σ H Q I h
 refine isTrue_or (thn (ha pins s σ H _ I h) fun c s1 ⟨H1,I1,q1⟩=>?_)
 cases c with
 |true=>exact⟨H1,I1,q1⟩
 |false=>exact hb wh pins s1 σ H1 Q I1 q1
theorem zbt(ha:PT X a tA):PT X (.UnaryOp .Not a pos) (zzn tA):=by
 intro pins s σ H Q I h
 exact isTrue_not (ha pins s σ H (fun c H1=>Q (!c) H1) I h)
def zyl(ta tb:TE):TE:=fun σ H Q=>ta σ H fun x H1=>∃c,x=.bl c∧if c=true then tb σ H1 Q else Q (.bl false) H1
def zzb(ta tb:TE):TE:=fun σ H Q=>ta σ H fun x H1=>∃c,x=.bl c∧if c=true then Q (.bl true) H1 else tb σ H1 Q
def zyk(ta:TE):TE:=fun σ H Q=>ta σ H fun x H1=>∃c,x=.bl c∧Q (.bl (!c)) H1
theorem zcn{op}{t:TE}(h:PE X a t):PE X (.BoolOp op [a] pos) t:=fun pins s σ H Q I hw=>BoolOp_one (h pins s σ H Q I hw)
theorem zco(ha:PE X a ta)(hb:PE X (.BoolOp .And (b::rest) pos) tb):PE X (.BoolOp .And (a::b::rest) pos) (zyl ta tb):=by
 intro pins s σ H Q I h
 refine BoolOp_and (thn (ha pins s σ H _ I h) fun v s1 ⟨x,H1,I1,r1,q1⟩=>?_)
 obtain⟨c,rfl,q1⟩:=q1
 cases r1
 refine wpAny_truthy_bool ?_
 cases c with
 |true=>exact hb pins s1 σ H1 Q I1 q1
 |false=>exact⟨.bl false,H1,I1,rfl,q1⟩
theorem zwb(ha:PE X a ta)(hb:PE X (.BoolOp .Or (b::rest) pos) tb):PE X (.BoolOp .Or (a::b::rest) pos) (zzb ta tb):=by
 intro pins s σ H Q I h
 refine BoolOp_or (thn (ha pins s σ H _ I h) fun v s1 ⟨x,H1,I1,r1,q1⟩=>?_)
 obtain⟨c,rfl,q1⟩:=q1
 cases r1
 refine wpAny_truthy_bool ?_
 cases c with
 |false=>exact hb pins s1 σ H1 Q I1 q1
 |true=>exact⟨.bl true,H1,I1,rfl,q1⟩
theorem zf8(ha:PE X a ta):PE X (.UnaryOp .Not a pos) (zyk ta):=by
 intro pins s σ H Q I h
 refine UnaryOp_ (thn (ha pins s σ H _ I h) fun v s1 ⟨x,H1,I1,r1,q1⟩=>?_)
 obtain⟨c,rfl,q1⟩:=q1
 cases r1
 exact not_of (wpAny_truthy_bool ⟨.bl (!c),H1,I1,rfl,q1⟩)
end
def SqL(K:PySem.W.Frag)(H:Hp)(a:Addr)(xs:List V):Prop:=
 Rd H a (.lst xs) ∨
  ∃(o:Obj)(its:Array Value)(n:Nat),K.lookup a=some o∧o.cls=.type "list" ∧ o.dict=none∧o.data=.seq its n∧its.size≤sizeLine∧Vals xs its.toList
def SqT(K:PySem.W.Frag)(H:Hp)(a:Addr)(xs:List V):Prop:=
 Rd H a (.tup xs) ∨
  ∃(o:Obj)(its:Array Value)(n:Nat),K.lookup a=some o∧o.cls=.type "tuple" ∧ o.data=.seq its n∧its.size≤sizeLine∧Vals xs its.toList
def zza:Value→Option V
 |.none=>some .non
 |.bool b=>some (.bl b)
 |.int i _=>some (.int i)
 |.str x _=>some (.str x)
 |.bytes b _=>some (.byt b)
 |.float b _=>some (.flt b)
 |.ref a=>some (.ref a)
 |.type n=>some (.ty n)
 |_=>none
theorem RelV.abs{x:V}{u:Value}(r:RelV x u):zza u=some x:=by
 cases x with
 |non=>cases r;rfl
 |bl _=>cases r;rfl
 |int _=>obtain⟨t,rfl⟩:=r;rfl
 |str _=>obtain⟨t,rfl⟩:=r;rfl
 |byt _=>obtain⟨t,rfl⟩:=r;rfl
 |flt _=>obtain⟨t,rfl⟩:=r;rfl
 |ref _=>cases r;rfl
 |ty _=>cases r;rfl
theorem RelV.inj{x y:V}{u:Value}(r:RelV x u)(q:RelV y u):x=y:=Option.some.inj (r.abs.symm.trans q.abs)
theorem Vals.inj:∀{xs ys:List V} {us:List Value},Vals xs us→Vals ys us→xs=ys
 |_,_,_,.nil,.nil=>rfl
 |_,_,_,.cons r t,.cons r' t'=>by rw[r.inj r',Vals.inj t t']
section
variable {X : Cx} {pins : List (Addr × Obj)} {σ : St} {H : Hp} {s : Shared} {a : Addr} {xs ys : List V}
theorem SqL.of{K:PySem.W.Frag}(h:H a=some (.lst xs)):SqL K H a xs:=.inl (.inl h)
theorem Inv.list(I:Inv X pins σ H s)(h:SqL X.K H a xs):∃its:List Value,Vals xs its∧PlainL s.heap a its.toArray∧xs.length≤sizeLine:=by
 rcases h with h|⟨o,its,n,hk,hc,hd,hs,hz,r⟩
 ·obtain⟨z,its,n,r,e⟩:=h.ok I.hok
  exact⟨its,r,⟨_,n,e,rfl,rfl,rfl⟩,z⟩
 ·refine⟨its.toList,r,⟨o,n,I.kIn a o hk,hc,hd,by simpa using hs⟩,?_⟩
  have e:=r.length
  simp only[Array.length_toList] at e
  omega
theorem Inv.tuple(I:Inv X pins σ H s)(h:SqT X.K H a xs):∃its:List Value,Vals xs its∧IsTup s.heap a its.toArray∧xs.length≤sizeLine:=by
 rcases h with h|⟨o,its,n,hk,hc,hs,hz,r⟩
 ·obtain⟨z,its,r,p⟩:=h.ok I.hok
  exact⟨its,r,p,z⟩
 ·refine⟨its.toList,r,⟨o,I.kIn a o hk,hc,n,by simpa using hs⟩,?_⟩
  have e:=r.length
  simp only[Array.length_toList] at e
  omega
theorem Inv.list_inj(I:Inv X pins σ H s)(h:SqL X.K H a xs)(h':SqL X.K H a ys):xs=ys:=by
 obtain⟨ad,r,⟨o,n,e,_,_,d⟩,_⟩:=I.list h
 obtain⟨its',r',⟨o',n',e',_,_,d'⟩,_⟩:=I.list h'
 rw[e] at e';cases e'
 rw[d] at d'
 injection d' with d1 _
 have:ad=its':=by simpa using congrArg Array.toList d1
 subst this
 exact r.inj r'
theorem Inv.tuple_inj(I:Inv X pins σ H s)(h:SqT X.K H a xs)(h':SqT X.K H a ys):xs=ys:=by
 obtain⟨ad,r,⟨o,e,_,n,d⟩,_⟩:=I.tuple h
 obtain⟨its',r',⟨o',e',_,n',d'⟩,_⟩:=I.tuple h'
 rw[e] at e';cases e'
 rw[d] at d'
 injection d' with d1 _
 have:ad=its':=by simpa using congrArg Array.toList d1
 subst this
 exact r.inj r'
end
abbrev Cx.wish(X:Cx)(E:Value→Shared→Prop):Cx:={ X with xe:=E }
abbrev Cx.nox(X:Cx):Cx:=X.wish fun _ _=>False
theorem Cx.Ok.wish{X:Cx}(ok:X.Ok)(E:Value→Shared→Prop):(X.wish E).Ok:=
 ⟨ok.mod,ok.kind,ok.glob,ok.blt,ok.above,ok.inj,ok.has,ok.cab,ok.hd,ok.frames,ok.stk,ok.exf,ok.bs,ok.bsz,ok.noex,ok.exfs,ok.funs,ok.frf⟩
theorem Cx.Ok.unwish{X:Cx}{E:Value→Shared→Prop}(ok:(X.wish E).Ok):X.Ok:=
 ⟨ok.mod,ok.kind,ok.glob,ok.blt,ok.above,ok.inj,ok.has,ok.cab,ok.hd,ok.frames,ok.stk,ok.exf,ok.bs,ok.bsz,ok.noex,ok.exfs,ok.funs,ok.frf⟩
section
variable {X : Cx} {pins : List (Addr × Obj)} {σ : St} {H : Hp} {s : Shared} {E : Value → Shared → Prop}
theorem Inv.wish(I:Inv X pins σ H s)(E:Value→Shared→Prop):Inv (X.wish E) pins σ H s:=⟨I.ok.wish E,I.os,I.bare,I.base,I.loc,I.cell,I.free,I.freeC,I.pin,I.hok,I.len⟩
theorem Inv.unwish(I:Inv (X.wish E) pins σ H s):Inv X pins σ H s:=⟨I.ok.unwish,I.os,I.bare,I.base,I.loc,I.cell,I.free,I.freeC,I.pin,I.hok,I.len⟩
theorem SP.unwish{D:zjd}{f:Flow}{s':Shared}(h:SP (X.wish E) pins D f s'):SP X pins D f s':=by
 cases f with
 |next=>obtain⟨σ',H',I,q⟩:=h;exact⟨σ',H',I.unwish,q⟩
 |brk=>obtain⟨σ',H',I,q⟩:=h;exact⟨σ',H',I.unwish,q⟩
 |cont=>obtain⟨σ',H',I,q⟩:=h;exact⟨σ',H',I.unwish,q⟩
 |ret u=>obtain⟨v,σ',H',I,r,q⟩:=h;exact⟨v,σ',H',I.unwish,r,q⟩
theorem PSs.nox{st:List Stmt}{t:TS}(h:PSs X.nox st t):PSs X st t:=fun pins s σ H D I hw=>
 wpAny_mono (h pins s σ H D (I.wish _) hw) (fun _ _ q=>q.unwish) fun _ _ z=>False.elim z
end
section
variable {X : Cx} {st : Stmt} {rest : List Stmt} {t u : TS} {e : Expr} {te : TE} {pos : Pos}
def zyh:TS:=fun D σ H=>D.nx σ H
def zzg(t u:TS):TS:=fun D σ H=>t { D with nx:=u D } σ H
theorem zas:PSs X [] zyh:=fun _ _ σ H _ I h=>wpAny_execs_nil ⟨σ,H,I,h⟩
theorem zae(h1:PS X st t)(h2:PSs X rest u):PSs X (st::rest) (zzg t u):=by
 intro pins s σ H D I h
 refine wpAny_execs_cons (thn (h1 pins s σ H { D with nx:=u D } I h) fun f s1 q=>?_)
 cases f with
 |next=>
  obtain⟨σ',H',I',q⟩:=q
  exact h2 pins s1 σ' H' D I' q
 |ret v=>exact q
 |brk=>exact q
 |cont=>exact q
theorem zah(h1:PS X st t):PSs X [st] t:=by
 intro pins s σ H D I h
 refine wpAny_execs_cons (thn (h1 pins s σ H D I h) fun f s1 q=>?_)
 cases f with
 |next=>exact wpAny_execs_nil q
 |ret v=>exact q
 |brk=>exact q
 |cont=>exact q
theorem Inv.quiet{pins:List (Addr×Obj)}{σ:St}{H:Hp}{s:Shared}(I:Inv X pins σ H s):interactive X.env=false:=by simp[interactive,I.ok.kind]
def zyy(te:TE):TS:=fun D σ H=>te σ H fun _ H1=>D.nx σ H1
theorem zck(he:PE X e te)(hs:swapsWith e none pos.line X.env=pure false:=by rfl):PS X (.Expr e pos) (zyy te):=by
 intro pins s σ H D I h
 exact wpAny_Expr_any (thn (he pins s σ H _ I h) fun v s1 ⟨x,H1,I1,r1,q1⟩=>⟨σ,H1,I1,q1⟩) I.quiet hs
def zzd(te:TE):TS:=fun D σ H=>te σ H D.rt
theorem zao(he:PE X e te):PS X (.Return (some e) pos) (zzd te):=by
 intro pins s σ H D I h
 exact wpAny_Return_some (thn (he pins s σ H _ I h) fun v s1 ⟨x,H1,I1,r1,q1⟩=>⟨x,σ,H1,I1,r1,q1⟩)
def zzf(c:TT)(t u:TS):TS:=fun D σ H=>c σ H fun b H1=>if b=true then t D σ H1 else u D σ H1
theorem zaz{c:Expr}{a b:List Stmt}{tc:TT}(hc:PT X c tc)(ha:PSs X a t)(hb:PSs X b u):PS X (.If c a b pos) (zzf tc t u):=by
 intro pins s σ H D I h
 refine wpAny_If (thn (hc pins s σ H _ I h) fun d s1 ⟨H1,I1,q1⟩=>?_)
 cases d with
 |true=>exact ha pins s1 σ H1 D I1 q1
 |false=>exact hb pins s1 σ H1 D I1 q1
def zqa:TS:=fun _ _ _=>False
theorem zdr:PS X st zqa:=fun _ _ _ _ _ _ h=>h.elim
theorem zgy{sts:List Stmt}:PSs X sts zqa:=fun _ _ _ _ _ _ h=>h.elim
end
abbrev TG:=V→St→Hp→(St→Hp→Prop)→Prop
abbrev TGs:=List V→St→Hp→(St→Hp→Prop)→Prop
def PG(X:Cx)(target:Expr)(t:TG):Prop:=
 ∀(pins:List (Addr×Obj))(s:Shared)(σ:St)(H:Hp)(v:V)(u:Value)(Q:St→Hp→Prop),Inv X pins σ H s→RelV v u→t v σ H Q →
  wpAny (model X.prog X.w) X.A (assign target X.env u) (fun _ s'=>∃σ' H',Inv X pins σ' H' s'∧Q σ' H') X.xe s
def PGs(X:Cx)(ts:List Expr)(t:TGs):Prop:=
 ∀(pins:List (Addr×Obj))(s:Shared)(σ:St)(H:Hp)(vs:List V)(us:List Value)(Q:St→Hp→Prop),Inv X pins σ H s→Vals vs us→t vs σ H Q →
  wpAny (model X.prog X.w) X.A (assignInOrder ((assignEach ts X.env).map (·.2)) us) (fun _ s'=>∃σ' H',Inv X pins σ' H' s'∧Q σ' H') X.xe s
abbrev zx3:=V→V→V→Hp→(Hp→Prop)→Prop
def zy4(X:Cx)(t:zx3):Prop:=
 ∀(pins:List (Addr×Obj))(s:Shared)(σ:St)(H:Hp)(o i v:V)(ov iv u:Value)(Q:Hp→Prop),Inv X pins σ H s→RelV o ov→RelV i iv→RelV v u→t o i v H Q →
  wpAny (model X.prog X.w) X.A (setItem ov iv u) (fun _ s'=>∃H',Inv X pins σ H' s'∧Q H') X.xe s
section
variable {X : Cx} {pos : Pos}
def zkv(i:Nat):TG:=fun v σ H Q=>Q (σ.set i (some v)) H
theorem zaw{i:Nat}{x:Str}(hN:X.N.Nodup)(hi:X.N[i]?=some x)(hx:Loc X.env.scope x)(hf:X.fn x=true∨X.env.scope.names.lookup x=some .local:=by first|exact .inl rfl|exact .inr rfl|assumption):PG X (.Name x pos) (zkv i):=by
 intro pins s σ H v u Q I r h
 exact wpAny_assign_Name (zj2 I hN hi hx r (fun s' I'=>⟨_,H,I',h⟩) hf)
def zzm:TGs:=fun vs σ H Q=>vs=[]∧Q σ H
def zyq(t:TG)(u:TGs):TGs:=fun vs σ H Q=>∃v r,vs=v::r∧t v σ H fun σ' H'=>u r σ' H' Q
theorem zdm:PGs X [] zzm:=by
 intro pins s σ H vs us Q I r h
 obtain⟨e,h⟩:=h
 subst e
 cases r
 exact assignInOrder_nil ⟨σ,H,I,h⟩
theorem za8{e:Expr}{es:List Expr}{t:TG}{u:TGs}(h1:PG X e t)(h2:PGs X es u)
  (hs:(assignEach (e::es) X.env).map (·.2)=assign e X.env::(assignEach es X.env).map (·.2):=by rfl):PGs X (e::es) (zyq t u):=by
 intro pins s σ H vs us Q I r h
 obtain⟨v,vr,e1,h⟩:=h
 subst e1
 cases r with
 |cons r rr=>
  rw[hs]
  refine assignInOrder_cons (thn (h1 pins s σ H _ _ _ I r h) fun _ s1 ⟨σ1,H1,I1,q1⟩=>?_)
  exact h2 pins s1 σ1 H1 _ _ Q I1 rr q1
def zy2(K:PySem.W.Frag)(n:Nat)(t:TGs):TG:=fun v σ H Q=>∃a xs,v=.ref a∧SqT K H a xs∧xs.length=n∧t xs σ H Q
theorem zxc{es:List Expr}{k:Nat}{t:TGs}{n:Nat}(hc:X.calm=true)(h:PGs X es t)
  (hn:(assignEach es X.env).length=n:=by rfl) (hst:(assignEach es X.env).findIdx? (·.1)=none:=by rfl):PG X (.Tuple es k pos) (zy2 X.K n t):=by
 intro pins s σ H v u Q I r hw
 obtain⟨a,xs,e1,hq,hl,hw⟩:=hw
 subst e1
 cases r
 obtain⟨ad,rv,ht,hz⟩:=I.tuple hq
 refine assign_Tuple_tuple (I.ok.hd hc) ht (by simp[hn,←hl,rv.length]) hst fun h' hx=>?_
 have I1:Inv X pins σ H { s with heap:=h' }:=I.kept (t':=s.toks) fun b o e=>hx b o (Nat.ne_of_lt (Heap.lt_size e)) e
 exact h pins _ σ H xs _ Q I1 (by simpa using rv) hw
def zzq(to ti:TE)(t:zx3):TG:=fun v σ H Q=>to σ H fun o H1=>ti σ H1 fun i H2=>t o i v H2 fun H3=>Q σ H3
theorem zwy{o i:Expr}{to ti:TE}{t:zx3}(ho:PE X o to)(hi:PE X i ti)(hs:zy4 X t)
  (ha:∀v,assign (.Subscript o i pos) X.env v=(do
   let ov ←holding [v] (eval o X.env)
   let iv ←holding [v,ov] (eval i X.env)
   standAt pos
   holding [v,ov,iv] (setItem ov iv v)
   release [v,ov,iv] []):=by intro _;rfl):PG X (.Subscript o i pos) (zzq to ti t):=by
 intro pins s σ H v u Q I r h
 rw[ha]
 refine wpAny_bind (wpAny_holding (thn (ho pins s σ H _ I h) fun ov s1 ⟨x,H1,I1,r1,q1⟩=>?_))
 refine wpAny_bind (wpAny_holding (thn (hi pins s1 σ H1 _ I1 q1) fun iv s2 ⟨y,H2,I2,r2,q2⟩=>?_))
 refine wpAny_bind (wpAny_standAt (wpAny_bind (wpAny_holding (thn (hs pins s2 σ H2 x y v ov iv u _ I2 r1 r2 r q2) fun _ s3 ⟨H3,I3,q3⟩=>?_))))
 exact wpAny_release ⟨σ,H3,I3,q3⟩
def zvh(te:TE)(g:TG):TS:=fun D σ H=>te σ H fun x H1=>g x σ H1 D.nx
theorem zts{tg e:Expr}{te:TE}{g:TG}(he:PE X e te)(hg:PG X tg g)(hs:swapsWithSole [tg] e pos.line X.env=pure false:=by rfl)(hw:swappedStores [tg] e X.env=pure none:=by rfl)
  (h1:(assignEach [tg] X.env).map (·.2)=[assign tg X.env]:=by rfl):PS X (.Assign [tg] e pos) (zvh te g):=by
 intro pins s σ H D I h
 refine wpAny_Assign_stores (thn (he pins s σ H _ I h) fun v s1 ⟨x,H1,I1,r1,q1⟩=>?_) hs hw
 rw[h1]
 exact thn (hg pins s1 σ H1 x v _ I1 r1 q1) fun _ s2 q=>q
theorem zax{i:Nat}{x:Str}{e:Expr}{te:TE}{pos':Pos}(hN:X.N.Nodup)(hi:X.N[i]?=some x)(hx:Loc X.env.scope x)(he:PE X e te)(hs:swapsWith e (some (.Name x pos')) pos.line X.env=pure false:=by rfl)(hf:X.fn x=true∨X.env.scope.names.lookup x=some .local:=by first|exact .inl rfl|exact .inr rfl|assumption):
  PS X (.Assign [.Name x pos'] e pos) (zvh te (zkv i)):=by
 intro pins s σ H D I h
 refine wpAny_Assign_Name (thn (he pins s σ H _ I h) fun v s1 ⟨y,H1,I1,r1,q1⟩=>?_) hs
 exact zj2 I1 hN hi hx r1 (fun s2 I2=>⟨_,H1,I2,q1⟩) hf
def zuj(c:TT)(tb:TS):TS:=fun D σ H=>∃W:Nat→St→Hp→Prop,(∃m,W m σ H)∧∀m σ H,W m σ H →
 c σ H fun b H1=>if b=true then ∃N:St→Hp→Prop,(∀σ' H',N σ' H'→∃m',m'<m∧W m' σ' H')∧tb { D with nx:=N,ct:=N,bk:=D.nx } σ H1 else D.nx σ H1
theorem ztu{c:Expr}{body:List Stmt}{tc:TT}{tb:TS}(hp:PassesOwn (model X.prog X.w) X.A X.env X.xe)(hc:PT X c tc)(hb:PSs X body tb):PS X (.While c body [] pos) (zuj tc tb):=by
 intro pins s σ H D I h
 obtain⟨W,⟨m0,w0⟩,ad⟩:=h
 refine wpAny_While (codeAny_whileLoop (fun n s'=>∃σ' H',Inv X pins σ' H' s'∧W n σ' H') ?_ m0 ⟨σ,H,I,w0⟩)
 rintro n s1 ⟨σ1,H1,I1,w1⟩
 refine wpAny_passesOwn hp (thn (hc pins s1 σ1 H1 _ I1 (ad n σ1 H1 w1)) fun b s2 ⟨H2,I2,q2⟩=>?_)
 cases b with
 |true=>
  obtain⟨N,hN,q2⟩:=q2
  rw[if_pos rfl]
  refine wpAny_passesOwn hp (thn (hb pins s2 σ1 H2 _ I2 q2) fun f s3 q3=>?_)
  cases f with
  |next=>
   obtain⟨σ3,H3,I3,n3⟩:=q3
   obtain⟨m',hm,w3⟩:=hN σ3 H3 n3
   exact⟨m',hm,σ3,H3,I3,w3⟩
  |cont=>
   obtain⟨σ3,H3,I3,n3⟩:=q3
   obtain⟨m',hm,w3⟩:=hN σ3 H3 n3
   exact⟨m',hm,σ3,H3,I3,w3⟩
  |brk=>exact q3
  |ret v=>exact q3
 |false=>
  rw[if_neg Bool.false_ne_true]
  exact wpAny_execs_nil ⟨σ1,H2,I2,q2⟩
end
structure It where
 go:Nat→Hp→Prop
 yld:Nat→Hp→V→Hp→Prop
 stop:Nat→Hp→Prop
def zg1(X:Cx)(pins:List (Addr×Obj))(H:Hp)(b:Addr):Prop:=
 H b=none∧b≠X.env.locals∧b∉X.fs∧(b∈X.ex∨X.s₀.heap.objs.size≤b)∧(∀x c,X.env.cells.lookup x=some c→c≠b)∧∀p∈X.pn++pins,p.1≠b
theorem Inv.fpOk{X:Cx}{pins:List (Addr×Obj)}{σ:St}{H H':Hp}{s:Shared}{b:Addr}(I:Inv X pins σ H s)(hb:s.heap.objs.size≤b)(hn:H' b=none):zg1 X pins H' b:=by
 refine⟨hn,Nat.ne_of_gt (Nat.lt_of_lt_of_le I.lt hb),I.nofs hb,.inr (Nat.le_trans I.sz hb),fun x c e z=>?_,fun p hp z=>?_⟩
 ·obtain⟨v,q⟩:=I.cell x c e
  exact absurd (Nat.lt_of_lt_of_le q.lt (by rw[z];exact hb)) (Nat.lt_irrefl _)
 ·exact absurd (Nat.lt_of_lt_of_le (Heap.lt_size (I.pin p hp).1) (by rw[z];exact hb)) (Nat.lt_irrefl _)
structure zsz(P:Program)(w:World)(K:PySem.W.Frag)(tg:Expr)(J:It)(fp:List Addr)(it:Addr)(tn:Nat→Heap→Prop):Prop where
 mem:it∈fp
 obj:∀i h,tn i h→∀b∈fp,∃o,h.get? b=some o∧∀v,o.data≠.cell v
 keep:∀i h h',tn i h→(∀b∈fp,∀o,h.get? b=some o→h'.get? b=some o)→tn i h'
 item:∀(X:Cx),X.prog=P→X.w=w→X.K=K→X.calm=true→∀(i:Nat)(pins:List (Addr×Obj))(s:Shared)(σ:St)(H:Hp)(E:Value→Shared→Prop),Inv X pins σ H s→(∀b∈fp,zg1 X pins H b)→tn i s.heap→J.go i H →
  wpAny (model P w) X.A (pyNext (.ref it)) (fun r s1=>∃u,r=some u ∧
   wpAny (model P w) X.A (letOwnedTupleGo tg (.ref it) u) (fun _ s2=>∃x H',Inv X pins σ H' s2∧RelV x u∧J.yld i H x H'∧tn (i+1) s2.heap∧∀b∈fp,H' b=none) E s1) E s
 done:∀(X:Cx),X.prog=P→X.w=w→X.K=K→X.calm=true→∀(i:Nat)(pins:List (Addr×Obj))(s:Shared)(σ:St)(H:Hp)(E:Value→Shared→Prop),Inv X pins σ H s→(∀b∈fp,zg1 X pins H b)→tn i s.heap→J.stop i H →
  wpAny (model P w) X.A (pyNext (.ref it)) (fun r s1=>r=none∧Inv X pins σ H s1) E s
 self:∀(A:Around)(i:Nat)(s:Shared)(Q:Value→Shared→Prop)(E:Value→Shared→Prop),tn i s.heap→Q (.ref it) s→wpAny (model P w) A (pyIter (.ref it)) Q E s
abbrev TI:=St→Hp→(It→Hp→Prop)→Prop
def PIE(X:Cx)(pins:List (Addr×Obj))(σ:St)(tg:Expr)(R:It→Hp→Prop)(itv:Value)(s2:Shared):Prop:=
 ∃(it:Addr)(fp:List Addr)(tn:Nat→Heap→Prop)(J:It)(H':Hp),itv=.ref it∧Inv X pins σ H' s2∧zsz X.prog X.w X.K tg J fp it tn∧tn 0 s2.heap∧(∀b∈fp,zg1 X pins H' b)∧R J H'
def PI(X:Cx)(tg iter:Expr)(wi:TI):Prop:=
 ∀(pins:List (Addr×Obj))(s:Shared)(σ:St)(H:Hp)(R:It→Hp→Prop),Inv X pins σ H s→wi σ H R →
  wpAny (model X.prog X.w) X.A (eval iter X.env) (fun v s1=>wpAny (model X.prog X.w) X.A (pyIter v) (PIE X pins σ tg R) X.xe s1) X.xe s
theorem zs6{M:Model}{A:Around}{E:Value→Shared→Prop}{s:Shared}{tg:Expr}{it:Addr}{u:Value}{o:Obj}{n:String}{vs:Array Value}{Q:Unit→Shared→Prop}(ho:s.heap.get? it=some o)(hc:o.cls=.type n)(hd:o.data=.fields vs)
    (hn:["enumerate", "zip", "dict_itemiterator", "dict_reverseitemiterator", "odict_iterator", "itertools.zip_longest", "itertools.pairwise"].contains n=false) (hQ:Q () s):wpAny M A (letOwnedTupleGo tg (.ref it) u) Q E s:=by
  unfold letOwnedTupleGo
  cases tg<;>first
    |exact wpAny_pure hQ
    | (cases u <;> first
        |exact wpAny_pure hQ
        | (refine wpAny_bind (wpAny_load ho ?_)
           rw[hc,hd]
           show wpAny M A (if (["enumerate", "zip", "dict_itemiterator", "dict_reverseitemiterator", "odict_iterator", "itertools.zip_longest", "itertools.pairwise"].contains n&&vs[0]?==some (rawInt _))=true then _ else _) Q E s
           rw[if_neg (by intro h;rw[hn,Bool.false_and] at h;cases h)]
           exact wpAny_pure hQ))
def Itl(K:PySem.W.Frag)(a:Addr):It:=
 ⟨fun i H=>∃xs x,SqL K H a xs∧xs[i]?=some x,fun i H x H'=>H'=H∧∀xs,SqL K H a xs→xs[i]?=some x,fun i H=>∃xs,SqL K H a xs∧xs.length≤i⟩
def Itt(K:PySem.W.Frag)(a:Addr):It:=
 ⟨fun i H=>∃xs x,SqT K H a xs∧xs[i]?=some x,fun i H x H'=>H'=H∧∀xs,SqT K H a xs→xs[i]?=some x,fun i H=>∃xs,SqT K H a xs∧xs.length≤i⟩
def Itr(lo:Int)(n:Nat):It:=⟨fun i _=>i<n,fun i H x H'=>H'=H∧x=.int (lo+i),fun i _=>n≤i⟩
theorem zlk{P:Program}{w:World}{K:PySem.W.Frag}{tg:Expr}(a it:Addr):zsz P w K tg (Itl K a) [it] it (fun i h=>h.IsListIter it a i) where
 mem:=by simp
 obj:=fun i h st b hb=>by
  have e:b=it:=by simpa using hb
  subst e
  obtain⟨o,e,c,d⟩:=st
  exact⟨o,e,fun v z=>by rw[d] at z;cases z⟩
 keep:=fun i h h' st k=>st.at fun o e=>k it (by simp) o e
 item:=by
  intro X hP hw hK hc i pins s σ H E I hf st hg
  subst hP hw hK
  obtain⟨xs,x,hq,hx⟩:=hg
  obtain⟨ae,rv,p,hz⟩:=I.list hq
  obtain⟨u,hu,ru⟩:=rv.get hx
  obtain⟨f0,f1,f2,f3,f4,f5⟩:=hf it (by simp)
  refine wpAny_pyNext_list_item st p.isList (x:=u) (by simpa using hu) fun h' ad sb=>?_
  have I1:Inv X pins σ H { s with heap:=h' }:=I.turned (t':=s.toks) (fun b o hb e=>(sb.2 b hb).trans e) f0 f1 f3 f4 f5
  obtain⟨o,e,c,d⟩:=id ad
  exact⟨u,rfl,zs6 (s:={ s with heap:=h' }) e c d (by decide) ⟨x,H,I1,ru,⟨rfl,fun ys hy=>by rw[I.list_inj hy hq];exact hx⟩,ad,fun b hb=>(hf b hb).1⟩⟩
 done:=by
  intro X hP hw hK hc i pins s σ H E I hf st hg
  subst hP hw hK
  obtain⟨xs,hq,hx⟩:=hg
  obtain⟨ae,rv,p,hz⟩:=I.list hq
  obtain⟨f0,f1,f2,f3,f4,f5⟩:=hf it (by simp)
  have hl:=rv.length
  exact wpAny_pyNext_list_end (I.ok.hd hc) st p.isList (by simp;omega) fun h' eb=>⟨rfl,I.turned (t':=s.toks) (fun b o hb e=>eb b o hb e) f0 f1 f3 f4 f5⟩
 self:=fun _ _ _ _ _ st h=>wpAny_pyIter_listiter st h
theorem zkw{P:Program}{w:World}{K:PySem.W.Frag}{tg:Expr}(a it:Addr):zsz P w K tg (Itt K a) [it] it (fun i h=>h.IsTupleIter it a i) where
 mem:=by simp
 obj:=fun i h st b hb=>by
  have e:b=it:=by simpa using hb
  subst e
  obtain⟨o,e,c,d⟩:=st
  exact⟨o,e,fun v z=>by rw[d] at z;cases z⟩
 keep:=fun i h h' st k=>st.at fun o e=>k it (by simp) o e
 item:=by
  intro X hP hw hK hc i pins s σ H E I hf st hg
  subst hP hw hK
  obtain⟨xs,x,hq,hx⟩:=hg
  obtain⟨ad,rv,p,hz⟩:=I.tuple hq
  obtain⟨u,hu,ru⟩:=rv.get hx
  obtain⟨f0,f1,f2,f3,f4,f5⟩:=hf it (by simp)
  refine wpAny_pyNext_tuple_item st (show s.heap.IsTuple a ad.toArray from p) (x:=u) (by simpa using hu) fun h' ae sb=>?_
  have I1:Inv X pins σ H { s with heap:=h' }:=I.turned (t':=s.toks) (fun b o hb e=>(sb.2 b hb).trans e) f0 f1 f3 f4 f5
  obtain⟨o,e,c,d⟩:=id ae
  exact⟨u,rfl,zs6 (s:={ s with heap:=h' }) e c d (by decide) ⟨x,H,I1,ru,⟨rfl,fun ys hy=>by rw[I.tuple_inj hy hq];exact hx⟩,ae,fun b hb=>(hf b hb).1⟩⟩
 done:=by
  intro X hP hw hK hc i pins s σ H E I hf st hg
  subst hP hw hK
  obtain⟨xs,hq,hx⟩:=hg
  obtain⟨ad,rv,p,hz⟩:=I.tuple hq
  obtain⟨f0,f1,f2,f3,f4,f5⟩:=hf it (by simp)
  have hl:=rv.length
  exact wpAny_pyNext_tuple_end (I.ok.hd hc) st (show s.heap.IsTuple a ad.toArray from p) (by simp;omega) fun h' eb=>⟨rfl,I.turned (t':=s.toks) (fun b o hb e=>eb b o hb e) f0 f1 f3 f4 f5⟩
 self:=fun _ _ _ _ _ st h=>wpAny_pyIter_tupleiter st h
theorem zpj{P:Program}{w:World}{K:PySem.W.Frag}{tg:Expr}(it:Addr)(lo:Int)(n:Nat):zsz P w K tg (Itr lo n) [it] it (fun i h=>IsRangeIter h it (lo+(i:Nat)*1) ((n:Int)-(i:Nat)) 1) where
 mem:=by simp
 obj:=fun i h st b hb=>by
  have e:b=it:=by simpa using hb
  subst e
  exact⟨_,st,fun v z=>by
   have z':Data.fields _=Data.cell v:=z
   cases z'⟩
 keep:=fun i h h' st k=>k it (by simp) _ st
 item:=by
  intro X hP hw hK hc i pins s σ H E I hf st hg
  subst hP hw hK
  obtain⟨f0,f1,f2,f3,f4,f5⟩:=hf it (by simp)
  have W:=Walks.range (prog:=X.prog) (w:=X.w) (I.ok.hd hc) it lo 1 n
  refine W.item i s _ _ hg st fun v h' tk hv ad kk=>?_
  obtain⟨t,rfl⟩:=hv
  have I1:Inv X pins σ H { s with heap:=h',toks:=tk }:=I.turned (fun b o hb e=>kk b o (by simpa using hb) e) f0 f1 f3 f4 f5
  refine⟨_,rfl,zs6 (s:={ s with heap:=h',toks:=tk }) (n := "range_iterator") ad rfl rfl (by decide) ⟨.int (lo+i),H,I1,⟨t,?_⟩,⟨rfl,rfl⟩,ad,fun b hb=>(hf b hb).1⟩⟩
  rw[Int.mul_one]
 done:=by
  intro X hP hw hK hc i pins s σ H E I hf st hg
  subst hP hw hK
  obtain⟨f0,f1,f2,f3,f4,f5⟩:=hf it (by simp)
  exact wpAny_pyNext_range_end (I.ok.hd hc) st (by have:n≤i:=hg;omega) fun h' eb=>⟨rfl,I.turned (t':=s.toks) (fun b o hb e=>eb b o hb e) f0 f1 f3 f4 f5⟩
 self:=fun _ _ _ _ _ st h=>wpAny_pyIter_rangeiter st h
section
variable {X : Cx} {tg : Expr}
def zwl(K:PySem.W.Frag)(tl:TE):TI:=fun σ H R=>tl σ H fun x H1=>∃a,x=.ref a∧(∃xs,SqL K H1 a xs)∧R (Itl K a) H1
def zy3(K:PySem.W.Frag)(tl:TE):TI:=fun σ H R=>tl σ H fun x H1=>∃a,x=.ref a∧(∃xs,SqT K H1 a xs)∧R (Itt K a) H1
theorem zvi{l:Expr}{tl:TE}(hl:PE X l tl):PI X tg l (zwl X.K tl):=by
 intro pins s σ H R I h
 refine thn (hl pins s σ H _ I h) fun v s1 ⟨x,H1,I1,r1,q1⟩=>?_
 obtain⟨a,e,⟨xs,hq⟩,q⟩:=q1
 subst e
 cases r1
 obtain⟨ad,rv,p,hz⟩:=I1.list hq
 refine wpAny_pyIter_list p.isList ?_
 refine⟨s1.heap.objs.size,[s1.heap.objs.size],_,_,H1,rfl,I1.kept (t':=s1.toks) fun b o e=>Heap.get?_push_of_some _ e,zlk a _,⟨_,Heap.get?_push_size _ rfl,rfl,rfl⟩,fun b hb=>?_,q⟩
 have e:b=s1.heap.objs.size:=by simpa using hb
 subst e
 exact I1.fpOk (Nat.le_refl _) (I1.hok.fresh (Nat.le_refl _))
theorem zx6{l:Expr}{tl:TE}(hl:PE X l tl):PI X tg l (zy3 X.K tl):=by
 intro pins s σ H R I h
 refine thn (hl pins s σ H _ I h) fun v s1 ⟨x,H1,I1,r1,q1⟩=>?_
 obtain⟨a,e,⟨xs,hq⟩,q⟩:=q1
 subst e
 cases r1
 obtain⟨ad,rv,p,hz⟩:=I1.tuple hq
 refine wpAny_pyIter_tuple (show s1.heap.IsTuple a ad.toArray from p) ?_
 refine⟨s1.heap.objs.size,[s1.heap.objs.size],_,_,H1,rfl,I1.kept (t':=s1.toks) fun b o e=>Heap.get?_push_of_some _ e,zkw a _,⟨_,Heap.get?_push_size _ rfl,rfl,rfl⟩,fun b hb=>?_,q⟩
 have e:b=s1.heap.objs.size:=by simpa using hb
 subst e
 exact I1.fpOk (Nat.le_refl _) (I1.hok.fresh (Nat.le_refl _))
theorem zoj{pins:List (Addr×Obj)}{σ:St}{H:Hp}{s:Shared}{R:It→Hp→Prop}{E:Value→Shared→Prop}{lo hi:Int}{t u v:Tok}{tk:Nat}(I:Inv X pins σ H s)(h1 : -(2^62)≤lo)(h2:lo<2^62)(h3 : -(2^62)≤hi)(h4:hi<2^62)
  (q:R (Itr lo (hi-lo).toNat) H):wpAny (model X.prog X.w) X.A (pyIter (.ref s.heap.objs.size)) (PIE X pins σ tg R) E { s with heap:=s.heap.push { cls:=.type "range",data:=.fields #[.int lo t,.int hi u,.int 1 v] },toks:=tk }:=by
 refine wpAny_pyIter_range (IsRange.new ..) (small_one h1 h2 h3 h4) ?_
 have I1:Inv X pins σ H { s with heap:=s.heap.push { cls:=.type "range",data:=.fields #[.int lo t,.int hi u,.int 1 v] },toks:=tk }:=I.kept fun b o e=>Heap.get?_push_of_some _ e
 refine⟨(s.heap.push { cls:=.type "range",data:=.fields #[.int lo t,.int hi u,.int 1 v] }).objs.size,[(s.heap.push { cls:=.type "range",data:=.fields #[.int lo t,.int hi u,.int 1 v] }).objs.size],_,_,H,rfl,
  I1.kept (t':=tk) fun b o e=>Heap.get?_push_of_some _ e,zpj _ lo (hi-lo).toNat,?_,fun b hb=>?_,q⟩
 ·have e1:lo+((0:Nat):Int)*1=lo:=by simp
  have e2:(((hi-lo).toNat:Nat):Int)-((0:Nat):Int)=Builtin.Range.rangeSize lo hi 1:=by rw[rangeSize_one];split<;>omega
  show IsRangeIter _ _ (lo+((0:Nat):Int)*1) ((((hi-lo).toNat:Nat):Int)-((0:Nat):Int)) 1
  rw[e1,e2]
  exact Heap.get?_push_size _ rfl
 ·have e:b=(s.heap.push { cls:=.type "range",data:=.fields #[.int lo t,.int hi u,.int 1 v] }).objs.size:=by simpa using hb
  subst e
  exact I1.fpOk (Nat.le_refl _) (I1.hok.fresh (Nat.le_refl _))
def zx7(ta:TA):TI:=fun σ H R=>ta σ H fun vs H1=>∃j:Int,vs=[.int j]∧-(2^62)≤j∧j<2^62∧R (Itr 0 j.toNat) H1
def zyw(ta:TA):TI:=fun σ H R=>ta σ H fun vs H1=>∃i j:Int,vs=[.int i,.int j]∧(-(2^62)≤i∧i<2^62∧-(2^62)≤j∧j<2^62)∧R (Itr i (j-i).toNat) H1
theorem zd0{a:Expr}{ta:TA}{p pos:Pos}(hg:Gl X "range")(hm:X.mg "range" = none)(ha:PA X [a] ta)(hs:starEach [a] X.env=[(false,eval a X.env)]:=by rfl):PI X tg (.Call (.Name "range" p) [a] [] pos) (zx7 ta):=by
 intro pins s σ H R I h
 refine Call_ (ziv I hg hm boot_range (PyProof.Rows.callWith_type1 (thn (ha pos pins s σ H _ I h) fun us s1 ⟨vs,H1,I1,r1,q1⟩=>?_) hs rfl))
 obtain⟨j,e,q1,q2,q⟩:=q1
 subst e
 cases r1 with
 |cons r rr=>
  cases rr
  obtain⟨t,rfl⟩:=r
  exact call_range_1 (zoj I1 (by omega) (by omega) q1 q2 (by simpa using q))
theorem zrm{a b:Expr}{ta:TA}{p pos:Pos}(hg:Gl X "range")(hm:X.mg "range" = none)(ha:PA X [a,b] ta)(hs:starEach [a,b] X.env=[(false,eval a X.env),(false,eval b X.env)]:=by rfl)(hs2:starEach [b] X.env=[(false,eval b X.env)]:=by rfl):
  PI X tg (.Call (.Name "range" p) [a,b] [] pos) (zyw ta):=by
 intro pins s σ H R I h
 refine Call_ (ziv I hg hm boot_range (PyProof.Rows.callWith_type1 (thn (ha pos pins s σ H _ I h) fun us s1 ⟨vs,H1,I1,r1,q1⟩=>?_) (by rw[hs,hs2]) (by rw[hs2];rfl)))
 obtain⟨i,j,e,⟨q1,q2,q3,q4⟩,q⟩:=q1
 subst e
 cases r1 with
 |cons r rr=>
  cases rr with
  |cons r' rr=>
   cases rr
   obtain⟨t,rfl⟩:=r
   obtain⟨t',rfl⟩:=r'
   exact call_range_2 (zoj I1 q1 q2 q3 q4 q)
def zzl(wi:TI)(g:TG)(tb:TS):TS:=fun D σ H=>wi σ H fun J H1=>∃W:Nat→Nat→St→Hp→Prop,(∃m,W 0 m σ H1)∧∀i m σ H,W i m σ H →
 (J.stop i H∧D.nx σ H)∨(J.go i H∧∃N:St→Hp→Prop,(∀σ' H',N σ' H'→∃m',m'<m∧W (i+1) m' σ' H')∧∀x H',J.yld i H x H'→g x σ H' fun σ2 H2=>tb { D with nx:=N,ct:=N,bk:=D.nx } σ2 H2)
def zgn(fp:List Addr)(h:Heap):List (Addr×Obj):=fp.filterMap fun b=>(h.get? b).map fun o=>(b,o)
theorem zdh{fp:List Addr}{h:Heap}{b:Addr}{o:Obj}(hb:b∈fp)(e:h.get? b=some o):(b,o)∈zgn fp h:=List.mem_filterMap.mpr ⟨b,hb,by rw[e];rfl⟩
theorem zq7{fp:List Addr}{h:Heap}{p:Addr×Obj}(hp:p∈zgn fp h):p.1∈fp∧h.get? p.1=some p.2:=by
 obtain⟨b,hb,e⟩:=List.mem_filterMap.mp hp
 cases q:h.get? b with
 |none=>rw[q] at e;cases e
 |some o=>
  rw[q] at e
  have e':(b,o)=p:=Option.some.inj e
  subst e'
  exact⟨hb,q⟩
theorem Inv.pinned{pins:List (Addr×Obj)}{σ:St}{H:Hp}{s:Shared}{fp:List Addr}(I:Inv X pins σ H s)(hf:∀b∈fp,zg1 X pins H b)(ho:∀b∈fp,∃o,s.heap.get? b=some o∧∀v,o.data≠.cell v):Inv X (pins++zgn fp s.heap) σ H s:=
 I.pins_of fun p hp=>(List.mem_append.mp hp).elim (fun z=>I.pin p (List.mem_append_right _ z)) fun z=>by
  obtain⟨hb,e⟩:=zq7 z
  obtain⟨f0,f1,f2,_⟩:=hf p.1 hb
  obtain⟨o,e',d⟩:=ho p.1 hb
  rw[e] at e';cases e'
  exact⟨e,f0,f1,f2,d⟩
theorem Inv.unpinned{pins pl:List (Addr×Obj)}{σ:St}{H:Hp}{s:Shared}(I:Inv X (pins++pl) σ H s):Inv X pins σ H s:=I.pins_of fun p hp=>I.pin p (List.mem_append_right _ (List.mem_append_left _ hp))
theorem zde{iter:Expr}{body:List Stmt}{wi:TI}{g:TG}{tb:TS}{pos:Pos}(hp:PassesOwn (model X.prog X.w) X.A X.env X.xe)(hc:X.calm=true)(hi:PI X tg iter wi)(hg:PG X tg g)(hb:PSs X body tb)
  (hs:∀x,foldedSetIterable iter X.env x=pure x:=by intro _;rfl):PS X (.For tg iter body [] pos) (zzl wi g tb):=by
 intro pins s σ H D I h
 refine wpAny_For (thn (hi pins s σ H _ I h) fun v s1 h1=>thn h1 fun ao s2 h2=>?_) hs
 obtain⟨it,fp,tn,J,H2,e,I2,T,al,f2,W,⟨m0,w0⟩,ah⟩:=h2
 subst e
 have ae:∀{H':Hp},(∀b∈fp,H' b=none)→∀b∈fp,zg1 X pins H' b:=fun hn b hb=>⟨hn b hb,(f2 b hb).2⟩
 refine codeAny_forLoop_any (fun n s'=>∃i σ' H',Inv X pins σ' H' s'∧tn i s'.heap∧(∀b∈fp,H' b=none)∧W i n σ' H') ?_ m0 ⟨0,σ,H2,I2,al,fun b hb=>(f2 b hb).1,w0⟩
 rintro n s3 ⟨i,σ3,H3,I3,ai,aj,w3⟩
 rcases ah i n σ3 H3 w3 with⟨ag,qn⟩|⟨go,N,hN,step⟩
 ·refine wpAny_passesOwn hp (thn (T.done X rfl rfl rfl hc i pins s3 σ3 H3 X.xe I3 (ae aj) ai ag) fun r s4 ⟨hr,I4⟩=>?_)
  subst hr
  exact wpAny_execs_nil ⟨σ3,H3,I4,qn⟩
 ·refine wpAny_passesOwn hp (thn (T.item X rfl rfl rfl hc i pins s3 σ3 H3 X.xe I3 (ae aj) ai go) fun r s4 ⟨u,hr,h4⟩=>?_)
  subst hr
  refine wpAny_passesOwn hp (thn h4 fun _ s5 ⟨x,H5,I5,r5,y5,af,ak⟩=>?_)
  have am:=I5.pinned (ae ak) (T.obj _ _ af)
  refine wpAny_passesOwn hp (thn (hg _ s5 σ3 H5 x u _ am r5 (step x H5 y5)) fun _ s6 ⟨σ6,H6,I6,q6⟩=>?_)
  refine wpAny_passesOwn hp (thn (hb _ s6 σ6 H6 _ I6 q6) fun f s7 q7=>?_)
  have ad:∀{σ7:St} {H7:Hp},Inv X (pins++zgn fp s5.heap) σ7 H7 s7→N σ7 H7→∃m,m<n∧∃i σ' H',Inv X pins σ' H' s7∧tn i s7.heap∧(∀b∈fp,H' b=none)∧W i m σ' H':=fun {σ7 H7} I7 n7=>by
   obtain⟨m',hm,w7⟩:=hN σ7 H7 n7
   refine⟨m',hm,i+1,σ7,H7,I7.unpinned,T.keep _ _ _ af fun b hb o e=>(I7.pin (b,o) (List.mem_append_right _ (List.mem_append_right _ (zdh hb e)))).1,fun b hb=>?_,w7⟩
   obtain⟨o,e,d⟩:=T.obj _ _ af b hb
   exact(I7.pin (b,o) (List.mem_append_right _ (List.mem_append_right _ (zdh hb e)))).2.1
  cases f with
  |next=>obtain⟨σ7,H7,I7,n7⟩:=q7;exact ad I7 n7
  |cont=>obtain⟨σ7,H7,I7,n7⟩:=q7;exact ad I7 n7
  |brk=>obtain⟨σ7,H7,I7,q7⟩:=q7;exact⟨σ7,H7,I7.unpinned,q7⟩
  |ret v=>obtain⟨x7,σ7,H7,I7,r7,q7⟩:=q7;exact⟨x7,σ7,H7,I7.unpinned,r7,q7⟩
end
theorem zh4{K:PySem.W.Frag}{a:Addr}{xs:List V}{g:TG}{tb:TS}{D:zjd}{σ:St}{H:Hp}(Pv:Nat→St→Hp→Prop)(h0:Pv 0 σ H)(hl:∀i σ H,i≤xs.length→Pv i σ H→SqL K H a xs)
  (hs:∀i x σ H,xs[i]?=some x→Pv i σ H→g x σ H fun σ2 H2=>tb { D with nx:=Pv (i+1),ct:=Pv (i+1),bk:=D.nx } σ2 H2) (hd:∀σ H,Pv xs.length σ H→D.nx σ H):
  ∃W:Nat→Nat→St→Hp→Prop,(∃m,W 0 m σ H)∧∀i m σ H,W i m σ H →
   ((Itl K a).stop i H∧D.nx σ H)∨((Itl K a).go i H∧∃N:St→Hp→Prop,(∀σ' H',N σ' H'→∃m',m'<m∧W (i+1) m' σ' H')∧∀x H',(Itl K a).yld i H x H'→g x σ H' fun σ2 H2=>tb { D with nx:=N,ct:=N,bk:=D.nx } σ2 H2):=by
 refine⟨fun i m σ H=>m=xs.length-i∧i≤xs.length∧Pv i σ H,⟨xs.length,by simp,Nat.zero_le _,h0⟩,?_⟩
 rintro i m σ H ⟨rfl,hi,p⟩
 have q:=hl i σ H hi p
 by_cases ad:i<xs.length
 ·refine .inr ⟨⟨xs,xs[i],q,by simp[ad]⟩,Pv (i+1),fun σ' H' p'=>⟨xs.length-(i+1),by omega,rfl,ad,p'⟩,fun x H' y=>?_⟩
  obtain⟨e,y⟩:=y
  subst e
  exact hs i x σ _ (y xs q) p
 ·have e:i=xs.length:=by omega
  subst e
  exact .inl ⟨⟨xs,q,Nat.le_refl _⟩,hd σ H p⟩
theorem zgx{K:PySem.W.Frag}{a:Addr}{xs:List V}{g:TG}{tb:TS}{D:zjd}{σ:St}{H:Hp}(Pv:Nat→St→Hp→Prop)(h0:Pv 0 σ H)(hl:∀i σ H,i≤xs.length→Pv i σ H→SqT K H a xs)
  (hs:∀i x σ H,xs[i]?=some x→Pv i σ H→g x σ H fun σ2 H2=>tb { D with nx:=Pv (i+1),ct:=Pv (i+1),bk:=D.nx } σ2 H2) (hd:∀σ H,Pv xs.length σ H→D.nx σ H):
  ∃W:Nat→Nat→St→Hp→Prop,(∃m,W 0 m σ H)∧∀i m σ H,W i m σ H →
   ((Itt K a).stop i H∧D.nx σ H)∨((Itt K a).go i H∧∃N:St→Hp→Prop,(∀σ' H',N σ' H'→∃m',m'<m∧W (i+1) m' σ' H')∧∀x H',(Itt K a).yld i H x H'→g x σ H' fun σ2 H2=>tb { D with nx:=N,ct:=N,bk:=D.nx } σ2 H2):=by
 refine⟨fun i m σ H=>m=xs.length-i∧i≤xs.length∧Pv i σ H,⟨xs.length,by simp,Nat.zero_le _,h0⟩,?_⟩
 rintro i m σ H ⟨rfl,hi,p⟩
 have q:=hl i σ H hi p
 by_cases ad:i<xs.length
 ·refine .inr ⟨⟨xs,xs[i],q,by simp[ad]⟩,Pv (i+1),fun σ' H' p'=>⟨xs.length-(i+1),by omega,rfl,ad,p'⟩,fun x H' y=>?_⟩
  obtain⟨e,y⟩:=y
  subst e
  exact hs i x σ _ (y xs q) p
 ·have e:i=xs.length:=by omega
  subst e
  exact .inl ⟨⟨xs,q,Nat.le_refl _⟩,hd σ H p⟩
theorem zlt{lo:Int}{n:Nat}{g:TG}{tb:TS}{D:zjd}{σ:St}{H:Hp}(Pv:Nat→St→Hp→Prop)(h0:Pv 0 σ H)
  (hs:∀i σ H,i<n→Pv i σ H→g (.int (lo+i)) σ H fun σ2 H2=>tb { D with nx:=Pv (i+1),ct:=Pv (i+1),bk:=D.nx } σ2 H2) (hd:∀σ H,Pv n σ H→D.nx σ H):
  ∃W:Nat→Nat→St→Hp→Prop,(∃m,W 0 m σ H)∧∀i m σ H,W i m σ H →
   ((Itr lo n).stop i H∧D.nx σ H)∨((Itr lo n).go i H∧∃N:St→Hp→Prop,(∀σ' H',N σ' H'→∃m',m'<m∧W (i+1) m' σ' H')∧∀x H',(Itr lo n).yld i H x H'→g x σ H' fun σ2 H2=>tb { D with nx:=N,ct:=N,bk:=D.nx } σ2 H2):=by
 refine⟨fun i m σ H=>m=n-i∧i≤n∧Pv i σ H,⟨n,by simp,Nat.zero_le _,h0⟩,?_⟩
 rintro i m σ H ⟨rfl,hi,p⟩
 by_cases ad:i<n
 ·refine .inr ⟨ad,Pv (i+1),fun σ' H' p'=>⟨n-(i+1),by omega,rfl,ad,p'⟩,fun x H' y=>?_⟩
  obtain⟨e,y⟩:=y
  subst e y
  exact hs i σ _ ad p
 ·have e:i=n:=by omega
  subst e
  exact .inl ⟨Nat.le_refl _,hd σ H p⟩
theorem zt3{c:TT}{tb:TS}{D:zjd}{σ:St}{H:Hp}(Pv:St→Hp→Prop)(μ:St→Hp→Nat)(h0:Pv σ H)
  (hs:∀σ H,Pv σ H→c σ H fun b H1=>if b=true then tb { D with nx:=fun σ' H'=>Pv σ' H'∧μ σ' H'<μ σ H,ct:=fun σ' H'=>Pv σ' H'∧μ σ' H'<μ σ H,bk:=D.nx } σ H1 else D.nx σ H1)
  (mono:∀σ H Q Q',(∀b H1,Q b H1→Q' b H1)→c σ H Q→c σ H Q'):zuj c tb D σ H:=by
 refine⟨fun m σ H=>m=μ σ H∧Pv σ H,⟨_,rfl,h0⟩,?_⟩
 rintro m σ H ⟨rfl,p⟩
 refine mono σ H _ _ (fun b H1 q=>?_) (hs σ H p)
 cases b with
 |true=>exact⟨_,fun σ' H' ⟨p',l⟩=>⟨_,l,rfl,p'⟩,q⟩
 |false=>exact q
abbrev R2:=V→V→Hp→VK→Prop
def OpR(X:Cx)(f:Value→Value→Sem Value)(r:R2):Prop:=
 ∀(pins:List (Addr×Obj))(s:Shared)(σ:St)(H:Hp)(x y:V)(v u:Value)(Q:VK),Inv X pins σ H s→RelV x v→RelV y u→r x y H Q →
  wpAny (model X.prog X.w) X.A (f v u) (EP X pins σ Q) X.xe s
def UnR(X:Cx)(f:Value→Sem Value)(r:V→Hp→VK→Prop):Prop:=
 ∀(pins:List (Addr×Obj))(s:Shared)(σ:St)(H:Hp)(x:V)(v:Value)(Q:VK),Inv X pins σ H s→RelV x v→r x H Q →
  wpAny (model X.prog X.w) X.A (f v) (EP X pins σ Q) X.xe s
def zcq(X:Cx)(f:Value)(r:List V→Hp→VK→Prop):Prop:=
 ∀(pins:List (Addr×Obj))(s:Shared)(σ:St)(H:Hp)(xs:List V)(us:List Value)(Q:VK),Inv X pins σ H s→Vals xs us→r xs H Q →
  wpAny (model X.prog X.w) X.A (call f us) (EP X pins σ Q) X.xe s
def tOp(r:R2)(ta tb:TE):TE:=fun σ H Q=>ta σ H fun x H1=>tb σ H1 fun y H2=>r x y H2 Q
def tUn(r:V→Hp→VK→Prop)(ta:TE):TE:=fun σ H Q=>ta σ H fun x H1=>r x H1 Q
def rI(C:Int→Int→Prop)(g:Int→Int→V):R2:=fun x y H Q=>∃i j,x=.int i∧y=.int j∧C i j∧Q (g i j) H
def rI0(g:Int→Int→V):R2:=fun x y H Q=>∃i j,x=.int i∧y=.int j∧Q (g i j) H
def rU(g:Int→V):V→Hp→VK→Prop:=fun x H Q=>∃i,x=.int i∧Q (g i) H
section
variable {X : Cx} {a b c : Expr} {ta tb tc : TE} {pos : Pos}
theorem zwx(ha:PE X a ta)(hb:PE X b tb){pins:List (Addr×Obj)}{s:Shared}{σ:St}{H:Hp}{R:V→V→Hp→Prop}(I:Inv X pins σ H s)
  (h:ta σ H fun x H1=>tb σ H1 fun y H2=>R x y H2) {Q:Value→Shared→Prop} {f:Value→Value→Sem Value}
  (hf:∀v u s2 x y H2,Inv X pins σ H2 s2→RelV x v→RelV y u→R x y H2→wpAny (model X.prog X.w) X.A (f v u) Q X.xe s2):
  wpAny (model X.prog X.w) X.A (eval a X.env) (fun v s₁=>wpAny (model X.prog X.w) X.A (eval b X.env) (fun u s₂=>wpAny (model X.prog X.w) X.A (f v u) Q X.xe s₂) X.xe s₁) X.xe s:=by
 refine thn (ha pins s σ H _ I h) fun v s1 ⟨x,H1,I1,r1,q1⟩=>?_
 refine thn (hb pins s1 σ H1 _ I1 q1) fun u s2 ⟨y,H2,I2,r2,q2⟩=>?_
 exact hf v u s2 x y H2 I2 r1 r2 q2
theorem za6{op:Operator}{r:R2}(ho:OpR X (binaryOp op) r)(ha:PE X a ta)(hb:PE X b tb):PE X (.BinOp a op b pos) (tOp r ta tb):=by
 intro pins s σ H Q I h
 exact wpAny_BinOp (zwx ha hb I h fun v u s2 x y H2 I2 rx ry q=>ho pins s2 σ H2 x y v u Q I2 rx ry q)
theorem zy5{op:UnaryOp}{r:V→Hp→VK→Prop}(ho:UnR X (unaryOp op) r)(ha:PE X a ta):PE X (.UnaryOp op a pos) (tUn r ta):=by
 intro pins s σ H Q I h
 exact UnaryOp_ (thn (ha pins s σ H _ I h) fun v s1 ⟨x,H1,I1,r1,q1⟩=>ho pins s1 σ H1 x v Q I1 r1 q1)
theorem opI{f:Value→Value→Sem Value}{C:Int→Int→Prop}{g:Int→Int→Int}
  (rule:∀(i j:Int)(t u:Tok)(s:Shared)(Q:Value→Shared→Prop)(E:Value→Shared→Prop),C i j→Q (.int (g i j) s.toks) { s with toks:=s.toks+1 }→wpAny (model X.prog X.w) X.A (f (.int i t) (.int j u)) Q E s):
  OpR X f (rI C fun i j=>.int (g i j)):=by
 intro pins s σ H x y v u Q I rx ry h
 obtain⟨i,j,rfl,rfl,hc,q⟩:=h
 obtain⟨t,rfl⟩:=rx
 obtain⟨t',rfl⟩:=ry
 exact rule i j t t' s _ _ hc ⟨.int (g i j),H,I.tok _,⟨_,rfl⟩,q⟩
theorem zu9{f:Value→Value→Sem Value}{g:Int→Int→Int}
  (rule:∀(i j:Int)(t u:Tok)(s:Shared)(Q:Value→Shared→Prop)(E:Value→Shared→Prop),Q (.int (g i j) s.toks) { s with toks:=s.toks+1 }→wpAny (model X.prog X.w) X.A (f (.int i t) (.int j u)) Q E s):
  OpR X f (rI0 fun i j=>.int (g i j)):=by
 intro pins s σ H x y v u Q I rx ry h
 obtain⟨i,j,rfl,rfl,q⟩:=h
 obtain⟨t,rfl⟩:=rx
 obtain⟨t',rfl⟩:=ry
 exact rule i j t t' s _ _ ⟨.int (g i j),H,I.tok _,⟨_,rfl⟩,q⟩
theorem zvr{f:Value→Value→Sem Value}{g:Int→Int→Bool}
  (rule:∀(i j:Int)(t u:Tok)(s:Shared)(Q:Value→Shared→Prop)(E:Value→Shared→Prop),Q (.bool (g i j)) s→wpAny (model X.prog X.w) X.A (f (.int i t) (.int j u)) Q E s):
  OpR X f (rI0 fun i j=>.bl (g i j)):=by
 intro pins s σ H x y v u Q I rx ry h
 obtain⟨i,j,rfl,rfl,q⟩:=h
 obtain⟨t,rfl⟩:=rx
 obtain⟨t',rfl⟩:=ry
 exact rule i j t t' s _ _ ⟨.bl (g i j),H,I,rfl,q⟩
def zx0(i j:Int):Prop:=0<j∧j<1073741824
def zy0(i j:Int):Prop:=0≤j∧j≤1000000∧i.natAbs<2^64
def CMul(i j:Int):Prop:=(-(2^64)<i∧i<2^64)∨(-(2^64)<j∧j<2^64)
theorem CMul.ok{i j:Int}(h:CMul i j):IntMulOk i j:=by
 rcases h with⟨h1,h2⟩|⟨h1,h2⟩
 ·exact .of_left (intBits_le_64 h1 h2)
 ·exact .of_right (intBits_le_64 h1 h2)
theorem two_pow_nn(k:Nat):(0:Int)≤2^k:=by
 rw[two_pow_cast]
 exact Int.natCast_nonneg _
theorem zca:OpR X (binaryOp .Add) (rI0 fun i j=>.int (i+j)):=zu9 fun _ _ _ _ _ _ _ q=>add_int q
theorem zge:OpR X (binaryOp .Sub) (rI0 fun i j=>.int (i-j)):=zu9 fun _ _ _ _ _ _ _ q=>sub_int q
theorem zf4:OpR X (binaryOp .Mult) (rI CMul fun i j=>.int (i*j)):=opI fun _ _ _ _ _ _ _ hc q=>mul_int q hc.ok
theorem zuz:OpR X (binaryOp .FloorDiv) (rI zx0 fun i j=>.int (i/j)):=opI fun i j _ _ _ _ _ hc q=>by
 have h1:(0:Int)<j:=hc.1
 have h2:j<1073741824:=hc.2
 exact floordiv_int (by omega) (by rw[Int.fdiv_eq_ediv_of_nonneg i (by omega)];exact q) (.inl (PyProof.noPylong_small (by omega)))
theorem zhl:OpR X (binaryOp .Mod) (rI (fun _ j=>0<j) fun i j=>.int (i%j)):=opI fun i j _ _ _ _ _ hc q=>by
 have h1:(0:Int)<j:=hc
 exact mod_int' (by omega) (by rw[Int.fmod_eq_emod_of_nonneg i (by omega)];exact q)
theorem zxg:OpR X (binaryOp .Pow) (rI zy0 fun i j=>.int (i^j.toNat)):=opI fun _ _ _ _ _ _ _ hc q=>pow_int_small hc.1 hc.2.1 hc.2.2 q
theorem ztd:OpR X (binaryOp .LShift) (rI zy0 fun i j=>.int (i*2^j.toNat)):=opI fun _ _ _ _ _ _ _ hc q=>lshift_int_small hc.1 hc.2.1 hc.2.2 q
theorem zxh:OpR X (binaryOp .RShift) (rI (fun _ j=>0≤j) fun i j=>.int (i/2^j.toNat)):=opI fun i j _ _ _ _ _ hc q=>
 rshift_int hc (by rw[Int.fdiv_eq_ediv_of_nonneg i (two_pow_nn _)];exact q)
theorem zwn:OpR X (binaryOp .BitAnd) (rI0 fun i j=>.int (Builtin.bitAnd i j)):=zu9 fun _ _ _ _ _ _ _ q=>and_int q
theorem zwc:OpR X (binaryOp .BitOr) (rI0 fun i j=>.int (Builtin.bitOr i j)):=zu9 fun _ _ _ _ _ _ _ q=>or_int q
theorem unI{f:Value→Sem Value}{g:Int→Int}
  (rule:∀(i:Int)(t:Tok)(s:Shared)(Q:Value→Shared→Prop)(E:Value→Shared→Prop),Q (.int (g i) s.toks) { s with toks:=s.toks+1 }→wpAny (model X.prog X.w) X.A (f (.int i t)) Q E s):
  UnR X f (rU fun i=>.int (g i)):=by
 intro pins s σ H x v Q I rx h
 obtain⟨i,rfl,q⟩:=h
 obtain⟨t,rfl⟩:=rx
 exact rule i t s _ _ ⟨.int (g i),H,I.tok _,⟨_,rfl⟩,q⟩
theorem zw1:UnR X (unaryOp .USub) (rU fun i=>.int (-i)):=unI fun _ _ _ _ _ q=>neg_int q
end
def zyg:V→V→Bool
 |.non,.non=>true|.non,.int _=>true|.int _,.non=>true|.non,.bl _=>true|.bl _,.non=>true|.non,.str _=>true|.str _,.non=>true
 |.int _,.int _=>true|.bl _,.bl _=>true|.str _,.str _=>true|.byt _,.byt _=>true
 |.int _,.str _=>true|.str _,.int _=>true|.bl _,.str _=>true|.str _,.bl _=>true
 |_,_=>false
def rEq:R2:=fun x y H Q=>zyg x y=true∧Q (.bl (decide (x=y))) H
def rNe:R2:=fun x y H Q=>zyg x y=true∧Q (.bl (!decide (x=y))) H
theorem zfq{i j:Int}:decide (V.int i=V.int j)=(i==j):=by
 rw[Bool.eq_iff_iff]
 simp
theorem zub{i j:Bool}:decide (V.bl i=V.bl j)=(i==j):=by
 rw[Bool.eq_iff_iff]
 simp
theorem zqx{i j:Str}:decide (V.str i=V.str j)=(i==j):=by
 rw[Bool.eq_iff_iff]
 simp
theorem zq4{i j:Array UInt8}:decide (V.byt i=V.byt j)=(i.toList==j.toList):=by
 rw[Bool.eq_iff_iff]
 cases i
 cases j
 simp
section
variable {X : Cx} {a b c : Expr} {ta tb tc : TE} {pos : Pos}
theorem zbg{pins:List (Addr×Obj)}{σ:St}{H:Hp}{s:Shared}{Q:VK}{k k':Bool}(I:Inv X pins σ H s)(q:Q (.bl k) H)(e:k=k'):EP X pins σ Q (.bool k') s:=by
 subst e
 exact⟨.bl k,H,I,rfl,q⟩
theorem zbp:OpR X (compareOp .Eq) rEq:=by
 intro pins s σ H x y v u Q I rx ry h
 obtain⟨hs,q⟩:=h
 cases x with
 |non=>
  cases rx
  cases y with
  |non=>cases ry;exact PySem.EqNone.eq_none_none (zbg I q (by simp))
  |bl j=>cases ry;exact PySem.EqNone.eq_none_bool (zbg I q (by simp))
  |int j=>obtain⟨t',rfl⟩:=ry;exact PySem.EqNone.eq_none_int (zbg I q (by simp))
  |str j=>obtain⟨t',rfl⟩:=ry;exact PySem.EqNone.eq_none_str (zbg I q (by simp))
  |_=>exact absurd (show false=true from hs) Bool.false_ne_true
 |bl i=>
  cases rx
  cases y with
  |non=>cases ry;exact PySem.EqNone.eq_bool_none (zbg I q (by simp))
  |bl j=>cases ry;exact eq_bool (zbg I q zub)
  |str j=>obtain⟨t',rfl⟩:=ry;exact PySem.EqMixed.eq_bool_str (zbg I q (by simp))
  |_=>exact absurd (show false=true from hs) Bool.false_ne_true
 |int i=>
  obtain⟨t,rfl⟩:=rx
  cases y with
  |non=>cases ry;exact PySem.EqNone.eq_int_none (zbg I q (by simp))
  |int j=>obtain⟨t',rfl⟩:=ry;exact eq_int (zbg I q zfq)
  |str j=>obtain⟨t',rfl⟩:=ry;exact PySem.EqMixed.eq_int_str (zbg I q (by simp))
  |_=>exact absurd (show false=true from hs) Bool.false_ne_true
 |str i=>
  obtain⟨t,rfl⟩:=rx
  cases y with
  |non=>cases ry;exact PySem.EqNone.eq_str_none (zbg I q (by simp))
  |bl j=>cases ry;exact PySem.EqMixed.eq_str_bool (zbg I q (by simp))
  |int j=>obtain⟨t',rfl⟩:=ry;exact PySem.EqMixed.eq_str_int (zbg I q (by simp))
  |str j=>obtain⟨t',rfl⟩:=ry;exact eq_str (zbg I q zqx)
  |_=>exact absurd (show false=true from hs) Bool.false_ne_true
 |byt i=>
  obtain⟨t,rfl⟩:=rx
  cases y with
  |byt j=>obtain⟨t',rfl⟩:=ry;exact PySem.W.eq_bytes (zbg I q zq4)
  |_=>exact absurd (show false=true from hs) Bool.false_ne_true
 |_=>cases y<;>exact absurd (show false=true from hs) Bool.false_ne_true
theorem zqn:OpR X (compareOp .NotEq) rNe:=by
 intro pins s σ H x y v u Q I rx ry h
 obtain⟨hs,q⟩:=h
 cases x with
 |non=>
  cases rx
  cases y with
  |non=>cases ry;exact PySem.EqNone.ne_none_none (zbg I q (by simp))
  |bl j=>cases ry;exact PySem.EqNone.ne_none_bool (zbg I q (by simp))
  |int j=>obtain⟨t',rfl⟩:=ry;exact PySem.EqNone.ne_none_int (zbg I q (by simp))
  |str j=>obtain⟨t',rfl⟩:=ry;exact PySem.EqNone.ne_none_str (zbg I q (by simp))
  |_=>exact absurd (show false=true from hs) Bool.false_ne_true
 |bl i=>
  cases rx
  cases y with
  |non=>cases ry;exact PySem.EqNone.ne_bool_none (zbg I q (by simp))
  |bl j=>cases ry;exact ne_bool (zbg I q (congrArg not zub))
  |str j=>obtain⟨t',rfl⟩:=ry;exact PySem.EqMixed.ne_bool_str (zbg I q (by simp))
  |_=>exact absurd (show false=true from hs) Bool.false_ne_true
 |int i=>
  obtain⟨t,rfl⟩:=rx
  cases y with
  |non=>cases ry;exact PySem.EqNone.ne_int_none (zbg I q (by simp))
  |int j=>obtain⟨t',rfl⟩:=ry;exact ne_int (zbg I q (congrArg not zfq))
  |str j=>obtain⟨t',rfl⟩:=ry;exact PySem.EqMixed.ne_int_str (zbg I q (by simp))
  |_=>exact absurd (show false=true from hs) Bool.false_ne_true
 |str i=>
  obtain⟨t,rfl⟩:=rx
  cases y with
  |non=>cases ry;exact PySem.EqNone.ne_str_none (zbg I q (by simp))
  |bl j=>cases ry;exact PySem.EqMixed.ne_str_bool (zbg I q (by simp))
  |int j=>obtain⟨t',rfl⟩:=ry;exact PySem.EqMixed.ne_str_int (zbg I q (by simp))
  |str j=>obtain⟨t',rfl⟩:=ry;exact ne_str (zbg I q (congrArg not zqx))
  |_=>exact absurd (show false=true from hs) Bool.false_ne_true
 |byt i=>
  obtain⟨t,rfl⟩:=rx
  cases y with
  |byt j=>obtain⟨t',rfl⟩:=ry;exact PySem.W.ne_bytes (zbg I q (congrArg not zq4))
  |_=>exact absurd (show false=true from hs) Bool.false_ne_true
 |_=>cases y<;>exact absurd (show false=true from hs) Bool.false_ne_true
theorem zo5:OpR X (compareOp .Lt) (rI0 fun i j=>.bl (decide (i<j))):=zvr fun _ _ _ _ _ _ _ q=>lt_int q
theorem zjr:OpR X (compareOp .LtE) (rI0 fun i j=>.bl (decide (i≤j))):=zvr fun _ _ _ _ _ _ _ q=>le_int q
theorem ze7:OpR X (compareOp .Gt) (rI0 fun i j=>.bl (decide (j<i))):=zvr fun _ _ _ _ _ _ _ q=>gt_int q
theorem zyx:OpR X (compareOp .GtE) (rI0 fun i j=>.bl (decide (j≤i))):=zvr fun _ _ _ _ _ _ _ q=>ge_int q
theorem zxi:OpR X (compareOp .Is) (fun x y H Q=>y=.non∧Q (.bl (decide (x=.non))) H):=by
 intro pins s σ H x y v u Q I rx ry h
 obtain⟨rfl,q⟩:=h
 cases ry
 refine is_none_gen (zbg I q ?_)
 cases x<;>first
  |(cases rx;rfl)
  |(obtain⟨t,rfl⟩:=rx;rfl)
theorem zqq:OpR X (compareOp .IsNot) (fun x y H Q=>y=.non∧Q (.bl (!decide (x=.non))) H):=by
 intro pins s σ H x y v u Q I rx ry h
 obtain⟨rfl,q⟩:=h
 cases ry
 refine isnot_none_gen (zbg I q ?_)
 cases x<;>first
  |(cases rx;rfl)
  |(obtain⟨t,rfl⟩:=rx;rfl)
theorem zav(b:Expr){op:CmpOp}(h:op≠.In:=by decide)(h2:op≠.NotIn:=by decide):behindInMarks op b=false:=by
 have e1:(op==CmpOp.In)=false:=by cases op<;>first|rfl|exact absurd rfl h
 have e2:(op==CmpOp.NotIn)=false:=by cases op<;>first|rfl|exact absurd rfl h2
 cases b<;>simp[behindInMarks,e1,e2]
theorem zb2{op:CmpOp}{r:R2}(ho:OpR X (compareOp op) r)(ha:PE X a ta)(hb:PE X b tb)(hm:behindInMarks op b=false):PE X (.Compare a [op] [b] pos) (tOp r ta tb):=by
 intro pins s σ H Q I h
 exact wpAny_Compare1 (zwx ha hb I h fun v u s2 x y H2 I2 rx ry q=>ho pins s2 σ H2 x y v u Q I2 rx ry q) hm
def zym(t:TE):TT:=fun σ H Q=>t σ H fun x H'=>∃k,x=.bl k∧Q k H'
theorem zar{op:CmpOp}{r:R2}(ho:OpR X (compareOp op) r)(ha:PE X a ta)(hb:PE X b tb)(hm:behindInMarks op b=false):PT X (.Compare a [op] [b] pos) (zym (tOp r ta tb)):=by
 intro pins s σ H Q I h
 refine wpAny_isTrue_Compare1 (thn (ha pins s σ H _ I h) fun v s1 ⟨x,H1,I1,r1,q1⟩=>thn (hb pins s1 σ H1 _ I1 q1) fun u s2 ⟨y,H2,I2,r2,q2⟩=>
  thn (ho pins s2 σ H2 x y v u _ I2 r1 r2 q2) fun c s3 ⟨z,H3,I3,r3,k,e,q3⟩=>?_) hm
 subst e
 cases r3
 exact wpAny_truthy_bool ⟨H3,I3,q3⟩
def zw7(r r':R2)(ta tb tc:TE):TE:=fun σ H Q=>ta σ H fun x H1=>tb σ H1 fun y H2=>r x y H2 fun z H3=>∃k,z=.bl k ∧
 (if k=true then tc σ H3 fun w' H4=>r' y w' H4 Q else Q (.bl false) H3)
theorem zns{op op':CmpOp}{r r':R2}(ho:OpR X (compareOp op) r)(ho':OpR X (compareOp op') r')(ha:PE X a ta)(hb:PE X b tb)(hc:PE X c tc)
  (hm:lastMarks [op,op'] [b,c]=false:=by with_unfolding_all rfl):PE X (.Compare a [op,op'] [b,c] pos) (zw7 r r' ta tb tc):=by
 intro pins s σ H Q I h
 refine Compare_chain (thn (ha pins s σ H _ I h) fun v s1 ⟨x,H1,I1,r1,q1⟩=>chain_link (thn (hb pins s1 σ H1 _ I1 q1) fun u s2 ⟨y,H2,I2,r2,q2⟩=>
  thn (ho pins s2 σ H2 x y v u _ I2 r1 r2 q2) fun d s3 ⟨z,H3,I3,r3,k,e,q3⟩=>?_)) hm
 subst e
 cases r3
 refine wpAny_truthy_bool ?_
 cases k with
 |false=>exact ite_ff ⟨.bl false,H3,I3,rfl,q3⟩
 |true=>exact ite_tt (chain_last (thn (hc pins s3 σ H3 _ I3 q3) fun w' s4 ⟨z',H4,I4,r4,q4⟩=>ho' pins s4 σ H4 y z' u w' Q I4 r2 r4 q4))
theorem zik:(sizeLine:Nat)<2^63:=by rw[sizeLine_eq];decide
theorem zer{x:V}{us:List Value}(r:Vals [x] us):∃u,us=[u]∧RelV x u:=by
 cases r with
 |cons r1 r2=>cases r2;exact⟨_,rfl,r1⟩
theorem zq3{x y:V}{us:List Value}(r:Vals [x,y] us):∃u w',us=[u,w']∧RelV x u∧RelV y w':=by
 cases r with
 |cons r1 r2=>
  cases r2 with
  |cons r3 r4=>cases r4;exact⟨_,_,rfl,r1,r3⟩
theorem zlr:zcq X (.type "int") (fun xs H Q=>(∃i,xs=[.int i]∧Q (.int i) H)∨∃k,xs=[.bl k]∧Q (.int (if k then 1 else 0)) H):=by
 intro pins s σ H xs us Q I r h
 rcases h with⟨i,rfl,q⟩|⟨k,rfl,q⟩
 ·obtain⟨u,rfl,t,rfl⟩:=zer r
  exact call_int_int ⟨.int i,H,I,⟨_,rfl⟩,q⟩
 ·obtain⟨u,rfl,r1⟩:=zer r
  cases r1
  exact call_int_bool ⟨.int (if k then 1 else 0),H,I.tok _,⟨_,rfl⟩,q⟩
end
structure ObjM(h:Heap)(x dx C:Addr)(mA:Str→Option Value):Prop where
 obj:h.get? x=some (PySem.W.instObj C dx)
 ns:h.Ns1 dx mA
 ne:dx≠x
theorem zrw{h:Heap}{dx:Addr}{mA:Str→Option Value}(n:h.Ns1 dx mA):∃od,h.get? dx=some od∧∀name,PySem.W.lookIn name od=some (mA name):=by
 obtain⟨o,es,ep,ho,hd,hk,_,hm⟩:=n
 refine⟨o,ho,fun name=>?_⟩
 have e:=hm name
 unfold nsFind findBy at e
 rw[←Array.find?_toList] at e
 unfold PySem.W.lookIn
 rw[hd]
 dsimp only
 split
 ·rename_i y q
  rw[q] at e
  exact congrArg some e
 ·rename_i q
  rw[q] at e
  have a:es.toList.any (·.refKey)=false:=by
   rw[List.any_eq_false]
   intro y hy
   obtain⟨z,t,ad⟩:=hk y (Array.mem_toList_iff.mp hy)
   simp[DictEntry.refKey,ad]
  have a':¬es.toList.any (·.refKey)=true:=by rw[a];exact Bool.false_ne_true
  rw[if_neg a']
  exact congrArg some e
theorem ObjM.look{h:Heap}{x dx C:Addr}{mA:Str→Option Value}(I:ObjM h x dx C mA):∃od,PySem.W.InstAt h x (PySem.W.instObj C dx) C (some od)∧∀name,PySem.W.lookIn name od=some (mA name):=
 let ⟨od,ho,hl⟩:=zrw I.ns
 ⟨od,⟨I.obj,rfl,rfl,ho⟩,hl⟩
section
variable {P : Program} {w : World} {H H' : Hp} {h h' : Heap} {a C dx : Addr} {fs fs' : List (Str × V)}
theorem zuy(hok:HOk P w H h)(e:H a=some (.ins C dx fs)):∃mA,ObjM h a dx C mA∧(∀f,zw0 (fs.lookup f) (mA f))∧PySem.Within mA (fs.map (·.1))∧fs.length≤1000∧H dx=some (.own a):=by
 obtain⟨d,z,ne,ob,mA,n,r,q⟩:=(show ObjOk P w H h a (.ins C dx fs) from hok a _ e)
 exact⟨mA,⟨ob,n,ne⟩,r,q,z,d⟩
end
structure Cls(K:PySem.W.Frag)(C:Addr):Prop where
 pg:PySem.W.plainGet K C Str.empty=true
 hd:PySem.W.hasDictIn K C=true
 po:PySem.W.plainOver K C=true
 sa:PySem.W.findIn K (.ref C) "__setattr__" = some (some (.builtin "object.__setattr__"))
theorem Cls.get{K:PySem.W.Frag}{C:Addr}(c:Cls K C)(f:Str):PySem.W.plainGet K C f=true:=c.pg
section
variable {X : Cx} {pins : List (Addr × Obj)} {σ : St} {H : Hp} {s : Shared} {A : Around} {E : Value → Shared → Prop} {Q : Value → Shared → Prop} {c : Value} {b : Bool}
inductive zhe (K:PySem.W.Frag) (H:Hp):V→Value→Prop where
 |non:zhe K H .non (.type "NoneType")
 |bl (x:Bool):zhe K H (.bl x) (.type "bool")
 |int (i:Int):zhe K H (.int i) (.type "int")
 |str (x:Str):zhe K H (.str x) (.type "str")
 |flt (x:UInt64):zhe K H (.flt x) (.type "float")
 |lst {a:Addr} {xs:List V} (e:H a=some (.lst xs)):zhe K H (.ref a) (.type "list")
 |frz {a:Addr} {o:Obj} {xs:List V} (e:H a=some (.frz o (.lst xs))):zhe K H (.ref a) (.type "list")
 |tup {a:Addr} {xs:List V} (e:H a=some (.tup xs)):zhe K H (.ref a) (.type "tuple")
 |dK {a:Addr} {kvs:List (Key×V)} (e:H a=some (.dK kvs)):zhe K H (.ref a) (.type "dict")
 |dT {a:Addr} {kvs:List (List Key×V)} (e:H a=some (.dT kvs)):zhe K H (.ref a) (.type "dict")
 |ins {a C dx:Addr} {fs:List (Str×V)} (e:H a=some (.ins C dx fs)) (cl:Cls K C) (ha:PySem.W.findIn K (.ref C) "__class__" = some (some (.builtin "object.__class__")))
   (hn:PySem.W.specialIn K (.builtin "object.__class__") "__get__" = some (some (.builtin "getset_descriptor.__get__"))) (htk:PySem.W.takesIn K (.builtin "object.__class__")=some true)
   (hm:PySem.W.mroIn K C (.type "object")=some true):zhe K H (.ref a) (.ref C)
theorem zri{x:V}{u t:Value}(I:Inv X pins σ H s)(rx:RelV x u)(ty:zhe X.K H x t)(e:PySem.W.kitOne X.K t c=some b)(h:∀tk,Q (.bool b) { s with toks:=tk }):
  wpAny (model X.prog X.w) A (call (.builtin "isinstance") [u,c]) Q E s:=by
 cases ty with
 |non=>cases(show u=Value.none from rx);exact PySem.W.kia_one PySem.W.kitx_none I.kIn True.intro e (fun z=>nomatch z) h
 |bl y=>cases(show u=Value.bool y from rx);exact PySem.W.kia_one PySem.W.kitx_bool I.kIn True.intro e (fun z=>nomatch z) h
 |int i=>obtain⟨t,q⟩:=(show ∃t,u=Value.int i t from rx);cases q;exact PySem.W.kia_one PySem.W.kitx_int I.kIn True.intro e (fun z=>nomatch z) h
 |str y=>obtain⟨t,q⟩:=(show ∃t,u=Value.str y t from rx);cases q;exact PySem.W.kia_one PySem.W.kitx_str I.kIn True.intro e (fun z=>nomatch z) h
 |flt y=>obtain⟨t,q⟩:=(show ∃t,u=Value.float y t from rx);cases q;exact PySem.W.kia_one PySem.W.kitx_float I.kIn True.intro e (fun z=>nomatch z) h
 |@lst a xs ea=>
  cases(show u=Value.ref a from rx)
  obtain⟨_,_,n,_,h1⟩:=(show ObjOk X.prog X.w H s.heap a (.lst xs) from I.hok a _ ea)
  exact PySem.W.kia_one PySem.W.kitx_list I.kIn ⟨_,h1,rfl⟩ e (fun z=>nomatch z) h
 |@frz a ob xs ea=>
  cases(show u=Value.ref a from rx)
  obtain⟨_,_,_,n,_,h1⟩:=(show ObjOk X.prog X.w H s.heap a (.frz ob (.lst xs)) from I.hok a _ ea)
  exact PySem.W.kia_one PySem.W.kitx_list I.kIn ⟨_,h1,rfl⟩ e (fun z=>nomatch z) h
 |@tup a xs ea=>
  cases(show u=Value.ref a from rx)
  obtain⟨_,_,_,p⟩:=(show ObjOk X.prog X.w H s.heap a (.tup xs) from I.hok a _ ea)
  obtain⟨o,h1,h2,_⟩:=p
  exact PySem.W.kia_one PySem.W.kitx_tuple I.kIn ⟨o,h1,h2⟩ e (fun z=>nomatch z) h
 |@dK a kvs ea=>
  cases(show u=Value.ref a from rx)
  obtain⟨_,_,vs,_,p⟩:=(show ObjOk X.prog X.w H s.heap a (.dK kvs) from I.hok a _ ea)
  obtain⟨o,es,ep,h1,h2,_⟩:=p
  exact PySem.W.kia_one PySem.W.kitx_dict I.kIn ⟨o,h1,h2.1⟩ e (fun z=>nomatch z) h
 |@dT a kvs ea=>
  cases(show u=Value.ref a from rx)
  obtain⟨_,_,xs,_,o,es,ep,h1,h2,_⟩:=(show ObjOk X.prog X.w H s.heap a (.dT kvs) from I.hok a _ ea)
  exact PySem.W.kia_one PySem.W.kitx_dict I.kIn ⟨o,h1,h2.1⟩ e (fun z=>nomatch z) h
 |@ins a C dx fs ea cl ha hn htk hm=>
  cases(show u=Value.ref a from rx)
  obtain⟨mA,O,_⟩:=zuy I.hok ea
  obtain⟨od,J,_⟩:=O.look
  exact PySem.W.kia_one (PySem.W.kitx_own (cl.get _) cl.hd ha hn htk hm) I.kIn J e (fun z=>nomatch z) h
end
structure Room(k:Nat)(A:Around):Prop where
 hd:A.handled=none
 dp:A.depth+3*k+5<recursionLimit
 un:A.units+16*k+200<cLine
theorem Room.mono{j k:Nat}{A:Around}(r:Room k A)(h:j≤k):Room j A:=⟨r.hd,by have:=r.dp;omega,by have:=r.un;omega⟩
theorem Room.deeper{k:Nat}{A:Around}(r:Room (k+1) A)(env:Env):Room k (A.deeper env):=
 ⟨r.hd,by have:=r.dp;show A.depth+1+3*k+5<_;omega,by have:=r.un;show A.units+3+16*k+200<_;omega⟩
theorem Room.depth{k:Nat}{A:Around}(r:Room k A):A.depth<recursionLimit:=by have:=r.dp;omega
theorem Room.units{k:Nat}{A:Around}(r:Room k A):A.units+64<cLine:=by have:=r.un;omega
def zyn:TA:=fun _ H Q=>Q [] H
def ztx(ta:TE)(tr:TA):TA:=fun σ H Q=>ta σ H fun x H1=>tr σ H1 fun xs H2=>Q (x::xs) H2
section
variable {X : Cx} {e : Expr} {es : List Expr} {te : TE} {t : TA} {pos : Pos}
theorem zab:PA X [] zyn:=fun _ _ _ _ H Q I h=>Calls.spliced_nil ⟨[],H,I,.nil,h⟩
theorem zaa(ha:PE X e te)(hr:PA X es t)(hs:starEach (e::es) X.env=(false,eval e X.env)::starEach es X.env:=by rfl):PA X (e::es) (ztx te t):=by
 intro pos pins s σ H Q I h
 rw[hs]
 show wpAny _ _ (spliced ((false,eval e X.env)::backTo pos (starEach es X.env))) _ _ s
 refine Calls.spliced_cons (thn (ha pins s σ H _ I h) fun u s1 ⟨x,H1,I1,r1,q1⟩=>?_)
 exact thn (hr pos pins s1 σ H1 _ I1 q1) fun us s2 ⟨xs,H2,I2,r2,q2⟩=>⟨x::xs,H2,I2,.cons r1 r2,q2⟩
def zy9(t:TA):TE:=fun σ H Q=>t σ H fun xs H1=>xs.length≤sizeLine∧∀p,H1 p=none→Q (.ref p) (upd H1 p (.tup xs))
def zy8(t:TA):TE:=fun σ H Q=>t σ H fun xs H1=>xs.length≤sizeLine∧∀p,H1 p=none→Q (.ref p) (upd H1 p (.lst xs))
theorem zbc{x1}(h:PA X es t):PE X (.Tuple es x1 pos) (zy9 t):=by
 intro pins s σ H Q I hq
 refine wpAny_Tuple_spliced (thn (h pos pins s σ H _ I hq) fun us s1 ⟨xs,H1,I1,r,z,q⟩=>⟨by rw[←r.length];exact z,?_⟩)
 have hf:H1 s1.heap.objs.size=none:=I1.hok.fresh (Nat.le_refl _)
 refine⟨.ref s1.heap.objs.size,upd H1 s1.heap.objs.size (.tup xs),I1.laid (t':=s1.toks) (fun b u e=>Heap.get?_push_of_some _ e) (Nat.le_refl _) ?_,rfl,q _ hf⟩
 exact⟨z,us,r,⟨_,Heap.get?_push_size _ rfl,rfl,_,rfl⟩⟩
theorem zb1(h:PA X es t):PE X (.List es pos) (zy8 t):=by
 intro pins s σ H Q I hq
 refine wpAny_List_spliced (thn (h pos pins s σ H _ I hq) fun us s1 ⟨xs,H1,I1,r,z,q⟩=>⟨by rw[←r.length];exact z,?_⟩)
 have hf:H1 s1.heap.objs.size=none:=I1.hok.fresh (Nat.le_refl _)
 refine⟨.ref s1.heap.objs.size,upd H1 s1.heap.objs.size (.lst xs),I1.laid (t':=s1.toks) (fun b u e=>Heap.get?_push_of_some _ e) (Nat.le_refl _) ?_,rfl,q _ hf⟩
 exact⟨z,us,0,r,Heap.get?_push_size _ rfl⟩
end
abbrev Sp:=List V→Hp→VK→XK→Prop
abbrev CXT:=List Env→Hp→Shared→XK→Value→Shared→Prop
structure zs0(P:Program)(w:World)(K:PySem.W.Frag)(mg:Str→Option Value)(base:Heap)(A:Around)(outer:List Env)(s:Shared)(H:Hp):Prop where
 frames:A.frames=some outer
 mod:Mod K mg base
 bs:∀b o,base.get? b=some o→s.heap.get? b=some o∧H b=none
 bsz:base.objs.size≤s.heap.objs.size
 funs:s.heap.FunFrames base outer
 frf:∀b∈frs outer,H b=none
 hok:HOk P w H s.heap
 bare:AllBare s.gens
def CE(outer:List Env)(P:Program)(w:World)(H:Hp)(s:Shared)(Q:VK)(u:Value)(s':Shared):Prop:=
 ∃v H',s'.os=s.os∧AllBare s'.gens∧Un (frs outer) [] H H' s.heap s'.heap∧HOk P w H' s'.heap∧RelV v u∧Q v H'
def CR(CX:CXT)(outer:List Env)(P:Program)(w:World)(H:Hp)(s:Shared)(Q:VK)(E:XK)(r:Result)(s':Shared):Prop:=
 match r with
 |.ok (.ret u)=>CE outer P w H s Q u s'
 |.ok _=>False
 |.error e=>CX outer H s E e s'
structure FnOk(P:Program)(w:World)(K:PySem.W.Frag)(mg:Str→Option Value)(base:Heap)(CX:CXT)(k:Nat)(f:Addr)(fd:FuncData)(ps:List Str)(sp:Sp):Prop where
 len:∀vs H Q E,sp vs H Q E→vs.length=ps.length
 run:∀(A:Around)(outer:List Env)(s:Shared)(H:Hp)(args:Args)(us:List Value)(vs:List V)(Q:VK)(E:XK),Room k A→zs0 P w K mg base A outer s H→BindsTo s fd args (ps.zip us)→Vals vs us→sp vs H Q E →
  codeAny (model P w) A (.call (.ref f) args) (CR CX outer P w H s Q E) s
theorem FnOk.imp{P:Program}{w:World}{K:PySem.W.Frag}{mg:Str→Option Value}{base:Heap}{CX:CXT}{k:Nat}{f:Addr}{fd:FuncData}{ps:List Str}{sp sp':Sp}(F:FnOk P w K mg base CX k f fd ps sp)
  (h:∀vs H Q E,sp' vs H Q E→sp vs H Q E):FnOk P w K mg base CX k f fd ps sp':=
 ⟨fun vs H Q E q=>F.len vs H Q E (h _ _ _ _ q),fun A outer s H args us vs Q E hr he hb hv hs=>F.run A outer s H args us vs Q E hr he hb hv (h _ _ _ _ hs)⟩
section
variable {X : Cx} {pins : List (Addr × Obj)} {σ : St} {H : Hp} {s s' : Shared}
theorem Inv.env0(I:Inv X pins σ H s):zs0 X.prog X.w X.K X.mg X.base X.A X.stack s H:=
 ⟨I.ok.frames,I.ok.mod,I.bs,Nat.le_trans I.ok.bsz I.sz,I.stack,I.stkFree,I.hok,I.bare⟩
theorem Inv.after{Q:VK}{u:Value}(I:Inv X pins σ H s)(h:CE X.stack X.prog X.w H s Q u s'):EP X pins σ Q u s':=by
 obtain⟨v,H',os,ad,un,af,r,q⟩:=h
 obtain⟨hh,g,d,t,ae⟩:=s'
 obtain rfl:ae=s.os:=os
 exact⟨v,H',I.call (h':=hh) (g':=g) (d':=d) (t':=t) (ch:=[]) un af ad (fun b z=>absurd z (by simp)),r,q⟩
end
def zuc(sp:Sp)(dvs:List V)(E:XK)(t:TA):TE:=fun σ H Q=>t σ H fun vs H1=>sp (vs++dvs) H1 Q E
def Binds(K:PySem.W.Frag)(fd:FuncData)(ps:List Str)(ds:List Value):Prop:=
 ∀(s:Shared)(us:List Value),K.In s.heap→(us++ds).length=ps.length→BindsTo s fd ⟨us,[]⟩ (ps.zip (us++ds))
theorem Binds.all{K:PySem.W.Frag}{fd:FuncData}{ps:List Str}(h:∀us:List Value,us.length=ps.length→bindArgs fd ⟨us,[]⟩=pure (ps.zip us)):Binds K fd ps []:=fun s us _ hl=>by
 rw[List.append_nil] at hl ⊢
 exact .of_eq (h us hl)
def zm6(CX:CXT)(X:Cx)(E:XK):Prop:=∀(pins:List (Addr×Obj))(σ:St)(H:Hp)(s:Shared)(e:Value)(s':Shared),Inv X pins σ H s→CX X.stack H s E e s'→X.xe e s'
section
variable {X : Cx} {CX : CXT} {k : Nat} {f C : Addr} {fd : FuncData} {ps : List Str} {sp : Sp} {dvs : List V} {ds : List Value} {E : XK} {x m : Str} {p pos apos : Pos} {e o : Expr} {es : List Expr} {ta : TE} {t : TA}
theorem zt9{pins:List (Addr×Obj)}{σ:St}{H:Hp}{s:Shared}{Q:VK}{us:List Value}{vs:List V}(F:FnOk X.prog X.w X.K X.mg X.base CX k f fd ps sp)(hr:Room k X.A)(hb:Binds X.K fd ps ds)(hd:Vals dvs ds)(hx:zm6 CX X E)
  (I:Inv X pins σ H s) (r:Vals vs us) (h:sp (vs++dvs) H Q E):wpAny (model X.prog X.w) X.A (call (.ref f) us) (EP X pins σ Q) X.xe s:=by
 have r2:Vals (vs++dvs) (us++ds):=r.append hd
 have hl:(us++ds).length=ps.length:=by rw[←r2.length];exact F.len _ _ _ _ h
 refine wpAny_call (codeAny_mono (F.run X.A X.stack s H ⟨us,[]⟩ (us++ds) (vs++dvs) Q E hr I.env0 (hb s us I.kIn hl) r2 h) fun r s' hq=>?_)
 cases r with
 |error e=>exact hx pins σ H s e s' I hq
 |ok fl=>
  cases fl with
  |ret u=>exact I.after hq
  |next=>exact False.elim hq
  |brk=>exact False.elim hq
  |cont=>exact False.elim hq
theorem zmf(F:FnOk X.prog X.w X.K X.mg X.base CX k f fd ps sp)(hr:Room k X.A)(hg:Gl X x)(hm:X.mg x=some (.ref f))(hk:PySem.W.keepIn X.K (.ref f)=true)(hb:Binds X.K fd ps ds)(hd:Vals dvs ds)(hx:zm6 CX X E)
  (ha:PA X (e::es) t) (hdb:(x==("__debug__" : Str))=false:=by decide) (he:starEach (e::es) X.env=(false,eval e X.env)::starEach es X.env:=by rfl) (hpl:(backTo pos (starEach es X.env)).any (·.1)=false:=by rfl):
  PE X (.Call (.Name x p) (e::es) [] pos) (zuc sp dvs E t):=by
 intro pins s σ H Q I h
 refine wpAny_Call_Name_kw (zh8 I hg hm ?_ hdb)
 refine PySem.W.callWith_K (h₀:=X.base) I.ok.mod.kin hk (thn (ha pos pins s σ H _ I h) fun us s1 ⟨vs,H1,I1,r,q⟩=>⟨I1.kIn,?_⟩) he hpl
 exact zt9 F hr hb hd hx I1 r q
end
section
variable {X : Cx} {CX : CXT} {k : Nat} {f C : Addr} {fd : FuncData} {ps ks : List Str} {sp : Sp} {E : XK} {x m : Str} {p pos apos kpos : Pos} {e o : Expr} {es : List Expr} {kws : List Keyword} {te ta : TE} {t tk : TA} {nm : Option Str}
variable {g : List Value → List Value → List Value} {gV : List V → List V → List V}
end
structure zau(N P:List Str)(sc:Scope):Prop where
 kind:sc.kind=.function
 co:sc.isCoroutine=false
 gen:sc.isGenerator=false
 nd:N.Nodup
 pre:N.take P.length=P
 par:∀x∈P,sc.names.lookup x=some .local∨sc.names.lookup x=some .cell
 nofree:∀y∈sc.names,y.2≠.free
theorem zl0{kindOf:Str→Option NameKind}{x:Str}:∀{binds:List (Str×Value)} {m:Str→Option Value},(∀v,(x,v)∉binds)→bindL kindOf binds m x=m x
 |[],_,_=>rfl
 |(n,v)::r,m,h=>by
  unfold bindL
  rw[zl0 fun w hw=>h w (List.mem_cons_of_mem _ hw)]
  split
  ·have:x≠n:=by rintro rfl;exact h v List.mem_cons_self
   simp[this]
  ·rfl
theorem zld{kindOf:Str→Option NameKind}{x:Str}:∀{binds:List (Str×Value)} {m:Str→Option Value},(∀v,(x,v)∉binds)→bindC kindOf binds m x=m x
 |[],_,_=>rfl
 |(n,v)::r,m,h=>by
  unfold bindC
  rw[zld fun w hw=>h w (List.mem_cons_of_mem _ hw)]
  split
  ·rfl
  ·have:x≠n:=by rintro rfl;exact h v List.mem_cons_self
   simp[this]
theorem zlz{kindOf:Str→Option NameKind}{x:Str}{v:Value}:∀{P:List Str} {vs:List Value} {i:Nat} {m:Str→Option Value},P.Nodup→P[i]?=some x→vs[i]?=some v→kindOf x=some .local →
  bindL kindOf (P.zip vs) m x=some v
 |[],_,_,_,_,h,_,_=>by simp at h
 |_::_,[],_,_,_,_,h,_=>by simp at h
 |p::P,w::vs,0,m,nd,h1,h2,hk=>by
  simp at h1 h2;subst h1;subst h2
  show bindL kindOf ((p,w)::P.zip vs) m p=_
  unfold bindL
  rw[zl0 fun v hv=>(List.nodup_cons.mp nd).1 (List.of_mem_zip hv).1,if_pos hk]
  simp
 |p::P,w::vs,i+1,m,nd,h1,h2,hk=>by
  show bindL kindOf ((p,w)::P.zip vs) m x=_
  unfold bindL
  exact zlz (i:=i) (List.nodup_cons.mp nd).2 (by simpa using h1) (by simpa using h2) hk
theorem zlj{kindOf:Str→Option NameKind}{x:Str}{v:Value}:∀{P:List Str} {vs:List Value} {i:Nat} {m:Str→Option Value},P.Nodup→P[i]?=some x→vs[i]?=some v→kindOf x≠some .local →
  bindC kindOf (P.zip vs) m x=some v
 |[],_,_,_,_,h,_,_=>by simp at h
 |_::_,[],_,_,_,_,h,_=>by simp at h
 |p::P,w::vs,0,m,nd,h1,h2,hk=>by
  simp at h1 h2;subst h1;subst h2
  show bindC kindOf ((p,w)::P.zip vs) m p=_
  unfold bindC
  rw[zld fun v hv=>(List.nodup_cons.mp nd).1 (List.of_mem_zip hv).1,if_neg hk]
  simp
 |p::P,w::vs,i+1,m,nd,h1,h2,hk=>by
  show bindC kindOf ((p,w)::P.zip vs) m x=_
  unfold bindC
  exact zlj (i:=i) (List.nodup_cons.mp nd).2 (by simpa using h1) (by simpa using h2) hk
def zhc(N:List Str)(vs:List V):St:=vs.map some++List.replicate (N.length-vs.length) none
def zdw(CX:CXT)(P:Program)(w:World)(K:PySem.W.Frag)(mg:Str→Option Value)(base:Heap)(N:List Str)(qual:Str)(scope:Scope)(f:Addr)(cd:Value)(A:Around)(outer:List Env)(s:Shared)(H:Hp)(E:XK):Cx where
 prog:=P
 w:=w
 K:=K
 mg:=mg
 base:=base
 A:=A.deeper (envOfC qual scope s.heap.objs.size f cd)
 N:=N
 s₀:=s
 H₀:=H
 env:=envOfC qual scope s.heap.objs.size f cd
 outer:=outer
 stack:=envOfC qual scope s.heap.objs.size f cd::outer
 ex:=[]
 calm:=true
 fn:=fun _=>true
 pn:=[]
 xe:=fun e s'=>wpAny (model P w) (A.deeper (envOfC qual scope s.heap.objs.size f cd)) (leaving (envOfC qual scope s.heap.objs.size f cd) e) (fun _ s''=>CX outer H s E e s'') (fun e' s''=>CX outer H s E e' s'') s'
theorem znl{sc:Scope}{n:Nat}{x:Str}(h:sc.names.lookup x=some .cell):∃c,(cellsFrom n sc.names []).lookup x=some c:=by
 have q:=PySem.W.cellsFrom_some sc.names n [] (.inl h)
 exact Option.isSome_iff_exists.mp q
theorem zrk{CX:CXT}{P:Program}{w:World}{K:PySem.W.Frag}{mg:Str→Option Value}{base:Heap}{N ps:List Str}{qual:Str}{scope:Scope}{f:Addr}{cd:Value}{A:Around}{outer:List Env}{s s1:Shared}{H:Hp}{E:XK}{us:List Value}{vs:List V}
  (S:zau N ps scope) (hd:A.handled=none) (e0:zs0 P w K mg base A outer s H) (hl:vs.length=ps.length) (r:Vals vs us)
  (x:InCallC s s.heap.objs.size (bindL (envOfC qual scope s.heap.objs.size f cd).kindOf (ps.zip us) fun _=>none) (cellsFrom (s.heap.objs.size+1) scope.names []) (bindC (envOfC qual scope s.heap.objs.size f cd).kindOf (ps.zip us) fun _=>none) s1):
  Inv (zdw CX P w K mg base N qual scope f cd A outer s H E) [] (zhc N vs) H s1:=by
 have af:ps.length≤N.length:=by have:=congrArg List.length S.pre;rw[List.length_take] at this;omega
 obtain⟨h1,tk,rfl,hk⟩:=x.done
 have ad:∀b:Addr,b∉(zdw CX P w K mg base N qual scope f cd A outer s H E).ex:=fun b z=>absurd (show b∈([]:List Addr) from z) (by simp)
 refine⟨⟨e0.mod,S.kind,rfl,rfl,Nat.le_refl _,fun y z c h1 h2=>?_,fun y hy=>?_,fun y c _ h=>?_,fun _=>hd,Around.frames_deeper e0.frames,.inr ⟨rfl,rfl⟩,fun b z=>absurd z (ad b),e0.bs,e0.bsz,fun b _ _=>ad b,fun b z=>absurd z (ad b),e0.funs,e0.frf⟩,
  rfl,e0.bare,Un.kept hk,⟨_,x.toInCall.ns,fun i y v h1 h2 h3=>?_⟩,fun y c h=>⟨_,x.cell y c h⟩,e0.hok.fresh (Nat.le_refl _),fun y c h=>?_,fun p hp=>absurd (show p∈([]:List (Addr×Obj)) from hp) (by simp),e0.hok.kept hk,?_⟩
 ·exact name_of_addr x.apart (PySem.mem_of_lookup h1) (PySem.mem_of_lookup h2)
 ·have hy:scope.names.lookup y=some .cell∨scope.names.lookup y=some .free:=hy
  rcases hy with hy|hy
  ·exact znl hy
  ·exact absurd rfl (S.nofree _ (PySem.mem_of_lookup hy))
 ·exact Nat.le_of_lt (x.above y c (PySem.mem_of_lookup h))
 ·have hi:i<vs.length:=by
   unfold zhc at h2
   by_cases hi:i<vs.length
   ·exact hi
   ·rw[List.getElem?_append_right (by simpa using hi)] at h2
    rw[List.getElem?_replicate] at h2
    split at h2<;>cases h2
  have ha:vs[i]?=some v:=by
   unfold zhc at h2
   rw[List.getElem?_append_left (by simpa using hi),List.getElem?_map] at h2
   cases e:vs[i]? with
   |none=>rw[e] at h2;cases h2
   |some a=>rw[e] at h2;cases h2;rfl
  obtain⟨u,hu,rv⟩:=r.get ha
  have hp:ps[i]?=some y:=by
   rw[←S.pre,List.getElem?_take_of_lt (by omega)];exact h1
  have ae:ps.Nodup:=by rw[←S.pre];exact S.nd.sublist (List.take_sublist _ _)
  refine⟨u,rv,?_⟩
  rcases S.par y (List.mem_of_getElem? hp) with k|k
  ·exact .inl ⟨k,zlz ae hp hu k⟩
  ·obtain⟨c,e⟩:=znl (n:=s.heap.objs.size+1) k
   refine .inr ⟨.inl k,c,e,?_⟩
   have q:=x.cell y c e
   rw[zlj ae hp hu (by show scope.names.lookup y≠_;rw[k];decide)] at q
   exact q
 ·exact e0.hok.fresh (Nat.le_of_lt (x.above y c (PySem.mem_of_lookup h)))
 ·unfold zhc
  show _=N.length
  rw[List.length_append,List.length_map,List.length_replicate]
  omega
theorem zur{CX:CXT}{P:Program}{w:World}{K:PySem.W.Frag}{mg:Str→Option Value}{base:Heap}{k:Nat}{f:Addr}{name qual:Str}{params:Arguments}{body:List Stmt}{scope:Scope}{dV kV doc pm cdv ct oc:Value}{an od:Option Addr}
  {osl:Array (Option Value)} {N ps:List Str} {sp:Sp} (lk:K.lookup f=some ⟨oc,od,.func (PySem.W.fnOf name qual params body scope dV kV doc pm an cdv ct),osl⟩) (hcd:PySem.W.codeIn K cdv qual=true) (S:zau N ps scope)
  (len:∀vs H Q E,sp vs H Q E→vs.length=ps.length)
  (hbody:∀(A:Around)(outer:List Env)(s:Shared)(H:Hp)(vs:List V)(Q:VK)(E:XK),Room k (A.deeper (envOfC qual scope s.heap.objs.size f cdv))→sp vs H Q E →
   ∃t,PSs (zdw CX P w K mg base N qual scope f cdv A outer s H E) body t∧t { nx:=fun _ H'=>Q .non H',rt:=Q } (zhc N vs) H):
  FnOk P w K mg base CX (k+1) f (PySem.W.fnOf name qual params body scope dV kV doc pm an cdv ct) ps sp:=by
 refine⟨len,fun A outer s H args us vs Q E hr e0 hb r ae=>?_⟩
 have hl:=len _ _ _ _ ae
 have KX:K.In s.heap:=e0.mod.kin.keeps fun b o e=>(e0.bs b o e).1
 have af:s.heap.NoLimit:=e0.mod.nolimit.keeps fun b o e=>(e0.bs b o e).1
 have ad:∀y∈ps.zip us,scope.names.lookup y.1=some .local∨(scope.names.lookup y.1=some .cell∧((cellsFrom (s.heap.objs.size+1) scope.names []).lookup y.1).isSome=true):=fun⟨n,v⟩ hy=>by
  rcases S.par n (List.of_mem_zip hy).1 with q|q
  ·exact .inl q
  ·exact .inr ⟨q,PySem.W.cellsFrom_some _ _ _ (.inl q)⟩
 refine codeAny_call_function hr.depth (KX _ _ lk) rfl S.co S.gen rfl (PySem.W.codeRec_of KX hcd) (hb _ _ _ _ ?_)
 refine wpAny_newFunctionEnv_cells S.kind ad fun env he s1 x=>?_
 subst he
 refine⟨af.keeps x.toInCall.keep,codeAny_func ?_⟩
 obtain⟨t,ht,hq⟩:=hbody A outer s H vs Q E (hr.deeper _) ae
 have I:Inv (zdw CX P w K mg base N qual scope f cdv A outer s H E) [] (zhc N vs) H s1:=zrk S hr.hd e0 hl r x
 refine wpAny_mono (ht [] s1 (zhc N vs) H _ I hq) (fun fl s' hs=>?_) fun e s' hs=>hs
 have fin:∀{σ':St} {H':Hp} {v:V} {u:Value},Inv (zdw CX P w K mg base N qual scope f cdv A outer s H E) [] σ' H' s'→RelV v u→Q v H'→CE outer P w H s Q u s':=
  fun {σ' H' v u} J rv q=>⟨v,H',J.os,J.bare,J.base,J.hok,rv,q⟩
 cases fl with
 |ret u=>
  obtain⟨v,σ',H',J,rv,q⟩:=hs
  exact fin J rv q
 |next=>
  obtain⟨σ',H',J,q⟩:=hs
  exact fin (v:=V.non) (u:=Value.none) J rfl q
 |brk=>
  obtain⟨_,_,_,q⟩:=hs
  exact False.elim q
 |cont=>
  obtain⟨_,_,_,q⟩:=hs
  exact False.elim q
section
variable {X : Cx} {x : Str} {p pos : Pos} {e : Expr} {es : List Expr} {t : TA} {id T : String} {r : List V → Hp → VK → Prop}
def tCB(r:List V→Hp→VK→Prop)(t:TA):TE:=fun σ H Q=>t σ H fun vs H1=>r vs H1 Q
theorem zan(hc:zcq X (.builtin id) r)(hg:Gl X x)(hm:X.mg x=none)(hv:bootBuiltins x=some (.builtin id))(ha:PA X (e::es) t)(hn:x ≠ "__name__" := by decide)(hdb:(x==("__debug__" : Str))=false:=by decide)
  (he:starEach (e::es) X.env=(false,eval e X.env)::starEach es X.env:=by rfl) (hpl:(backTo pos (starEach es X.env)).any (·.1)=false:=by rfl):PE X (.Call (.Name x p) (e::es) [] pos) (tCB r t):=by
 intro pins s σ H Q I h
 refine wpAny_Call_Name_kw (ziv I hg hm hv ?_ hn hdb)
 exact PyProof.Rows.callWith_builtin1 (thn (ha pos pins s σ H _ I h) fun us s1 ⟨vs,H1,I1,r1,q1⟩=>hc pins s1 σ H1 vs us Q I1 r1 q1) he hpl
theorem za4(hc:zcq X (.type T) r)(hg:Gl X x)(hm:X.mg x=none)(hv:bootBuiltins x=some (.type T))(ha:PA X (e::es) t)(hn:x ≠ "__name__" := by decide)(hdb:(x==("__debug__" : Str))=false:=by decide)
  (he:starEach (e::es) X.env=(false,eval e X.env)::starEach es X.env:=by rfl) (hpl:(backTo pos (starEach es X.env)).any (·.1)=false:=by rfl):PE X (.Call (.Name x p) (e::es) [] pos) (tCB r t):=by
 intro pins s σ H Q I h
 refine wpAny_Call_Name_kw (ziv I hg hm hv ?_ hn hdb)
 exact PyProof.Rows.callWith_type1 (thn (ha pos pins s σ H _ I h) fun us s1 ⟨vs,H1,I1,r1,q1⟩=>hc pins s1 σ H1 vs us Q I1 r1 q1) he hpl
end
end L2
namespace HT
open PySem PyProof.Rows
section
open PySem.SeqAt
open PySem.AutoSeq1 (wpAny_loadPart')
open PySem.MeetsSeq PySem.MeetsSeq2 PySem.MeetsSeq3
end
section
variable {prog : Program} {w : World} {A : Around} {E : Value → Shared → Prop} {s : Shared}
theorem cat_tup{t b:Addr}{vs ws:List Value}{Q:Value→Shared→Prop}(ht:IsTup s.heap t vs.toArray)(hb:IsTup s.heap b ws.toArray)(hv:vs≠[])
  (h1:ws=[]→Q (.ref t) s) (h2:ws≠[]→Q (.ref s.heap.objs.size) { s with heap:=s.heap.push { cls:=.type "tuple",data:=.seq (vs++ws).toArray } })
  (hsz:vs.length+ws.length≤sizeLine):wpAny (model prog w) A (binaryOp .Add (.ref t) (.ref b)) Q E s:=by
 obtain⟨⟨cls,dd,data,sl⟩,ho,hc,n,hd⟩:=id ht
 obtain⟨⟨aj,ah,ag,af⟩,ad,ai,n2,ae⟩:=id hb
 simp only at hc hd ai ae
 subst hc hd ai ae
 have e:vs.toArray++ws.toArray=(vs++ws).toArray:=by simp
 by_cases hw:ws=[]
 ·exact concat_meets ⟨_,ho,rfl⟩ ⟨_,ad,rfl⟩ noFill_tuple_add seq_tuple_add PySem.F.slot_tuple_add PySem.F.entry_tuple_add (PySem.F.args_tuple_add_2 _ _)
   (tuple_addW1 t b vs.toArray ws.toArray n n2 dd ah sl af (by simpa using hv) (by simp[hw])) ⟨ho,ad,h1 hw⟩
 ·refine concat_meets ⟨_,ho,rfl⟩ ⟨_,ad,rfl⟩ noFill_tuple_add seq_tuple_add PySem.F.slot_tuple_add PySem.F.entry_tuple_add (PySem.F.args_tuple_add_2 _ _)
   (tuple_addW2 t b vs.toArray ws.toArray n n2 dd ah sl af (by simpa using hv) (by simpa using hw) (by rw[List.size_toArray,List.size_toArray];exact hsz)) ⟨ho,ad,?_⟩
  rw[e]
  exact h2 hw
def sIx(n d:Nat):Option Int→Nat
 |none=>d
 |some v=>if v<0 then (v+(n:Int)).toNat else min v.toNat n
theorem sIx_none(n d:Nat):sIx n d none=d:=rfl
theorem sIx_nat(n d k:Nat):sIx n d (some (k:Int))=min k n:=by
 show(if (k:Int)<0 then ((k:Int)+(n:Int)).toNat else min (k:Int).toNat n)=min k n
 rw[if_neg (by omega),Int.toNat_natCast]
theorem zxs(n d:Nat)(hd:d≤n)(o:Option Int):sIx n d o≤n:=by
 cases o with
 |none=>exact hd
 |some v=>
  show(if v<0 then (v+(n:Int)).toNat else min v.toNat n)≤n
  by_cases hv:v<0
  ·rw[if_pos hv];omega
  ·rw[if_neg hv];exact Nat.min_le_right _ _
theorem zq2(v:Int)(n d:Nat):(if v<0 then max (v+(n:Int)) 0 else min v (n:Int))=((sIx n d (some v):Nat):Int):=by
 show(if v<0 then max (v+(n:Int)) 0 else min v (n:Int))=(((if v<0 then (v+(n:Int)).toNat else min v.toNat n):Nat):Int)
 by_cases hv:v<0
 ·simp only[if_pos hv];omega
 ·simp only[if_neg hv];omega
theorem zpl(lo hi:Option Int)(n:Nat):Builtin.Slice.sliceAdjust lo hi 1 (n:Int)=(((sIx n 0 lo:Nat):Int),((sIx n n hi:Nat):Int)):=by
 have h1:¬((1:Int)<0):=by omega
 unfold Builtin.Slice.sliceAdjust
 simp only[h1,if_false]
 refine Prod.ext ?_ ?_
 ·cases lo with
  |none=>rfl
  |some v=>exact zq2 v n 0
 ·cases hi with
  |none=>rfl
  |some v=>exact zq2 v n n
theorem zpo(i j:Nat):Builtin.Slice.slicePlaces (i:Int) (j:Int) 1=j-i:=by
 unfold Builtin.Slice.slicePlaces
 have h1:(1:Int)>0:=by omega
 simp only[h1,if_true,Int.ediv_one]
 split<;>omega
theorem zki{v:Value}{o:Option Int}{Q:Option Int→Shared→Prop}(p:IsPart v o)(h:Q o s):wpAny (model prog w) A (Builtin.Slice.slicePartIndex v) Q E s:=by
 cases p with
 |none=>exact slicePart_none h
 |int i t=>exact slicePart_int h
theorem ze8{sl:Addr}{vl vu:Value}{lo hi:Option Int}{n:Nat}{Q:Int×Int×Nat→Shared→Prop}(hs:s.heap.IsSliceOf sl vl vu .none)(pl:IsPart vl lo)(pu:IsPart vu hi)
  (h:Q (((sIx n 0 lo:Nat):Int),1,sIx n n hi-sIx n 0 lo) s):wpAny (model prog w) A (Builtin.Slice.sliceApplied (.ref sl) (pure (n:Int))) Q E s:=by
 obtain⟨os,ae,af,ad⟩:=id hs
 unfold Builtin.Slice.sliceApplied Builtin.Slice.sliceFields
 refine wpAny_bind (wpAny_bind (wpAny_field ae ad (x:=vl) rfl (wpAny_bind (wpAny_field ae ad (x:=vu) rfl (wpAny_bind (wpAny_field ae ad (x:=.none) rfl (wpAny_pure ?_)))))))
 refine wpAny_bind (slicePart_none ?_)
 show wpAny _ _ (if ((1:Int)==0)=true then _ else _) _ _ s
 rw[if_neg (by decide)]
 refine wpAny_bind (zki pl (wpAny_bind (zki pu (wpAny_bind (wpAny_pure ?_)))))
 show wpAny _ _ (match Builtin.Slice.sliceAdjust lo hi 1 (n:Int) with|(lo,hi)=>pure (lo,(1:Int),Builtin.Slice.slicePlaces lo hi 1)) _ _ s
 rw[zpl lo hi n]
 show wpAny _ _ (pure (((sIx n 0 lo:Nat):Int),(1:Int),Builtin.Slice.slicePlaces ((sIx n 0 lo:Nat):Int) ((sIx n n hi:Nat):Int) 1)) _ _ s
 rw[zpo]
 exact wpAny_pure h
theorem zs7(xs:Array Value)(i k:Nat):((List.range k).filterMap fun(m:Nat)=>xs[((i:Int)+(m:Int)*1).toNat]?).toArray=((xs.toList.drop i).take k).toArray:=by
 have e:(fun(m:Nat)=>xs[((i:Int)+(m:Int)*1).toNat]?)=fun m=>xs[i+m]?:=by
  funext m
  have:((i:Int)+(m:Int)*1).toNat=i+m:=by omega
  rw[this]
 rw[e]
 have:=pick_run xs i k
 rw[List.filterMap_map] at this
 have e2:((fun x=>xs[x]?)∘fun x=>i+x)=fun m=>xs[i+m]?:=rfl
 rw[e2] at this
 rw[this]
theorem getItem_tuple_cut{t sl:Addr}{items:Array Value}{vl vu:Value}{lo hi:Option Int}{Q:Value→Shared→Prop}(ht:IsTup s.heap t items)(hs:s.heap.IsSliceOf sl vl vu .none)(pl:IsPart vl lo)(pu:IsPart vu hi)
  (hw:¬(sIx items.size 0 lo=0∧sIx items.size items.size hi=items.size))
  (h:Q (.ref s.heap.objs.size) { s with heap:=s.heap.push { cls:=.type "tuple",data:=.seq ((items.toList.drop (sIx items.size 0 lo)).take (sIx items.size items.size hi-sIx items.size 0 lo)).toArray } })
  (hsz:items.size≤sizeLine):wpAny (model prog w) A (getItem (.ref t) (.ref sl)) Q E s:=by
 have ad:sizeOk (.seq ((items.toList.drop (sIx items.size 0 lo)).take (sIx items.size items.size hi-sIx items.size 0 lo)).toArray):=by
  show((items.toList.drop (sIx items.size 0 lo)).take (sIx items.size items.size hi-sIx items.size 0 lo)).toArray.size≤sizeLine
  rw[List.size_toArray,List.length_take,List.length_drop,Array.length_toList]
  omega
 have hj:sIx items.size items.size hi≤items.size:=zxs _ _ (Nat.le_refl _) hi
 obtain⟨os,ae,ag,ai⟩:=id hs
 have af:s.TypeIs (.ref sl) "slice" := ⟨os,ae,ag⟩
 unfold getItem
 try with_reducible refine wpAny_holding ?_
 first|refine wpAny_bind (wpAny_pure ?_)|skip
 refine wpAny_bind (wpAny_sequenceKey ht.typeIs (by decide) ?_)
 refine wpAny_bind (wpAny_callSpecial?_slot (name:=Str.ofString "__getitem__") ht.typeIs PyProof.Rows.slot_tuple_getitem
  (wpAny_call_entry PyProof.Rows.slot_tuple_getitem ht.typeIs entry_tuple_getitem ?_ (args_tuple_getitem _ _)))
 show wpAny _ _ (Builtin.Tuple.tupleItemsOf (.ref t)>>=_) _ _ s
 refine wpAny_bind (tupleItemsOf_ ht ?_)
 refine wpAny_bind (wpAny_typeOf af ?_)
 rw[if_pos (by decide)]
 refine wpAny_bind (ze8 hs pl pu ?_)
 have ah:¬((((sIx items.size 0 lo:Nat):Int)==0&&(1:Int)==1&&(sIx items.size items.size hi-sIx items.size 0 lo)==items.size)=true):=by
  intro q
  rw[Bool.and_eq_true,Bool.and_eq_true] at q
  have q1:((sIx items.size 0 lo:Nat):Int)=0:=eq_of_beq q.1.1
  have q2:sIx items.size items.size hi-sIx items.size 0 lo=items.size:=eq_of_beq q.2
  exact hw ⟨by omega,by omega⟩
 show wpAny _ _ (if (((sIx items.size 0 lo:Nat):Int)==0&&(1:Int)==1&&(sIx items.size items.size hi-sIx items.size 0 lo)==items.size)=true then _ else _) _ _ s
 rw[if_neg ah,zs7]
 first
  |exact wpAny_bind (m:=Builtin.Tuple.tupleExact _) (wpAny_newObj_type (wpAny_pure ⟨_,rfl,wpAny_pure h⟩) ad)
  |exact wpAny_bind (m:=Builtin.Tuple.tupleExact _) (wpAny_newObj_type (wpAny_bind (wpAny_pure (wpAny_pure ⟨_,rfl,wpAny_pure h⟩))) ad)
  |exact wpAny_bind (wpAny_bind (m:=Builtin.Tuple.tupleExact _) (wpAny_newObj_type (wpAny_pure (wpAny_pure ⟨_,rfl,wpAny_pure h⟩)) ad))
  |exact wpAny_bind (wpAny_bind (m:=Builtin.Tuple.tupleExact _) (wpAny_newObj_type (wpAny_pure ⟨_,rfl,wpAny_pure h⟩) ad))
end
end HT
namespace L2
open PySem PySem.Spec PyProof.Rows
abbrev TO:=St→Hp→(Option Int→Hp→Prop)→Prop
def PO(X:Cx)(e:Option Expr)(t:TO):Prop:=
 ∀(pins:List (Addr×Obj))(s:Shared)(σ:St)(H:Hp)(Q:Option Int→Hp→Prop),Inv X pins σ H s→t σ H Q →
  wpAny (model X.prog X.w) X.A (evalPart e X.env) (fun u s'=>∃o H',Inv X pins σ H' s'∧IsPart u o∧Q o H') X.xe s
def zv3:TO:=fun _ H Q=>Q none H
def zy7(t:TE):TO:=fun σ H Q=>t σ H fun x H1=>∃i,x=.int i∧Q (some i) H1
theorem zb7{ns:List Int}:∀{us:List Value},Vals (ns.map V.int) us→IntsAre us ns:=by
 induction ns with
 |nil=>intro us r;rw[List.map_nil] at r;cases r;exact .nil
 |cons n ns ih=>
  intro us r
  rw[List.map_cons] at r
  cases r with
  |cons r1 r2=>
   obtain⟨t,e⟩:=r1
   subst e
   exact .cons n t (ih r2)
section
variable {X : Cx} {e : Expr} {te : TE} {lo hi : Option Expr} {tl th : TO} {pos p2 : Pos}
theorem zmp:PO X none zv3:=by
 intro pins s σ H Q I h
 rw[evalPart_none]
 exact wpAny_pure ⟨none,H,I,.none,h⟩
theorem zl7(h:PE X e te):PO X (some e) (zy7 te):=by
 intro pins s σ H Q I hw
 rw[evalPart_some]
 refine thn (h pins s σ H _ I hw) fun u s1 ⟨x,H1,I1,r1,q1⟩=>?_
 obtain⟨i,rfl,q⟩:=q1
 obtain⟨t,rfl⟩:=r1
 exact⟨some i,H1,I1,.int i t,q⟩
def SlR(X:Cx)(r:V→Option Int→Option Int→Hp→VK→Prop):Prop:=
 ∀(pins:List (Addr×Obj))(s:Shared)(σ:St)(H:Hp)(x:V)(v vl vu:Value)(lo hi:Option Int)(sl:Addr)(Q:VK),Inv X pins σ H s→RelV x v→s.heap.IsSliceOf sl vl vu .none→IsPart vl lo→IsPart vu hi→r x lo hi H Q →
  ∃T id,typeLookup (.type T) "__getitem__" = pure (some (.builtin id))∧s.TypeIs v T∧wpAny (model X.prog X.w) X.A (getItem v (.ref sl)) (EP X pins σ Q) X.xe s
def tSl(r:V→Option Int→Option Int→Hp→VK→Prop)(te:TE)(tl th:TO):TE:=fun σ H Q=>te σ H fun x H1=>tl σ H1 fun l H2=>th σ H2 fun u H3=>r x l u H3 Q
theorem zkc{r:V→Option Int→Option Int→Hp→VK→Prop}(hr:SlR X r)(he:PE X e te)(hl:PO X lo tl)(hu:PO X hi th):PE X (.Subscript e (.Slice lo hi none p2) pos) (tSl r te tl th):=by
 intro pins s σ H Q I h
 refine Subscript_ (thn (he pins s σ H _ I h) fun v s1 ⟨x,H1,I1,r1,q1⟩=>?_)
 refine wpAny_Slice (thn (hl pins s1 σ H1 _ I1 q1) fun vl s2 ⟨l,H2,I2,pl,q2⟩=>thn (hu pins s2 σ H2 _ I2 q2) fun vu s3 ⟨u,H3,I3,pu,q3⟩=>?_)
 rw[evalPart_none]
 refine wpAny_pure ?_
 have I4:Inv X pins σ H3 { s3 with heap:=s3.heap.push { cls:=.type "slice",data:=.fields #[vl,vu,.none] } }:=I3.kept (t':=s3.toks) fun b ob q=>Heap.get?_push_of_some _ q
 obtain⟨T,id,hT,ht,hg⟩:=hr pins { s3 with heap:=s3.heap.push { cls:=.type "slice",data:=.fields #[vl,vu,.none] } } σ H3 x v vl vu l u s3.heap.objs.size Q I4 r1 (Heap.IsSliceOf.new ..) pl pu q3
 show wpAny (model X.prog X.w) X.A (subscriptTail e (.Slice lo hi none p2) v (.ref s3.heap.objs.size)) (EP X pins σ Q) X.xe { s3 with heap:=s3.heap.push { cls:=.type "slice",data:=.fields #[vl,vu,.none] } }
 exact tail_any (ops:=[.ref s3.heap.objs.size,v]) ht hT hg (by with_unfolding_all rfl)
def zjc(xs:List V)(lo hi:Option Int):List V:=(xs.drop (HT.sIx xs.length 0 lo)).take (HT.sIx xs.length xs.length hi-HT.sIx xs.length 0 lo)
theorem znn(xs:List V)(lo hi:Option Int):(zjc xs lo hi).length≤xs.length:=by
 unfold zjc
 rw[List.length_take,List.length_drop]
 omega
def zzh(K:PySem.W.Frag):V→Option Int→Option Int→Hp→VK→Prop:=fun x lo hi H Q=>∃a xs,x=.ref a∧SqT K H a xs ∧
 ¬(HT.sIx xs.length 0 lo=0∧HT.sIx xs.length xs.length hi=xs.length)∧∀p,H p=none→Q (.ref p) (upd H p (.tup (zjc xs lo hi)))
theorem zxq:SlR X (zzh X.K):=by
 intro pins s σ H x v vl vu lo hi sl Q I rx hs pl pu h
 obtain⟨a,xs,rfl,hx,hw,q⟩:=h
 cases rx
 obtain⟨ae,r,ht,hz⟩:=I.tuple hx
 have ad:ae.toArray.size=xs.length:=by rw[List.size_toArray];exact r.length.symm
 refine⟨"tuple",_,PyProof.Rows.slot_tuple_getitem.lookup,ht.typeIs,?_⟩
 refine HT.getItem_tuple_cut ht hs pl pu (by rw[ad];exact hw) ?_ (by rw[ad];exact hz)
 rw[ad]
 refine⟨.ref s.heap.objs.size,_,I.laid (t':=s.toks) (o:=.tup (zjc xs lo hi)) (fun b ob q=>Heap.get?_push_of_some _ q) (Nat.le_refl _) ?_,rfl,q _ (I.hok.fresh (Nat.le_refl _))⟩
 exact⟨Nat.le_trans (znn xs lo hi) hz,_,(r.drop (HT.sIx xs.length 0 lo)).take (HT.sIx xs.length xs.length hi-HT.sIx xs.length 0 lo),IsTup.new _ _⟩
def zyt(K:PySem.W.Frag):R2:=fun x y H Q=>∃a b xs ys,x=.ref a∧y=.ref b∧SqT K H a xs∧SqT K H b ys∧xs≠[]∧xs.length+ys.length≤sizeLine ∧
 (ys=[]→Q (.ref a) H)∧(ys≠[]→∀p,H p=none→Q (.ref p) (upd H p (.tup (xs++ys))))
theorem Vals.nil_iff{xs:List V}{us:List Value}(r:Vals xs us):us=[]↔xs=[]:=by
 cases r with
 |nil=>simp
 |cons _ _=>simp
theorem zu3:OpR X (binaryOp .Add) (zyt X.K):=by
 intro pins s σ H x y v u Q I rx ry h
 obtain⟨a,b,xs,ys,rfl,rfl,ha,hb,hx,hz,q1,q2⟩:=h
 cases rx
 cases ry
 obtain⟨ae,r1,p1,_⟩:=I.tuple ha
 obtain⟨ad,r2,p2,_⟩:=I.tuple hb
 refine HT.cat_tup p1 p2 (fun z=>hx (r1.nil_iff.mp z)) (fun z=>⟨.ref a,H,I,rfl,q1 (r2.nil_iff.mp z)⟩) (fun z=>?_) (by rw[←r1.length,←r2.length];exact hz)
 refine⟨.ref s.heap.objs.size,_,I.laid (t':=s.toks) (o:=.tup (xs++ys)) (fun b ob q=>Heap.get?_push_of_some _ q) (Nat.le_refl _) ?_,rfl,q2 (fun w=>z (r2.nil_iff.mpr w)) _ (I.hok.fresh (Nat.le_refl _))⟩
 exact⟨by rw[List.length_append];exact hz,_,r1.append r2,IsTup.new _ _⟩
end
def ixN(n:Nat)(i:Int):Option Nat:=if 0≤i then (if i<n then some i.toNat else none) else if -(n:Int)≤i then some (i+n).toNat else none
def atI{α:Type}(xs:List α)(i:Int):Option α:=(ixN xs.length i).bind fun j=>xs[j]?
theorem zqg{n:Nat}{i:Int}{j:Nat}(h:ixN n i=some j):seqIndex? i n=some j∧j<n∧-(n:Int)≤i∧i<n:=by
 unfold ixN at h
 by_cases h0:0≤i
 ·rw[if_pos h0] at h
  by_cases h1:i<n
  ·rw[if_pos h1] at h
   have e:i.toNat=j:=Option.some.inj h
   exact⟨by rw[seqIndex_of h0 h1,e],by omega,by omega,h1⟩
  ·rw[if_neg h1] at h;cases h
 ·rw[if_neg h0] at h
  by_cases h1 : -(n:Int)≤i
  ·rw[if_pos h1] at h
   have e:(i+n).toNat=j:=Option.some.inj h
   exact⟨by rw[seqIndex_neg (by omega) h1,e],by omega,h1,by omega⟩
  ·rw[if_neg h1] at h;cases h
theorem zqm{α:Type}{xs:List α}{i:Int}{v:α}(h:atI xs i=some v):∃j,seqIndex? i xs.length=some j∧xs[j]?=some v∧j<xs.length∧-(xs.length:Int)≤i∧i<xs.length:=by
 unfold atI at h
 cases e:ixN xs.length i with
 |none=>rw[e] at h;cases h
 |some j=>
  rw[e] at h
  obtain⟨h1,h2,h3,h4⟩:=zqg e
  exact⟨j,h1,h,h2,h3,h4⟩
theorem zc8{α:Type}{xs:List α}{j:Nat}{v:α}(h:xs[j]?=some v):atI xs (j:Int)=some v:=by
 have hj:j<xs.length:=(List.getElem?_eq_some_iff.mp h).1
 have e:ixN xs.length (j:Int)=some j:=by
  unfold ixN
  rw[if_pos (by omega),if_pos (by omega)];simp
 unfold atI;rw[e];exact h
def zvy(b:Expr):Prop:=∀o i,subscripted b false o i=operate [o,i] (getItem o i)
def IxR(X:Cx)(r:R2):Prop:=
 ∀(value slice:Expr)(pins:List (Addr×Obj))(s:Shared)(σ:St)(H:Hp)(x y:V)(v u:Value)(Q:VK),Inv X pins σ H s→RelV x v→RelV y u→r x y H Q →
  subscripted slice false v u=operate [v,u] (getItem v u)→wpAny (model X.prog X.w) X.A (subscriptTail value slice v u) (EP X pins σ Q) X.xe s
def MtR(X:Cx)(id:String)(r:V→List V→Hp→VK→Prop):Prop:=
 ∀(pins:List (Addr×Obj))(s:Shared)(σ:St)(H:Hp)(x:V)(xs:List V)(v:Value)(us:List Value)(Q:VK),Inv X pins σ H s→RelV x v→Vals xs us→r x xs H Q →
  wpAny (model X.prog X.w) X.A (call (.builtin id) (v::us)) (EP X pins σ Q) X.xe s
section
variable {X : Cx} {a b : Expr} {ta tb : TE} {pos : Pos}
theorem zap{r:R2}(hr:IxR X r)(ha:PE X a ta)(hb:PE X b tb)(hs:zvy b):PE X (.Subscript a b pos) (tOp r ta tb):=by
 intro pins s σ H Q I h
 exact Subscript_ (zwx ha hb I h fun v u s2 x y H2 I2 rx ry q=>hr a b pins s2 σ H2 x y v u Q I2 rx ry q (hs _ _))
def zx9(K:PySem.W.Frag):R2:=fun x y H Q=>∃p xs i v,x=.ref p∧y=.int i∧SqL K H p xs∧atI xs i=some v∧Q v H
def zyf(K:PySem.W.Frag):R2:=fun x y H Q=>∃p xs i v,x=.ref p∧y=.int i∧SqT K H p xs∧atI xs i=some v∧Q v H
theorem zvq:IxR X (zx9 X.K):=by
 intro value ad pins s σ H x y v u Q I rx ry h hs
 obtain⟨p,xs,i,z,rfl,rfl,hq,he,q⟩:=h
 cases rx
 obtain⟨t,rfl⟩:=ry
 obtain⟨af,r,pl,hz⟩:=I.list hq
 obtain⟨j,h1,h2,h3,h4,h5⟩:=zqm he
 obtain⟨w,ew,ae⟩:=r.get h2
 have hl:=r.length
 have hn:=zik
 have fin:EP X pins σ Q w s:=⟨z,H,I,ae,q⟩
 by_cases h0:0≤i
 ·have hj:i.toNat=j:=by
   rw[seqIndex_of h0 h5] at h1
   exact Option.some.inj h1
  exact item_listR pl.isList h0 (by omega) (by rw[hj];simpa using ew) fin hs
 ·have hj:(i+(af.toArray.size:Int)).toNat=j:=by
   rw[seqIndex_neg (by omega) h4] at h1
   rw[List.size_toArray,←hl]
   exact Option.some.inj h1
  exact subscriptTail_builtinR (x:=w) pl.isList.typeIs slot_list_getitem.lookup
   (wpAny_getItem_list_neg (Q:=fun r s'=>r=w∧EP X pins σ Q r s') pl.isList (by omega) (by rw[List.size_toArray]<;>omega) (by omega) (by rw[hj];simpa using ew) ⟨rfl,fin⟩) hs
theorem zmv:IxR X (zyf X.K):=by
 intro value ad pins s σ H x y v u Q I rx ry h hs
 obtain⟨p,xs,i,z,rfl,rfl,hq,he,q⟩:=h
 cases rx
 obtain⟨t,rfl⟩:=ry
 obtain⟨af,r,pl,hz⟩:=I.tuple hq
 obtain⟨j,h1,h2,h3,h4,h5⟩:=zqm he
 obtain⟨w,ew,ae⟩:=r.get h2
 have hl:=r.length
 have hn:=zik
 have fin:EP X pins σ Q w s:=⟨z,H,I,ae,q⟩
 exact subscriptTail_builtinR (x:=w) pl.typeIs slot_tuple_getitem.lookup
  (getItem_tuple (j:=j) (Q:=fun r s'=>r=w∧EP X pins σ Q r s') pl (by omega) (by omega) (by rw[List.size_toArray,←hl];exact h1) (by simpa using ew) ⟨rfl,fin⟩) hs
theorem zqd(its:List Value)(n j:Nat)(u:Value):Obj.mapSeq (·.setIfInBounds j u) { cls:=.type "list",data:=.seq its.toArray n }={ cls:=.type "list",data:=.seq (its.set j u).toArray n }:=by
 simp[Obj.mapSeq]
theorem Inv.lst{pins:List (Addr×Obj)}{σ:St}{H:Hp}{s:Shared}{p:Addr}{xs:List V}(I:Inv X pins σ H s)(h:H p=some (.lst xs)):
  ∃(its:List Value)(n:Nat),Vals xs its∧s.heap.get? p=some { cls:=.type "list",data:=.seq its.toArray n }∧xs.length≤sizeLine:=by
 obtain⟨z,its,n,r,e⟩:=I.hok p _ h
 exact⟨its,n,r,e,z⟩
theorem Inv.lstUpd{pins:List (Addr×Obj)}{σ:St}{H:Hp}{s:Shared}{p:Addr}{xs ys:List V}{its its':List Value}{n n':Nat}{f:Obj→Obj}(I:Inv X pins σ H s)(h:H p=some (.lst xs))
  (ho:s.heap.get? p=some { cls:=.type "list",data:=.seq its.toArray n }) (hf:f { cls:=.type "list",data:=.seq its.toArray n }={ cls:=.type "list",data:=.seq its'.toArray n' }) (r:Vals ys its') (hz:ys.length≤sizeLine) (t:Nat):
  Inv X pins σ (upd H p (.lst ys)) { s with heap:=s.heap.update p f,toks:=t }:=by
 have e:(s.heap.update p f).get? p=some { cls:=.type "list",data:=.seq its'.toArray n' }:=by
  rw[Heap.get?_update_self f ho (by rw[hf]<;>rfl),hf]
 refine I.write (x:=p) (e:=p) (by rw[h];trivial) (.inl rfl) (fun b u hb q=>(Heap.get?_update_other _ _ (Ne.symm hb)).trans q) ⟨_,e⟩ ?_
 exact⟨hz,its',n',r,e⟩
def zy1:V→V→V→Hp→(Hp→Prop)→Prop:=fun o i v H Q=>∃p xs k j,o=.ref p∧i=.int k∧H p=some (.lst xs)∧ixN xs.length k=some j∧Q (upd H p (.lst (xs.set j v)))
theorem zt5:zy4 X zy1:=by
 intro pins s σ H o i v ov iv u Q I ro ri rv h
 obtain⟨p,xs,k,j,rfl,rfl,hp,hj,q⟩:=h
 cases ro
 obtain⟨t,rfl⟩:=ri
 obtain⟨ad,n,r,ho,hz⟩:=I.lst hp
 obtain⟨h1,h2,h3,h4⟩:=zqg hj
 have hl:=r.length
 have hn:=zik
 have I':Inv X pins σ (upd H p (.lst (xs.set j v))) { s with heap:=s.heap.update p (Obj.mapSeq (·.setIfInBounds j u)) }:=
  I.lstUpd hp ho (zqd ad n j u) (r.set rv j) (by rw[List.length_set];exact hz) s.toks
 by_cases h0:0≤k
 ·have hk:k.toNat=j:=by
   rw[seqIndex_of h0 h4] at h1
   exact Option.some.inj h1
  exact PySem.W.ki_setAt ho h0 (by omega) (by rw[List.size_toArray,←hl];exact h4) (by rw[hk];exact⟨_,I',q⟩)
 ·have hk:(k+(ad.toArray.size:Int)).toNat=j:=by
   rw[seqIndex_neg (by omega) h3] at h1
   rw[List.size_toArray,←hl]
   exact Option.some.inj h1
  exact PySem.W.ki_setBack ho (by omega) (by rw[List.size_toArray,←hl];exact h3) (by omega) (by rw[hk];exact⟨_,I',q⟩)
def zgh:V→Bool
 |.non=>true
 |.bl _=>true
 |.int _=>true
 |.str _=>true
 |_=>false
def eqV:V→V→Bool
 |.non,.non=>true
 |.bl a,.bl b=>a==b
 |.bl a,.int b=>(if a then 1 else 0)==b
 |.int a,.bl b=>a==(if b then 1 else 0)
 |.int a,.int b=>a==b
 |.str a,.str b=>a==b
 |_,_=>false
theorem zw4{A:Around}{s:Shared}{y x:V}{u v:Value}(ry:RelV y u)(rx:RelV x v)(fy:zgh y=true)(fx:zgh x=true):SeqAt.EqAt A s u v (eqV y x):=by
 cases y with
 |non=>
  cases ry
  cases x with
  |non=>cases rx;exact SeqAt.EqAt.same _
  |bl b=>cases rx;exact SeqAt.EqAt.none_bool b
  |int b=>obtain⟨t,rfl⟩:=rx;exact SeqAt.EqAt.none_int b t
  |str b=>obtain⟨t,rfl⟩:=rx;exact SeqAt.EqAt.none_str b t
  |_=>exact absurd (show false=true from fx) Bool.false_ne_true
 |bl a=>
  cases ry
  cases x with
  |non=>cases rx;exact SeqAt.EqAt.bool_none a
  |bl b=>cases rx;exact SeqAt.EqAt.bool_bool a b
  |int b=>obtain⟨t,rfl⟩:=rx;exact SeqAt.EqAt.bool_int a b t
  |str b=>obtain⟨t,rfl⟩:=rx;exact SeqAt.EqAt.bool_str a b t
  |_=>exact absurd (show false=true from fx) Bool.false_ne_true
 |int a=>
  obtain⟨t',rfl⟩:=ry
  cases x with
  |non=>cases rx;exact SeqAt.EqAt.int_none a t'
  |bl b=>cases rx;exact SeqAt.EqAt.int_bool a t' b
  |int b=>obtain⟨t,rfl⟩:=rx;exact SeqAt.EqAt.int_int a t' b t
  |str b=>obtain⟨t,rfl⟩:=rx;exact SeqAt.EqAt.int_str a t' b t
  |_=>exact absurd (show false=true from fx) Bool.false_ne_true
 |str a=>
  obtain⟨t',rfl⟩:=ry
  cases x with
  |non=>cases rx;exact SeqAt.EqAt.str_none a t'
  |bl b=>cases rx;exact SeqAt.EqAt.str_bool a t' b
  |int b=>obtain⟨t,rfl⟩:=rx;exact SeqAt.EqAt.str_int a t' b t
  |str b=>obtain⟨t,rfl⟩:=rx;exact SeqAt.EqAt.str_str a t' b t
  |_=>exact absurd (show false=true from fx) Bool.false_ne_true
 |_=>exact absurd (show false=true from fy) Bool.false_ne_true
def eqU(x:V)(u:Value):Bool:=match u with
 |.none=>eqV .non x
 |.bool b=>eqV (.bl b) x
 |.int i _=>eqV (.int i) x
 |.str z _=>eqV (.str z) x
 |_=>false
theorem zpy{x y:V}{u:Value}(r:RelV y u)(f:zgh y=true):eqU x u=eqV y x:=by
 cases y with
 |non=>cases r;rfl
 |bl b=>cases r;rfl
 |int i=>obtain⟨t,rfl⟩:=r;rfl
 |str z=>obtain⟨t,rfl⟩:=r;rfl
 |_=>exact absurd (show false=true from f) Bool.false_ne_true
theorem zh5{x:V}:∀{xs:List V} {us:List Value},Vals xs us→xs.all zgh=true→us.any (eqU x)=xs.any fun y=>eqV y x
 |_,_,.nil,_=>rfl
 |y::xs,u::us,.cons r t,f=>by
  rw[List.all_cons,Bool.and_eq_true] at f
  rw[List.any_cons,List.any_cons,zpy r f.1,zh5 t f.2]
theorem zfb{A:Around}{s:Shared}{x:V}{v:Value}(rx:RelV x v)(fx:zgh x=true):∀{xs:List V} {us:List Value},Vals xs us→xs.all zgh=true→∀u∈us,SeqAt.EqAt A s u v (eqU x u)
 |_,_,.nil,_=>fun u hu=>by cases hu
 |y::xs,u::us,.cons r t,f=>fun u' hu=>by
  rw[List.all_cons,Bool.and_eq_true] at f
  rcases List.mem_cons.mp hu with rfl|hu
  ·rw[zpy r f.1];exact zw4 r rx f.1 fx
  ·exact zfb rx fx t f.2 u' hu
def inV(x:V)(xs:List V):Bool:=xs.any fun y=>eqV y x
def rIn(K:PySem.W.Frag)(neg:Bool):R2:=fun x y H Q=>∃p xs,y=.ref p∧(SqL K H p xs∨SqT K H p xs)∧zgh x=true∧xs.all zgh=true∧Q (.bl (if neg then !inV x xs else inV x xs)) H
theorem zq9:OpR X (compareOp .In) (rIn X.K false):=by
 intro pins s σ H x y v u Q I rx ry h
 obtain⟨p,xs,rfl,hq,fx,fs,q⟩:=h
 cases ry
 rcases hq with hq|hq
 ·obtain⟨ad,r,pl,hz⟩:=I.list hq
  refine SeqAt.in_listAt (eqU x) pl.isList (fun w hw=>zfb rx fx r fs w (by simpa using hw)) ⟨.bl _,H,I,rfl,?_⟩
  rw[show ad.toArray.any (eqU x)=ad.any (eqU x) by simp,zh5 r fs]
  exact q
 ·obtain⟨ad,r,pl,hz⟩:=I.tuple hq
  refine SeqAt.in_tupleAt (eqU x) pl (fun w hw=>zfb rx fx r fs w (by simpa using hw)) ⟨.bl _,H,I,rfl,?_⟩
  rw[show ad.toArray.any (eqU x)=ad.any (eqU x) by simp,zh5 r fs]
  exact q
theorem zl5:OpR X (compareOp .NotIn) (rIn X.K true):=by
 intro pins s σ H x y v u Q I rx ry h
 obtain⟨p,xs,rfl,hq,fx,fs,q⟩:=h
 cases ry
 rcases hq with hq|hq
 ·obtain⟨ad,r,pl,hz⟩:=I.list hq
  refine SeqAt.notIn_listAt (eqU x) pl.isList (fun w hw=>zfb rx fx r fs w (by simpa using hw)) ⟨.bl _,H,I,rfl,?_⟩
  rw[show ad.toArray.any (eqU x)=ad.any (eqU x) by simp,zh5 r fs]
  exact q
 ·obtain⟨ad,r,pl,hz⟩:=I.tuple hq
  refine SeqAt.notIn_tupleAt (eqU x) pl (fun w hw=>zfb rx fx r fs w (by simpa using hw)) ⟨.bl _,H,I,rfl,?_⟩
  rw[show ad.toArray.any (eqU x)=ad.any (eqU x) by simp,zh5 r fs]
  exact q
theorem zmz:zcq X (.builtin "len") (fun xs H Q=>∃p ys,xs=[.ref p]∧(SqL X.K H p ys∨SqT X.K H p ys)∧Q (.int ys.length) H):=by
 intro pins s σ H xs us Q I r h
 obtain⟨p,ys,rfl,hq,q⟩:=h
 obtain⟨u,rfl,rx⟩:=zer r
 cases rx
 have hn:=zik
 rcases hq with hq|hq
 ·obtain⟨ae,r',pl,hz⟩:=I.list hq
  have ad:=r'.length
  exact Calls.call_len_list pl.isList (by simp only[List.size_toArray]<;>omega) ⟨.int ys.length,H,I.tok _,⟨s.toks+1,by rw[List.size_toArray,ad]⟩,q⟩
 ·obtain⟨ae,r',pl,hz⟩:=I.tuple hq
  have ad:=r'.length
  exact len_tuple pl (by simp only[List.size_toArray]<;>omega) ⟨.int ys.length,H,I.tok _,⟨s.toks+1,by rw[List.size_toArray,ad]⟩,q⟩
theorem zfn:zcq X (.type "list") (fun xs H Q=>∃p ys,xs=[.ref p]∧(SqL X.K H p ys∨SqT X.K H p ys)∧∀l,H l=none→Q (.ref l) (upd H l (.lst ys))):=by
 intro pins s σ H xs us Q I r h
 obtain⟨p,ys,rfl,hq,q⟩:=h
 obtain⟨u,rfl,rx⟩:=zer r
 cases rx
 have fin:∀(ad:List Value),Vals ys ad→ys.length≤sizeLine→∀(h':Heap)(c':Nat),(∀b o',s.heap.get? b=some o'→h'.get? b=some o') →
   h'.get? s.heap.objs.size=some { cls:=.type "list",dict:=none,data:=.seq ad.toArray c',slots:=#[] }→EP X pins σ Q (.ref s.heap.objs.size) { s with heap:=h' }:=fun ad r' hz h' c' kp e=>
  ⟨.ref s.heap.objs.size,_,I.laid (t':=s.toks) kp (Nat.le_refl _) (show ObjOk X.prog X.w _ h' _ (.lst ys) from⟨hz,ad,c',r',e⟩),rfl,q _ (I.hok.fresh (Nat.le_refl _))⟩
 rcases hq with hq|hq
 ·obtain⟨ad,r',pl,hz⟩:=I.list hq
  have ae:=r'.length
  obtain⟨o,ho,hc,n,hd⟩:=pl.isList
  exact call_list_seq p (.inl rfl) ho hc hd (fun h' c' kp e=>fin ad r' hz h' c' kp e) (by simp only[List.size_toArray]<;>omega)
 ·obtain⟨ad,r',pl,hz⟩:=I.tuple hq
  have ae:=r'.length
  obtain⟨o,ho,hc,n,hd⟩:=pl
  exact call_list_seq p (.inr rfl) ho hc hd (fun h' c' kp e=>fin ad r' hz h' c' kp e) (by simp only[List.size_toArray]<;>omega)
theorem za5:zcq X (.type "tuple") (fun xs H Q=>∃p ys,xs=[.ref p]∧((SqL X.K H p ys∧∀l,H l=none→Q (.ref l) (upd H l (.tup ys)))∨(SqT X.K H p ys∧Q (.ref p) H))):=by
 intro pins s σ H xs us Q I r h
 obtain⟨p,ys,rfl,h⟩:=h
 obtain⟨u,rfl,rx⟩:=zer r
 cases rx
 rcases h with⟨hq,q⟩|⟨hq,q⟩
 ·obtain⟨ad,r',pl,hz⟩:=I.list hq
  have ae:=r'.length
  refine call_tuple_list pl.isList (fun h' kp=>?_) (by simp only[List.size_toArray]<;>omega)
  have I1:Inv X pins σ H { s with heap:=h' }:=I.kept (t':=s.toks) kp
  have I2:Inv X pins σ (upd H h'.objs.size (.tup ys)) { s with heap:=h'.push { cls:=.type "tuple",data:=.seq ad.toArray } }:=
   I1.laid (t':=s.toks) (fun b o e=>Heap.get?_push_of_some _ e) (Nat.le_refl _) (show ObjOk X.prog X.w _ _ _ (.tup ys) from⟨hz,ad,r',IsTup.new _ _⟩)
  exact⟨.ref h'.objs.size,_,I2,rfl,q _ (I1.hok.fresh (Nat.le_refl _))⟩
 ·obtain⟨ad,r',pl,hz⟩:=I.tuple hq
  exact call_tuple_same pl ⟨.ref p,H,I,rfl,q⟩
def tyV(K:PySem.W.Frag)(T:String)(x:V)(H:Hp):Prop:=match x with
 |.str _=>T = "str"
 |.int _=>T = "int"
 |.ref p=>(T = "list" ∧ ∃xs,SqL K H p xs)∨(T = "tuple" ∧ ∃o,K.lookup p=some o∧o.cls=.type "tuple" ∧ o.dict=none) ∨
   (T = "dict" ∧ ((∃kvs,H p=some (.dK kvs))∨∃kvs,H p=some (.dT kvs)))∨(T = "set" ∧ ∃S n,H p=some (.set S n))
 |_=>False
theorem zw5{pins:List (Addr×Obj)}{σ:St}{H:Hp}{s:Shared}{T:String}{x:V}{v:Value}(I:Inv X pins σ H s)(r:RelV x v)(ty:tyV X.K T x H):
  s.TypeIs v T∧∀a,v=.ref a→∃ob,s.heap.get? a=some ob∧ob.dict=none:=by
 cases x with
 |str z=>
  obtain⟨t,rfl⟩:=r
  cases(show T = "str" from ty)
  exact⟨typeIs_str s z t,fun _ e=>nomatch e⟩
 |int i=>
  obtain⟨t,rfl⟩:=r
  cases(show T = "int" from ty)
  exact⟨typeIs_int s i t,fun _ e=>nomatch e⟩
 |ref p=>
  cases r
  rcases ty with⟨rfl,xs,hq⟩|⟨rfl,o,hk,hc,hd⟩|⟨rfl,hk⟩|⟨rfl,S,n,hk⟩
  ·obtain⟨ad,_,pl,_⟩:=I.list hq
   refine⟨pl.isList.typeIs,fun a e=>?_⟩
   cases e
   obtain⟨o,n,e,c,hd,_⟩:=pl
   exact⟨o,e,hd⟩
  ·refine⟨⟨o,I.kIn p o hk,hc⟩,fun a e=>?_⟩
   cases e
   exact⟨o,I.kIn _ o hk,hd⟩
  ·have z:∃o,s.heap.get? p=some o∧o.ExactDict:=by
    rcases hk with⟨kvs,hk⟩|⟨kvs,hk⟩
    ·obtain⟨_,_,_,_,o,_,_,e,ex,_⟩:=I.hok p _ hk
     exact⟨o,e,ex⟩
    ·obtain⟨_,_,_,_,o,_,_,e,ex,_⟩:=I.hok p _ hk
     exact⟨o,e,ex⟩
   obtain⟨o,e,ex⟩:=z
   refine⟨⟨o,e,ex.1⟩,fun a e2=>?_⟩
   cases e2
   exact⟨o,e,ex.2.1⟩
  ·obtain⟨o,_,_,_,e,ex,_⟩:=I.hok p _ hk
   refine⟨⟨o,e,ex.1⟩,fun a e2=>?_⟩
   cases e2
   exact⟨o,e,ex.2.1⟩
 |_=>exact False.elim ty
def tBM(K:PySem.W.Frag)(T:String)(r:V→List V→Hp→VK→Prop)(to:TE)(t:TA):TE:=fun σ H Q=>to σ H fun x H1=>tyV K T x H1∧t σ H1 fun xs H2=>r x xs H2 Q
variable {o e : Expr} {es : List Expr} {to : TE} {t : TA} {name : Str} {apos cpos : Pos} {T id : String} {r : V → List V → Hp → VK → Prop}
theorem zy6(pa:PlainAttrs T)(slot:Slot T name id)(hty:typeOf (.builtin id)=pure (.type "method_descriptor"))(hm:MtR X id r)(ho:PE X o to)(ha:PA X (e::es) t)
  (hbase:attributeBase o name X.env (eval o X.env)=eval o X.env:=by rfl)
  (hfew:((backTo cpos (starEach (e::es) X.env)).all (fun x=>!x.1)&&(backToKw cpos (keywordEach [] X.env)).all (fun x=>x.1.isSome)
   && decide ((e::es).length+([]:List Keyword).length+(if ([]:List Keyword).isEmpty then 0 else 1)<30))=true:=by rfl)
  (hline:(apos.endLine==cpos.line)=true:=by rfl) (hs:starEach (e::es) X.env=(false,eval e X.env)::starEach es X.env:=by rfl) (hplain:(backTo cpos (starEach es X.env)).any (·.1)=false:=by rfl):
  PE X (.Call (.Attribute o name apos) (e::es) [] cpos) (tBM X.K T r to t):=by
 intro pins s σ H Q I h
 refine wpAny_Call_method_late hbase hfew hline rfl (thn (ho pins s σ H _ I h) fun v s1 ⟨x,H1,I1,r1,ty,q1⟩=>?_)
 obtain⟨h1,h2⟩:=zw5 I1 r1 ty
 refine⟨T,id,pa,slot,hty,h1,h2,?_⟩
 have hA:=ha cpos pins s1 σ H1 _ I1 q1
 rw[hs] at hA ⊢
 refine Calls.callWith_builtin (by show(false||(backTo cpos (starEach es X.env)).any (·.1))=false;rw[hplain]<;>rfl) (Calls.evalArgs_plain ?_)
 exact thn hA fun us s2 ⟨vs,H2,I2,r2,q2⟩=>hm pins s2 σ H2 x vs v us Q I2 r1 r2 q2
end
def MtM(X:Cx)(id:String)(r:V→List V→Hp→VK→Prop):Prop:=
 ∀(pins:List (Addr×Obj))(s:Shared)(σ:St)(H:Hp)(x:V)(xs:List V)(v:Value)(us:List Value)(Q:VK),Inv X pins σ H s→RelV x v→Vals xs us→r x xs H Q →
  wpAny (model X.prog X.w) X.A (call (.builtin id) (v::us)) (EP X pins σ Q) X.xe s
theorem Vals.one:∀{x:V} {us:List Value},Vals [x] us→∃u,us=[u]∧RelV x u
 |_,_,.cons r .nil=>⟨_,rfl,r⟩
section
variable {X : Cx} {pins : List (Addr × Obj)} {σ : St} {H : Hp} {s : Shared} {l b : Addr} {xs ys zs : List V}
theorem Inv.lset{its its':List Value}{n:Nat}{f:Array Value→Array Value}{t':Nat}(I:Inv X pins σ H s)(hH:H l=some (.lst xs))
  (e:s.heap.get? l=some { cls:=.type "list",data:=.seq its.toArray n }) (hf:f its.toArray=its'.toArray) (hv:Vals ys its') (hz:ys.length≤sizeLine):
  Inv X pins σ (upd H l (.lst ys)) { s with heap:=s.heap.update l (Obj.mapSeq f),toks:=t' }:=by
 have q:=PySem.IsL.update e f
 rw[hf] at q
 refine I.write (x:=l) (e:=l) (by rw[hH];exact trivial) (.inl rfl) (fun b' u hb hu=>(Heap.get?_update_other s.heap (Obj.mapSeq f) (Ne.symm hb)).trans hu) ⟨_,q⟩ ?_
 exact⟨hz,its',_,hv,q⟩
theorem Inv.lnew{its:List Value}{t':Nat}(I:Inv X pins σ H s)(hv:Vals ys its)(hz:ys.length≤sizeLine):
  Inv X pins σ (upd H s.heap.objs.size (.lst ys)) { s with heap:=s.heap.push { cls:=.type "list",data:=.seq its.toArray },toks:=t' }:=
 I.laid (fun _ _ q=>Heap.get?_push_of_some _ q) (Nat.le_refl _) ⟨hz,its,0,hv,Heap.get?_push_size _ rfl⟩
theorem Inv.fresh(I:Inv X pins σ H s):H s.heap.objs.size=none:=I.hok.fresh (Nat.le_refl _)
theorem Inv.lstM(I:Inv X pins σ H s)(hH:H l=some (.lst xs)):xs.length≤sizeLine∧∃(its:List Value)(n:Nat),Vals xs its∧xs.length=its.length∧s.heap.get? l=some { cls:=.type "list",data:=.seq its.toArray n }:=by
 obtain⟨z,its,n,r,e⟩:=I.hok l _ hH
 exact⟨z,its,n,r,r.length,e⟩
theorem zuq{n:Nat}(h:n≤sizeLine):Builtin.List.listTooLong n=false:=by
 unfold Builtin.List.listTooLong
 exact decide_eq_false (by omega)
end
section
variable {X : Cx}
def zvx:V→List V→Hp→VK→Prop:=fun x vs H Q=>∃l xs y,x=.ref l∧vs=[y]∧H l=some (.lst xs)∧xs.length<sizeLine∧Q .non (upd H l (.lst (xs++[y])))
theorem zc1:MtM X "list.append" zvx:=by
 intro pins s σ H x vs v us Q I rx rv h
 obtain⟨l,xs,y,rfl,rfl,hH,hz,q⟩:=h
 cases rx
 obtain⟨u,rfl,ru⟩:=rv.one
 obtain⟨z,ad,n,r,hl,e⟩:=I.lstM hH
 refine call_meets F.slot_list_append ⟨_,e,rfl⟩ F.entry_list_append (F.args_list_append_2 _ _) (PySem.list_append l ad.toArray n u (by rw[List.size_toArray];omega)) ⟨e,?_⟩
 refine⟨.non,_,I.lset (its':=ad++[u]) hH e (by simp) (r.append (.cons ru .nil)) ?_,rfl,q⟩
 rw[List.length_append,List.length_singleton]
 omega
def zzp:R2:=fun x y H Q=>∃l b xs zs,x=.ref l∧y=.ref b∧H l=some (.lst xs)∧H b=some (.lst zs)∧xs.length+zs.length≤sizeLine∧∀p,H p=none→Q (.ref p) (upd H p (.lst (xs++zs)))
theorem zty:OpR X (binaryOp .Add) zzp:=by
 intro pins s σ H x y v u Q I rx ry h
 obtain⟨l,b,xs,zs,rfl,rfl,hH,hB,hz,q⟩:=h
 cases rx
 cases ry
 obtain⟨z,ae,n,r,hl,e⟩:=I.lstM hH
 obtain⟨z2,ad,n2,r2,af,e2⟩:=I.lstM hB
 refine PySem.P.add_list e e2 ?_ (by rw[List.size_toArray,List.size_toArray];omega)
 have ea:ae.toArray++ad.toArray=(ae++ad).toArray:=by simp
 rw[ea]
 exact⟨.ref _,_,I.lnew (t':=s.toks) (r.append r2) (by rw[List.length_append];omega),rfl,q _ I.fresh⟩
end
section
variable {prog : Program} {w : World} {A : Around} {E : Value → Shared → Prop} {s : Shared}
set_option maxRecDepth 100000 in
end
end L2
namespace Att
open PySem PySem.W PySem.Calls PyProof.Rows
theorem zjg{P:Params}{h:Heap}:∀(ns:List Int)(vs:List Value),WellAll P h vs (ns.map WData.int)→IntsAre vs ns:=by
 intro ns
 induction ns with
 |nil=>
  intro vs w
  rw[List.map_nil] at w
  cases w
  exact .nil
 |cons n ns ih=>
  intro vs w
  rw[List.map_cons] at w
  cases w with
  |cons a b=>
   cases a
   exact .cons _ _ (ih _ b)
theorem zr8{l:OpenLaw}{n:Nat}(hn:l.most=some n){P:Params}{h:Heap}{args:List WData}{vals:List Value}
  (hpre:l.row.toRowW.claim.pre args=true) (hwl:WellAll P h vals args):
  ∃a vs ns,vals=[Value.ref a]∧args=[WData.list (ns.map WData.int)]∧h.get? a=some { cls:=.type "list",data:=.seq vs.toArray }∧IntsAre vs ns∧ns.length≤n:=by
 have ae:WShape.hasAll [] args [.list .int]=true:=(pre_splitW hpre).1
 have hc:l.pre.holds [] { args:=args }=true:=(pre_splitW hpre).2
 obtain⟨d,r,rfl,h1,h2⟩:=hasAllW_cons ae
 obtain rfl:=hasAllW_nil h2
 obtain⟨xs,rfl,h3⟩:=hasW_list h1
 obtain⟨ns,rfl⟩:=items_int h3
 have ad:ns.length≤n:=by
  unfold OpenLaw.pre at hc
  have h4:(WTm.not (.lt (.lit (.int (n:Int))) (.len (.arg 0)))).holds [] { args:=[.list (ns.map .int)] }=true:=by
   have h4:=(holds_andW hc).1
   rw[hn] at h4
   exact h4
  have h5:=condW_of h4 (w_not (w_lt w_lit (w_len_list (w_arg rfl))))
  rw[List.length_map] at h5
  refine Nat.le_of_not_lt fun q=>?_
  have q':(n:Int)<((ns.length:Nat):Int):=by omega
  first
   |(rw[decide_eq_true q'] at h5;exact absurd h5 (by decide))
   |(simp at h5;omega)
 cases hwl with
 |cons w1 w2=>
  cases w2
  cases w1 with
  |list ho hall=>exact⟨_,_,ns,rfl,rfl,ho,zjg ns _ hall,ad⟩
theorem zr4(l:OpenLaw)(args:List WData):l.row.toRowW.claim.post args (.bool true) args=true:=
 postW_of (r:=l.row.toRowW) (X:=(true==true))
  (show WShape.has [] (.bool true) .bool=true by first|rfl|decide|simp[WShape.has,WShape.arms,WShape.armsAll])
  (show(WTm.eq .res (.lit (.bool true))).value [] { args:=args,res:=some (.bool true),after:=args }=some (.bool (true==true)) from w_eq_bool (w_res rfl) w_lit) rfl
theorem attach_call{l:OpenLaw}{n:Nat}{q:Program}{loose:List Str}{XP:(Str→Option Value)→Heap→Prop}{YP:World→Heap→Prop}{d:DefRec}
  (hn:l.most=some n) (hdf:d.params.defaults=[])
  (call:∀(w:World)(s₀ s₁:Shared)(mg mb:Str→Option Value)(fa:Addr)(o:Obj)(pm cd doc:Value)(a:Addr)(vs:List Value)(ns:List Int),
   Ground q loose [] XP w s₀ mg mb s₁.heap→YP w s₁.heap →
   s₁.heap.get? fa=some o→o.data=.func (docDef d.name d.params d.body d.scope pm cd doc)→s₁.heap.CodeRec cd d.name→mg d.name=some (.ref fa) →
   s₁.heap.get? a=some { cls:=.type "list",data:=.seq vs.toArray }→IntsAre vs ns→ns.length≤n→s₁.gens=#[] →
   codeAny (model l.prog w) callerA (.call (.ref fa) ⟨[.ref a],[]⟩) (fun r s'=>r=.ok (.ret (.bool true))∧OldK s₁.heap s'.heap∧s'.os=s₁.os∧AllBare s'.gens) s₁):
  WalkO q loose XP YP l.row.toRowW d [] (fun f vs=>PySem.call f vs):=by
 intro w s₀ s₁ mg mb G Y fa o pm cd doc dV kV ho hd aj hD ah hg args al as af ak am ai ao
 obtain rfl:dV=.none:=Dflts.none hD hdf
 obtain rfl:kV=.none:=Dflts.noKw hD
 obtain⟨a,vs,ns,rfl,rfl,ag,ad,ae⟩:=zr8 hn af ai
 refine enter_call (codeAny_mono (call w s₀ s₁ mg mb fa o pm cd doc a vs ns G Y ho (fd_plain hd) aj ah ag ad ae hg) fun r s' hq=>?_)
 obtain⟨rfl,h2,h3,h4⟩:=hq
 exact⟨.inl ⟨.bool true,.bool true,[],rfl,fun _=>rfl,.bool true,zr4 l _,fun _=>⟨List.Pairwise.nil,fun _ hm=>(nomatch hm)⟩⟩,h2,h3,h4⟩
end Att
namespace L2
open PySem PySem.Spec PyProof.Rows
theorem zgr:∀{vs:List Value} {ns:List Int},IntsAre vs ns→Vals (ns.map V.int) vs
 |_,_,.nil=>.nil
 |_,_,.cons n t h=>.cons ⟨t,rfl⟩ (zgr h)
def zfr(s:Stmt):Arguments:=match s with
 |.FunctionDef _ a _ _ _ _ _ _ _ _=>a
 |_=>{ posonlyargs:=[],args:=[],vararg:=none,kwonlyargs:=[],kw_defaults:=[],kwarg:=none,defaults:=[] }
def zbe(s:Stmt):List Stmt:=match s with
 |.FunctionDef _ _ b _ _ _ _ _ _ _=>b
 |_=>[]
def zai(s:Stmt):Scope:=match s with
 |.FunctionDef _ _ _ _ _ _ sc _ _ _=>sc
 |_=>{ kind:=.function,names:=[],isGenerator:=false,isCoroutine:=false }
abbrev CX0:CXT:=fun _ _ _ _ _ _=>False
abbrev E0:XK:=fun _ _ _=>False
theorem zta{X:Cx}:zm6 CX0 X E0:=fun _ _ _ _ _ _ _ h=>h.elim
structure Fun(K:PySem.W.Frag)(x qual:Str)(st:Stmt)(f:Addr)(fd:FuncData):Prop where
 ex:∃(oc:Value)(od:Option Addr)(kV doc pm:Value)(an:Option Addr)(cdv ct:Value)(osl:Array (Option Value)),
  fd=PySem.W.fnOf x qual (zfr st) (zbe st) (zai st) .none kV doc pm an cdv ct∧K.lookup f=some ⟨oc,od,.func fd,osl⟩∧PySem.W.codeIn K cdv qual=true
 kp:PySem.W.keepIn K (.ref f)=true
section
variable {P : Program} {w : World} {K : PySem.W.Frag} {mg : Str → Option Value} {base : Heap}
theorem Fun.ok{x qual:Str}{st:Stmt}{f:Addr}{fd:FuncData}{N ps:List Str}{k:Nat}{sp:Sp}(F:Fun K x qual st f fd)(S:zau N ps (zai st))(len:∀vs H Q E,sp vs H Q E→vs.length=ps.length)
  (hbody:∀(cdv:Value)(A:Around)(outer:List Env)(s:Shared)(H:Hp)(vs:List V)(Q:VK)(E:XK),Room k (A.deeper (envOfC qual (zai st) s.heap.objs.size f cdv))→sp vs H Q E →
   ∃t,PSs (zdw CX0 P w K mg base N qual (zai st) f cdv A outer s H E).nox (zbe st) t∧t { nx:=fun _ H'=>Q .non H',rt:=Q } (zhc N vs) H):FnOk P w K mg base CX0 (k+1) f fd ps sp:=by
 obtain⟨oc,od,kV,doc,pm,an,cdv,ct,osl,rfl,lk,ae⟩:=F.ex
 refine zur lk ae S len fun A outer s H vs Q E hr ad=>?_
 obtain⟨t,h,q⟩:=hbody cdv A outer s H vs Q E hr ad
 exact⟨t,h.nox,q⟩
theorem Fun.binds{x qual:Str}{st:Stmt}{f:Addr}{fd:FuncData}{ps:List Str}(F:Fun K x qual st f fd)
  (h:∀(kV doc pm:Value)(an:Option Addr)(cdv ct:Value)(us:List Value),us.length=ps.length→bindArgs (PySem.W.fnOf x qual (zfr st) (zbe st) (zai st) .none kV doc pm an cdv ct) ⟨us,[]⟩=pure (ps.zip us)):Binds K fd ps []:=by
 obtain⟨oc,od,kV,doc,pm,an,cdv,ct,osl,rfl,lk,ad⟩:=F.ex
 exact .all (h kV doc pm an cdv ct)
theorem zxt{x qual:Str}{st:Stmt}{f:Addr}{oc:Value}{od an:Option Addr}{osl:Array (Option Value)}{kV doc pm cdv ct:Value}(l:K.lookup f=some ⟨oc,od,.func (PySem.W.fnOf x qual (zfr st) (zbe st) (zai st) .none kV doc pm an cdv ct),osl⟩)
  (c:PySem.W.codeIn K cdv qual=true) (k:PySem.W.keepIn K (.ref f)=true):Fun K x qual st f (PySem.W.fnOf x qual (zfr st) (zbe st) (zai st) .none kV doc pm an cdv ct):=⟨⟨oc,od,kV,doc,pm,an,cdv,ct,osl,rfl,l,c⟩,k⟩
end
theorem zbo{n:Nat}(h:n≤1000):n<sizeLine:=Nat.lt_of_le_of_lt h (by decide)
section
variable {X : Cx}
theorem pv(i:Nat){x:Str}{pos:Pos}(hN:X.N[i]?=some x:=by rfl)(hv:Vis X.env.scope x:=by first|exact Or.inl rfl|exact Or.inr (Or.inl rfl)|exact Or.inr (Or.inr rfl))(hd:(x==("__debug__" : Str))=false:=by decide)
  (hcd:(x==("__classdict__" : Str))=false:=by decide):PE X (.Name x pos) (zti i):=ztj hN hv hd hcd
end
theorem zc5{A B:Prop}(h:B):if false=true then A else B:=by
 rw[if_neg Bool.false_ne_true]
 exact h
theorem zpq{A B:Prop}(h:A):if true=true then A else B:=by
 rw[if_pos rfl]
 exact h
theorem zbn{c A B:Prop}[Decidable c](h1:c→A)(h2:¬c→B):if c then A else B:=by
 by_cases h:c
 ·rw[if_pos h]
  exact h1 h
 ·rw[if_neg h]
  exact h2 h
theorem zkp{c A B:Prop}[Decidable c](hc:c)(h:B):if (!decide c)=true then A else B:=by
 rw[decide_eq_true hc]
 exact zc5 h
def zhb(c:Addr):Heap→Prop:=fun h=>∃(o:Obj)(vs:Array Value)(q:Str)(t:Nat),h.get? c=some o∧o.data=.fields vs∧vs[1]?=some (.str q t)
def zdt(H:Hp)(P:Addr):Prop:=∃ps:Array Value,H P=some (.tbl ps)∧TriplesOk ps.toList∧∀pos:Pos,codeAmong pos ps.toList=none∨∃c:Addr,codeAmong pos ps.toList=some (.ref c)∧H c=some (.ext (zhb c))
def Kp(H H':Hp)(b:Addr):HO→Prop
 |.tbl _=>(∃ps,H' b=some (.tbl ps))∧(zdt H b→zdt H' b)
 |o=>H' b=some o
def Same(H H':Hp):Prop:=∀b o,H b=some o→Kp H H' b o
theorem Kp.of{H H':Hp}{b:Addr}{o:HO}(h:H b=some o)(e:H' b=some o)(hc:∀c,H c=some (.ext (zhb c))→H' c=some (.ext (zhb c))):Kp H H' b o:=by
 cases o
 case tbl ps=>
  refine⟨⟨ps,e⟩,fun⟨qs,hq,tr,hp⟩=>?_⟩
  rw[h] at hq
  cases hq
  exact⟨_,e,tr,fun pos=>(hp pos).imp id fun⟨c,z1,z2⟩=>⟨c,z1,hc c z2⟩⟩
 all_goals exact e
theorem zhz{H H':Hp}(h:∀b o,H b=some o→H' b=some o):Same H H':=fun b o e=>Kp.of e (h b o e) fun c z=>h c _ z
theorem Same.refl(H:Hp):Same H H:=zhz fun _ _ h=>h
theorem Same.trans{H H1 H2:Hp}(a:Same H H1)(b:Same H1 H2):Same H H2:=fun c o h=>by
 have z:=a c o h
 cases o
 case tbl ps=>
  obtain⟨⟨qs,hq⟩,k⟩:=z
  obtain⟨q2,k2⟩:=b c _ hq
  exact⟨q2,fun t=>k2 (k t)⟩
 all_goals exact b c _ z
theorem Kp.some{H H':Hp}{b:Addr}{o:HO}(k:Kp H H' b o):∃u,H' b=some u:=by
 cases o
 case tbl ps=>exact⟨_,k.1.choose_spec⟩
 all_goals exact⟨_,k⟩
theorem Same.free{H H':Hp}(e:Same H H'){l:Addr}(h:H' l=Option.none):H l=Option.none:=by
 cases q:H l with
 |none=>rfl
 |some o=>
  obtain⟨u,z⟩:=(e l o q).some
  rw[z] at h
  cases h
theorem Same.tab{H H':Hp}{P:Addr}(e:Same H H')(t:zdt H P):zdt H' P:=by
 obtain⟨ps,h,_⟩:=id t
 exact(e _ _ h).2 t
theorem zju{pos pos':Pos}{c:Value}(l:List Value)(h:TriplesOk l):codeAmong pos (l++[rawInt pos'.line,rawInt pos'.col,c])=codeAmong pos l∨codeAmong pos (l++[rawInt pos'.line,rawInt pos'.col,c])=some c:=by
 fun_induction TriplesOk l with
 |case1=>
  by_cases hc:((pos'.line:Int)==(pos.line:Int)&&(pos'.col:Int)==(pos.col:Int))=true
  ·exact .inr (by simp only[List.nil_append,codeAmong,rawInt];rw[if_pos hc])
  ·exact .inl (by simp only[List.nil_append,codeAmong,rawInt];rw[if_neg hc])
 |case2 a t b u x rest ih=>
  simp only[List.cons_append,codeAmong]
  split
  ·exact .inl rfl
  ·exact ih h
 |case3=>exact h.elim
theorem zlo{α β:Type}(g:α→β→β){f:α→β→Sem (ForInStep β)}:∀(l:List α)(b:β),(∀x∈l,∀c,f x c=pure (ForInStep.yield (g x c))) →
  forIn l b f=(pure (l.foldl (fun c x=>g x c) b):Sem β)
 |[],b,_=>by simp only[List.forIn_nil,List.foldl_nil]
 |x::r,b,h=>by
  rw[List.forIn_cons,h x List.mem_cons_self b,pure_bind]
  exact zlo g r (g x b) fun y hy c=>h y (List.mem_cons_of_mem _ hy) c
def ze0(sc:Scope)(env:Env):List (Str×Addr):=
 sc.names.foldl (fun cs y=>if (y.2==NameKind.free)=true then (y.1,(env.cells.lookup y.1).getD 0)::cs else cs) []
theorem zmn{sc:Scope}{env:Env}(h:∀y∈sc.names,y.2=.free→∃c,env.cells.lookup y.1=some c):closureFor sc env=pure (ze0 sc env):=by
 simp only[closureFor]
 rw[zlo (fun(y:Str×NameKind)(cs:List (Str×Addr))=>if (y.2==NameKind.free)=true then (y.1,(env.cells.lookup y.1).getD 0)::cs else cs) sc.names [] (fun y hy c=>by
  obtain⟨n,k⟩:=y
  by_cases hk:k=.free
  ·obtain⟨a,ha⟩:=h _ hy hk
   subst hk
   simp only[cellOf,ha,beq_self_eq_true,if_true,pure_bind,Option.getD_some]
  ·have z:(k==NameKind.free)=false:=by simpa using hk
   simp only[z,Bool.false_eq_true,if_false])]
 rfl
theorem zln{α β:Type}{P:β→Prop}{g:α→List β→List β}:∀(l:List α)(b:List β),(∀p∈b,P p)→(∀x∈l,∀c,(∀p∈c,P p)→∀p∈g x c,P p)→∀p∈l.foldl (fun c x=>g x c) b,P p
 |[],b,hb,_=>hb
 |x::r,b,hb,h=>zln r (g x b) (h x List.mem_cons_self b hb) fun y hy=>h y (List.mem_cons_of_mem _ hy)
theorem ztw{sc:Scope}{env:Env}(h:∀y∈sc.names,y.2=.free→∃c,env.cells.lookup y.1=some c):∀p∈ze0 sc env,env.cells.lookup p.1=some p.2:=by
 refine zln (P:=fun p:Str×Addr=>env.cells.lookup p.1=some p.2) sc.names [] (fun _ z=>nomatch z) fun y hy c hc p hp=>?_
 by_cases hk:y.2=.free
 ·have z:(y.2==NameKind.free)=true:=by simpa using hk
  rw[if_pos z] at hp
  rcases List.mem_cons.mp hp with e|hp
  ·obtain⟨a,ha⟩:=h y hy hk
   rw[e]
   show env.cells.lookup y.1=some ((env.cells.lookup y.1).getD 0)
   rw[ha]
   rfl
  ·exact hc p hp
 ·have z:¬(y.2==NameKind.free)=true:=by simpa using hk
  rw[if_neg z] at hp
  exact hc p hp
theorem zkg{α β:Type}{q:β}{g:α→List β→List β}(hg:∀x c,q∈c→q∈g x c):∀(l:List α)(b:List β),q∈b→q∈l.foldl (fun c x=>g x c) b
 |[],_,hb=>hb
 |x::r,b,hb=>zkg hg r (g x b) (hg x b hb)
theorem zs8{sc:Scope}{env:Env}{x:Str}{c:Addr}(hx:(x,NameKind.free)∈sc.names)(hc:env.cells.lookup x=some c):(x,c)∈ze0 sc env:=by
 have kp:∀(y:Str×NameKind)(cs:List (Str×Addr)),(x,c)∈cs→(x,c)∈(if (y.2==NameKind.free)=true then (y.1,(env.cells.lookup y.1).getD 0)::cs else cs):=fun y cs h=>by
  by_cases z:(y.2==NameKind.free)=true
  ·rw[if_pos z]
   exact List.mem_cons_of_mem _ h
  ·rw[if_neg z]
   exact h
 unfold ze0
 obtain⟨l1,l2,e⟩:=List.append_of_mem hx
 rw[e,List.foldl_append,List.foldl_cons]
 refine zkg (g:=fun(y:Str×NameKind)(cs:List (Str×Addr))=>if (y.2==NameKind.free)=true then (y.1,(env.cells.lookup y.1).getD 0)::cs else cs) kp l2 _ ?_
 rw[if_pos (by simp)]
 rw[hc]
 exact List.mem_cons_self
theorem zeu{β:Type}{x:Str}{b:β}:∀{l:List (Str×β)},(x,b)∈l→∃c,l.lookup x=some c
 |[],h=>nomatch h
 |(y,d)::r,h=>by
  by_cases e:x=y
  ·subst e
   exact⟨d,by rw[List.lookup_cons_self]⟩
  ·have z:(x==y)=false:=by simpa using e
   rcases List.mem_cons.mp h with q|q
   ·cases q
    exact absurd rfl e
   ·obtain⟨c,hc⟩:=zeu q
    exact⟨c,by rw[List.lookup_cons,z];exact hc⟩
theorem zbj{sc:Scope}{env:Env}(h:∀y∈sc.names,y.2=.free→∃c,env.cells.lookup y.1=some c){x:Str}{c:Addr}(e:(ze0 sc env).lookup x=some c):env.cells.lookup x=some c:=
 ztw h _ (PySem.mem_of_lookup e)
theorem zg0{sc:Scope}{env:Env}(h:∀y∈sc.names,y.2=.free→∃c,env.cells.lookup y.1=some c){x:Str}{c:Addr}(hx:(x,NameKind.free)∈sc.names)(hc:env.cells.lookup x=some c):(ze0 sc env).lookup x=some c:=by
 obtain⟨d,hd⟩:=zeu (zs8 hx hc)
 have:=zbj h hd
 rw[hc] at this
 cases this
 exact hd
def zgd(sc sc0:Scope):Scope:=
 { sc with names:=sc.names.map fun(n,k)=>if (k==.free&&sc0.kind==.function&&sc0.names.lookup n==some .cell) then (n,.cell) else (n,k) }
def zrh(sc0 sc:Scope)(XN N':List Str)(n:Nat)(kp:List Nat):Bool:=
 decide (sc.kind=.function)&&sc.names.all (fun y=>decide (y.2≠.cell))&&sc.names.all (fun y=>decide (y.2=.local→sc.names.lookup y.1=some .local)) &&
 sc.names.all (fun y=>decide (y.2=.free→sc0.names.lookup y.1=some .cell))&&decide (N'.length=n+kp.length) &&
 (List.range kp.length).all (fun i=>match N'[n+i]?,kp[i]? with
  |some x,some j=>decide (XN[j]?=some x∧(x,NameKind.free)∈sc.names∧((zgd sc sc0).names.lookup x=some .cell∨(zgd sc sc0).names.lookup x=some .free))
  |_,_=>false)
theorem zko{sc0 sc:Scope}{XN N':List Str}{n:Nat}{kp:List Nat}(h:zrh sc0 sc XN N' n kp=true):
  sc.kind=.function∧(∀y∈sc.names,y.2≠.cell)∧(∀y∈sc.names,y.2=.local→sc.names.lookup y.1=some .local)∧(∀y∈sc.names,y.2=.free→sc0.names.lookup y.1=some .cell)∧N'.length=n+kp.length ∧
  ∀(i:Nat)(x:Str),N'[n+i]?=some x→∃j,kp[i]?=some j∧XN[j]?=some x∧(x,NameKind.free)∈sc.names∧((zgd sc sc0).names.lookup x=some .cell∨(zgd sc sc0).names.lookup x=some .free):=by
 unfold zrh at h
 simp only[Bool.and_eq_true,List.all_eq_true,decide_eq_true_eq] at h
 obtain⟨⟨⟨⟨⟨h1,h2⟩,h3⟩,h4⟩,h5⟩,h6⟩:=h
 refine⟨h1,h2,h3,h4,h5,fun i x hx=>?_⟩
 have hi:i<kp.length:=by
  have:=(List.getElem?_eq_some_iff.mp hx).1
  omega
 have q:=h6 i (List.mem_range.mpr hi)
 rw[hx,List.getElem?_eq_getElem hi] at q
 exact⟨kp[i],List.getElem?_eq_getElem hi,of_decide_eq_true q⟩
abbrev NoX:Value→Shared→Prop:=fun _ _=>False
def blk(X:Cx)(N':List Str)(sc:Scope)(C:Addr)(fp:List Addr)(pins:List (Addr×Obj))(s:Shared)(H:Hp):Cx:=
 { X with N:=N',s₀:=s,H₀:=H,env:=compEnvC sc (ze0 sc X.env) C X.env,outer:=X.stack,stack:=X.stack,ex:=fp,fn:=fun _=>false,pn:=X.pn++pins,xe:=NoX }
abbrev zwh(cs:List Expr)(env:Env):Sem Bool:=forIn cs true fun c r=>if r=true then do let ok ←isTrue c env (eval c env);pure (ForInStep.yield ok) else pure (ForInStep.yield r)
def PTs(X:Cx)(cs:List Expr)(t:TT):Prop:=
 ∀(pins:List (Addr×Obj))(s:Shared)(σ:St)(H:Hp)(Q:Bool→Hp→Prop),Inv X pins σ H s→t σ H Q→wpAny (model X.prog X.w) X.A (zwh cs X.env) (TP X pins σ Q) X.xe s
def zzi:TT:=fun _ H Q=>Q true H
theorem zes{X:Cx}:PTs X [] zzi:=fun _ _ _ H _ I h=>wpAny_tests_nil ⟨H,I,h⟩
theorem zbz{X:Cx}{c:Expr}{t:TT}(hc:PT X c t):PTs X [c] t:=fun pins s σ H Q I h=>wpAny_tests_one (hc pins s σ H Q I h)
theorem zq0{prog:Program}{w:World}{A:Around}{R:Result→Shared→Prop}{elt tg iter:Expr}{cs:List Expr}{sc:Scope}{pos:Pos}{it acc:Value}{env:Env}(J:Nat→Shared→Prop)
  (turn:∀n s,J n s→wpAny (model prog w) A (pyNext it) (fun r s1=>match r with
   |none=>R (.ok .next) s1
   |some v=>wpAny (model prog w) A (letOwnedTupleGo tg it v) (fun _ s2=>wpAny (model prog w) A (assign tg env v) (fun _ s3=>wpAny (model prog w) A (zwh cs env) (fun ok s4=>
     if ok=true then wpAny (model prog w) A (eval elt env) (fun x s5=>wpAny (model prog w) A (call (.builtin "list.append") [acc,x]) (fun _ s6=>∃m,m<n∧J m s6) NoX s5) NoX s4
     else ∃m,m<n∧J m s4) NoX s3) NoX s2) NoX s1) NoX s)
  (n:Nat) (s:Shared) (h:J n s):codeAny (model prog w) A (.compLoop (.ListComp elt [⟨tg,iter,cs,0⟩] sc pos) 0 it acc env) R s:=by
 refine codeAny_loop rfl J (fun n s hJ=>?_) n h
 show wpAny _ A ((compTurn (.ListComp elt [⟨tg,iter,cs,0⟩] sc pos) 0 it acc env).onRaise (fun x=>do noteFrame x env;theTreesLotGoes x)) _ _ s
 refine wpAny_noted ?_
 rw[compTurn_list]
 have no:∀{E:Value→Shared→Prop} (e:Value) (z:Shared),NoX e z→E e z:=fun _ _ f=>f.elim
 refine wpAny_bind (wpAny_standAt (wpAny_bind (wpAny_mono (turn n s hJ) (fun r s1 h1=>?_) no)))
 cases r with
 |none=>exact wpAny_pure h1
 |some v=>
  refine wpAny_bind (wpAny_mono h1 (fun _ s2 h2=>?_) no)
  refine wpAny_bind (wpAny_mono h2 (fun _ s3 h3=>?_) no)
  refine wpAny_bind (wpAny_mono h3 (fun ok s4 h4=>?_) no)
  cases ok with
  |false=>exact wpAny_pure ⟨rfl,h4⟩
  |true=>
   exact wpAny_bind (wpAny_bind (wpAny_mono h4 (fun x s5 h5=>wpAny_bind (wpAny_mono h5 (fun _ s6 h6=>wpAny_pure (wpAny_pure ⟨rfl,h6⟩)) no)) no))
def znm(J:It)(g:TG)(tc:TT)(te:TE)(σ0:St)(H1:Hp)(Q:VK):Prop:=∃W:Nat→Nat→List V→St→Hp→Prop,
  (∃m,W 0 m [] σ0 H1)∧∀i m ys σ' H',W i m ys σ' H'→ys.length≤sizeLine ∧
    ((J.stop i H'∧∀p,H' p=none→Q (.ref p) (upd H' p (.lst ys))) ∨
     (J.go i H'∧∃N:List V→St→Hp→Prop,(∀ys' σ2 H2,N ys' σ2 H2→∃m',m'<m∧W (i+1) m' ys' σ2 H2)∧∀x H2,J.yld i H' x H2→g x σ' H2 fun σ3 H3=>tc σ3 H3 fun b H4=>
       if b=true then te σ3 H4 fun v H5=>N (ys++[v]) σ3 H5 else N ys σ3 H4))
def tLc(n:Nat)(kp:List Nat)(wi:TI)(g:TG)(tc:TT)(te:TE):TE:=fun σ H Q=>wi σ H fun J H1=>znm J g tc te (List.replicate n none++kp.map fun j=>(σ[j]?).join) H1 Q
theorem zsq{lo:Int}{k:Nat}{σ0:St}{H:Hp}{g:TG}{tc:TT}{te:TE}{Q:VK}(Pv:Nat→List V→St→Hp→Prop)(h0:Pv 0 [] σ0 H)(hz:∀i ys σ H,i≤k→Pv i ys σ H→ys.length≤sizeLine)
  (hs:∀i ys σ H,i<k→Pv i ys σ H→g (.int (lo+i)) σ H fun σ3 H3=>tc σ3 H3 fun b H4=>if b=true then te σ3 H4 fun v H5=>Pv (i+1) (ys++[v]) σ3 H5 else Pv (i+1) ys σ3 H4)
  (hd:∀ys σ H,Pv k ys σ H→∀p,H p=none→Q (.ref p) (upd H p (.lst ys))):
  znm (Itr lo k) g tc te σ0 H Q:=by
 refine⟨fun i m ys σ H=>m=k-i∧i≤k∧Pv i ys σ H,⟨k,by simp,Nat.zero_le _,h0⟩,?_⟩
 rintro i m ys σ H ⟨rfl,hi,p⟩
 refine⟨hz i ys σ H hi p,?_⟩
 by_cases ad:i<k
 ·refine .inr ⟨ad,Pv (i+1),fun ys' σ' H' p'=>⟨k-(i+1),by omega,rfl,ad,p'⟩,fun x H' y=>?_⟩
  obtain⟨e1,e2⟩:=y
  subst e1
  subst e2
  exact hs i ys σ _ ad p
 ·have e:i=k:=by omega
  subst e
  exact .inl ⟨Nat.le_refl _,hd ys σ H p⟩
theorem zdl{K:PySem.W.Frag}{a:Addr}{xs:List V}{σ0:St}{H:Hp}{g:TG}{tc:TT}{te:TE}{Q:VK}(Pv:Nat→List V→St→Hp→Prop)(h0:Pv 0 [] σ0 H)(hz:∀i ys σ H,i≤xs.length→Pv i ys σ H→ys.length≤sizeLine)
  (hl:∀i ys σ H,i≤xs.length→Pv i ys σ H→SqL K H a xs)
  (hs:∀i x ys σ H,xs[i]?=some x→Pv i ys σ H→g x σ H fun σ3 H3=>tc σ3 H3 fun b H4=>if b=true then te σ3 H4 fun v H5=>Pv (i+1) (ys++[v]) σ3 H5 else Pv (i+1) ys σ3 H4)
  (hd:∀ys σ H,Pv xs.length ys σ H→∀p,H p=none→Q (.ref p) (upd H p (.lst ys))):
  znm (Itl K a) g tc te σ0 H Q:=by
 refine⟨fun i m ys σ H=>m=xs.length-i∧i≤xs.length∧Pv i ys σ H,⟨xs.length,by simp,Nat.zero_le _,h0⟩,?_⟩
 rintro i m ys σ H ⟨rfl,hi,p⟩
 refine⟨hz i ys σ H hi p,?_⟩
 have q:=hl i ys σ H hi p
 by_cases ad:i<xs.length
 ·refine .inr ⟨⟨xs,xs[i],q,by simp[ad]⟩,Pv (i+1),fun ys' σ' H' p'=>⟨xs.length-(i+1),by omega,rfl,ad,p'⟩,fun x H' y=>?_⟩
  obtain⟨e,y⟩:=y
  subst e
  exact hs i x ys σ _ (y xs q) p
 ·have e:i=xs.length:=by omega
  subst e
  exact .inl ⟨⟨xs,q,Nat.le_refl _⟩,hd ys σ H p⟩
theorem zey{K:PySem.W.Frag}{a:Addr}{xs:List V}{σ0:St}{H:Hp}{g:TG}{tc:TT}{te:TE}{Q:VK}(Pv:Nat→List V→St→Hp→Prop)(h0:Pv 0 [] σ0 H)(hz:∀i ys σ H,i≤xs.length→Pv i ys σ H→ys.length≤sizeLine)
  (hl:∀i ys σ H,i≤xs.length→Pv i ys σ H→SqT K H a xs)
  (hs:∀i x ys σ H,xs[i]?=some x→Pv i ys σ H→g x σ H fun σ3 H3=>tc σ3 H3 fun b H4=>if b=true then te σ3 H4 fun v H5=>Pv (i+1) (ys++[v]) σ3 H5 else Pv (i+1) ys σ3 H4)
  (hd:∀ys σ H,Pv xs.length ys σ H→∀p,H p=none→Q (.ref p) (upd H p (.lst ys))):
  znm (Itt K a) g tc te σ0 H Q:=by
 refine⟨fun i m ys σ H=>m=xs.length-i∧i≤xs.length∧Pv i ys σ H,⟨xs.length,by simp,Nat.zero_le _,h0⟩,?_⟩
 rintro i m ys σ H ⟨rfl,hi,p⟩
 refine⟨hz i ys σ H hi p,?_⟩
 have q:=hl i ys σ H hi p
 by_cases ad:i<xs.length
 ·refine .inr ⟨⟨xs,xs[i],q,by simp[ad]⟩,Pv (i+1),fun ys' σ' H' p'=>⟨xs.length-(i+1),by omega,rfl,ad,p'⟩,fun x H' y=>?_⟩
  obtain⟨e,y⟩:=y
  subst e
  exact hs i x ys σ _ (y xs q) p
 ·have e:i=xs.length:=by omega
  subst e
  exact .inl ⟨⟨xs,q,Nat.le_refl _⟩,hd ys σ H p⟩
section
variable {X : Cx} {tg iter elt : Expr} {cs : List Expr} {sc sc0 : Scope} {pos : Pos} {wi : TI} {g : TG} {tc : TT} {te : TE} {XN N' : List Str} {n : Nat} {kp : List Nat}
theorem zxl{pins:List (Addr×Obj)}{σ:St}{H:Hp}{s:Shared}{fp:List Addr}{C:Addr}(I:Inv X pins σ H s)(hk:sc.kind=.function)(hcell:∀y∈sc.names,y.2≠.cell)
  (hfr:∀y∈sc.names,y.2=.free→∃c,X.env.cells.lookup y.1=some c) (hf:∀b∈fp,zg1 X pins H b) (hl:∀b∈fp,b<s.heap.objs.size) (hC:s.heap.objs.size≤C):(blk X N' sc C fp pins s H).Ok where
 mod:=I.ok.mod
 kind:=hk
 glob:=I.ok.glob
 blt:=I.ok.blt
 above:=hC
 inj:=fun x y c h1 h2=>I.ok.inj x y c (zbj hfr h1) (zbj hfr h2)
 has:=fun x hx=>by
  have q:∃k,(x,k)∈sc.names∧k=.free:=by
   have ad:(zgd sc X.env.scope).names.lookup x=some .cell∨(zgd sc X.env.scope).names.lookup x=some .free:=hx
   have go:∀k,(zgd sc X.env.scope).names.lookup x=some k→(k=.cell∨k=.free)→(x,NameKind.free)∈sc.names:=fun k e ae=>by
    have hm:=PySem.mem_of_lookup e
    obtain⟨⟨y,ky⟩,hy,ey⟩:=List.mem_map.mp hm
    dsimp only at ey
    split at ey
    ·rename_i hc
     cases ey
     have z:ky=.free:=by
      simp only[Bool.and_eq_true] at hc
      simpa using hc.1.1
     subst z
     exact hy
    ·cases ey
     rcases ae with z|z
     ·exact absurd z (hcell _ hy)
     ·subst z
      exact hy
   rcases ad with e|e
   ·exact⟨_,go _ e (.inl rfl),rfl⟩
   ·exact⟨_,go _ e (.inr rfl),rfl⟩
  obtain⟨k,hm,rfl⟩:=q
  obtain⟨c,hc⟩:=hfr _ hm rfl
  exact⟨c,zg0 hfr hm hc⟩
 cab:=fun x c h=>absurd h (by simp[blk])
 hd:=I.ok.hd
 frames:=I.ok.frames
 stk:=.inl rfl
 exf:=fun b hb=>⟨Nat.ne_of_lt (Nat.lt_of_lt_of_le (hl b hb) hC),fun x c e=>(hf b hb).2.2.2.2.1 x c (zbj hfr e)⟩
 bs:=I.bs
 bsz:=Nat.le_trans I.ok.bsz I.sz
 noex:=fun b o e hb=>by
  rcases(hf b hb).2.2.2.1 with z|z
  ·exact I.ok.noex b o e z
  ·exact absurd (Nat.lt_of_lt_of_le (Heap.lt_size e) (Nat.le_trans I.ok.bsz z)) (Nat.lt_irrefl _)
 exfs:=fun b hb z=>by
  rcases List.mem_cons.mp (I.stkSub b z) with q|q
  ·exact(hf b hb).2.1 q
  ·exact(hf b hb).2.2.1 q
 funs:=I.stack
 frf:=I.stkFree
end
section
variable {X : Cx} {tg iter elt : Expr} {cs : List Expr} {sc sc0 : Scope} {pos : Pos} {wi : TI} {g : TG} {tc : TT} {te : TE} {XN N' : List Str} {n : Nat} {kp : List Nat}
theorem zr2{pins:List (Addr×Obj)}{σ:St}{H:Hp}{s:Shared}{fp:List Addr}{C:Addr}{h1:Heap}{tk:Nat}{m:Str→Option Value}(I:Inv X pins σ H s)(h0:X.env.scope=sc0)(hN:X.N=XN)(ok:zrh sc0 sc XN N' n kp=true)
  (hf:∀b∈fp,zg1 X pins H b) (hl:∀b∈fp,b<s.heap.objs.size) (hC:s.heap.objs.size≤C) (old:∀b o,s.heap.get? b=some o→h1.get? b=some o) (ns:h1.Ns C m):
  Inv (blk X N' sc C fp pins s H) [] (List.replicate n none++kp.map fun j=>(σ[j]?).join) H { s with heap:=h1,toks:=tk }:=by
 obtain⟨o1,o2,o3,o4,o5,o6⟩:=zko ok
 subst h0
 subst hN
 have ad:∀y∈sc.names,y.2=.free→∃c,X.env.cells.lookup y.1=some c:=fun y hy e=>I.ok.has y.1 (.inl (o4 y hy e))
 have ae:∀b,b<s.heap.objs.size→b≠C:=fun b hb=>Nat.ne_of_lt (Nat.lt_of_lt_of_le hb hC)
 refine⟨zxl I o1 o2 ad hf hl hC,rfl,I.bare,Un.kept old,⟨m,ns,fun i x v e1 e2 e3=>?_⟩,fun x c e=>?_,I.hok.fresh hC,fun x c e=>?_,fun p hp=>?_,I.hok.kept old,?_⟩
 ·have hi:n≤i:=by
   by_cases z:n≤i
   ·exact z
   ·rw[List.getElem?_append_left (by rw[List.length_replicate];omega),List.getElem?_replicate] at e2
    split at e2<;>cases e2
  obtain⟨j,rfl⟩:∃j,i=n+j:=⟨i-n,by omega⟩
  obtain⟨q,hq,hx,hm,ag⟩:=o6 j x e1
  rw[List.getElem?_append_right (by rw[List.length_replicate];omega),List.length_replicate,Nat.add_sub_cancel_left,List.getElem?_map,hq] at e2
  have e4:(σ[q]?).join=some v:=Option.some.inj e2
  have aj:σ[q]?=some (some v):=by
   cases z:σ[q]? with
   |none=>rw[z] at e4;cases e4
   |some w=>rw[z] at e4;cases e4;rfl
  obtain⟨c,hc⟩:=ad _ hm rfl
  have kx:X.env.kindOf x=some .cell:=o4 _ hm rfl
  obtain⟨m',ak,ah⟩:=I.loc
  obtain⟨u,r,lk⟩:=ah q x v hx aj (.inr (.inl kx))
  refine⟨u,r,.inr ⟨ag,c,zg0 ad hm hc,?_⟩⟩
  rcases lk with⟨k,_⟩|⟨_,c',af,hv⟩
  ·rw[kx] at k
   cases k
  ·rw[hc] at af
   cases af
   exact hv.keeps old
 ·obtain⟨v,hv⟩:=I.cell x c (zbj ad e)
  exact⟨v,hv.keeps old⟩
 ·exact I.freeC x c (zbj ad e)
 ·have ai:p∈X.pn++pins:=by
   have:p∈(X.pn++pins)++([]:List (Addr×Obj)):=hp
   rw[List.append_nil] at this
   exact this
  obtain⟨q1,q2,q3,q4,q5⟩:=I.pin p ai
  refine⟨old _ _ q1,q2,ae _ (Heap.lt_size q1),fun z=>?_,q5⟩
  rcases List.mem_cons.mp (I.stkSub _ z) with r|r
  ·exact q3 r
  ·exact q4 r
 ·show(List.replicate n none++kp.map fun j=>(σ[j]?).join).length=N'.length
  rw[List.length_append,List.length_replicate,List.length_map,o5]
theorem zt7{pins:List (Addr×Obj)}{s:Shared}{σ:St}{H:Hp}{Q:VK}{use:Option (Value→Sem Unit)}{Qf:Value→Shared→Prop}(hc:X.calm=true)(hi:PI X tg iter wi)(h0:X.env.scope=sc0)(hN:X.N=XN)(ok:zrh sc0 sc XN N' n kp=true)
  (hg:∀C fp pins s H,PG (blk X N' sc C fp pins s H) tg g) (ht:∀C fp pins s H,PTs (blk X N' sc C fp pins s H) cs tc) (he:∀C fp pins s H,PE (blk X N' sc C fp pins s H) elt te) (hs:∀x,foldedSetIterable iter X.env x=pure x)
  (I:Inv X pins σ H s) (h:tLc n kp wi g tc te σ H Q)
  (fin:∀D C ys H' s',Inv X pins σ (upd H' D (.lst ys)) s'→(∃m,s'.heap.Ns C m)→zg1 X pins (upd H' D (.lst ys)) C→Q (.ref D) (upd H' D (.lst ys))→compPost (model X.prog X.w) X.A X.xe use Qf (.ref D) C (.ok .next) s') {pos':Pos}:
  wpAny (model X.prog X.w) X.A (comprehension (.ListComp elt [⟨tg,iter,cs,0⟩] sc pos) sc X.env pos' (newList []) false (firstIter [⟨tg,iter,cs,0⟩] X.env) use) Qf X.xe s:=by
 obtain⟨o1,o2,o3,o4,o5,o6⟩:=zko ok
 have aA:∀y∈sc.names,y.2=.free→∃c,X.env.cells.lookup y.1=some c:=fun y hy e=>I.ok.has y.1 (.inl (by rw[Env.kindOf,h0];exact o4 y hy e))
 refine wpAny_comprehension_free (use:=use) rfl hs (zmn aA) o1 o3 (thn (hi pins s σ H _ I h) fun v s1 h1=>thn h1 fun aM s2 h2=>?_)
 obtain⟨it,fp,tn,J,H2,rfl,I2,T,ap,f2,W,⟨m0,w0⟩,ax⟩:=h2
 have hl:∀b∈fp,b<s2.heap.objs.size:=fun b hb=>by
  obtain⟨o,e,_⟩:=T.obj 0 _ ap b hb
  exact Heap.lt_size e
 refine wpAny_newObj_type (wpAny_newFunctionEnv o2 (by intro y hy;simp at hy) (fun h1 am al=>?_) o1)
 dsimp only at am al ⊢
 generalize hG:s2.heap.push { cls:=.type "list",dict:=none,data:=.seq ([]:List Value).toArray }=G at am al ⊢
 have aN:G.objs.size=s2.heap.objs.size+1:=by rw[←hG,Heap.size_push]
 have af:s2.heap.objs.size≤G.objs.size:=by omega
 have aj:s2.heap.objs.size≠G.objs.size:=by omega
 have ao:∀b o,s2.heap.get? b=some o→h1.get? b=some o:=fun b o e=>by
  have lt:=Heap.lt_size e
  exact al.extBut b o (Nat.ne_of_lt (Nat.lt_of_lt_of_le lt af)) (Heap.get?_push_of_some _ (hG▸Heap.get?_push_of_some _ e))
 have aJ:h1.get? s2.heap.objs.size=some { cls:=.type "list",data:=.seq ([]:List Value).toArray 0 }:=
  al.extBut _ _ aj (Heap.get?_push_of_some _ (hG▸Heap.get?_push_size _ rfl))
 have ak:H2 s2.heap.objs.size=none:=I2.hok.fresh (Nat.le_refl _)
 have aO:H2 G.objs.size=none:=I2.hok.fresh af
 have ai:∀s3:Shared,s3={ s2 with heap:=h1,toks:=s2.toks+([]:List (Str×Value)).length } →
   codeAny (model X.prog X.w) X.A (.compLoop (.ListComp elt [⟨tg,iter,cs,0⟩] sc pos) 0 (.ref it) (.ref s2.heap.objs.size) (compEnvC sc (ze0 sc X.env) G.objs.size X.env))
    (compPost (model X.prog X.w) X.A X.xe use Qf (.ref s2.heap.objs.size) G.objs.size) s3:=by
  rintro s3 rfl
  have I3:=zr2 (fp:=fp) (C:=G.objs.size) (h1:=h1) (tk:=s2.toks+([]:List (Str×Value)).length) I2 h0 hN ok f2 hl af ao am
  have ae:∀{H':Hp} {o:Obj},(∀b∈fp,H' b=none)→∀b∈fp,zg1 (blk X N' sc G.objs.size fp pins s2 H2) [(s2.heap.objs.size,o)] H' b:=fun hn b hb=>by
   have lt:=hl b hb
   refine⟨hn b hb,Nat.ne_of_lt (Nat.lt_of_lt_of_le lt af),I3.ok.exfs b hb,.inl hb,(I3.ok.exf b hb).2,fun p hp=>?_⟩
   rcases List.mem_append.mp hp with z|z
   ·exact(f2 b hb).2.2.2.2.2 p z
   ·have e:p.1=s2.heap.objs.size:=by rw[List.mem_singleton.mp z]
    rw[e]
    exact Nat.ne_of_gt lt
  have av:∀{σ':St} {H':Hp} {s':Shared} {o:Obj},Inv (blk X N' sc G.objs.size fp pins s2 H2) [] σ' H' s'→s'.heap.get? s2.heap.objs.size=some o→(∀v,o.data≠.cell v)→H' s2.heap.objs.size=none →
    Inv (blk X N' sc G.objs.size fp pins s2 H2) [(s2.heap.objs.size,o)] σ' H' s':=fun {σ' H' s' o} J' e hd hn=>J'.pins_of fun p hp=>by
   rw[List.mem_singleton.mp hp]
   exact⟨e,hn,aj,fun z=>by
    rcases List.mem_cons.mp (I2.stkSub _ z) with r|r
    ·exact absurd I2.lt (by rw[←r];exact Nat.lt_irrefl _)
    ·exact I2.nofs (Nat.le_refl _) r,hd⟩
  refine zq0 (fun k s'=>∃(i:Nat)(ys:List V)(ad:List Value)(c:Nat)(σ':St)(H':Hp),Inv (blk X N' sc G.objs.size fp pins s2 H2) [] σ' H' s'∧tn i s'.heap∧(∀b∈fp,H' b=none) ∧
   s'.heap.get? s2.heap.objs.size=some { cls:=.type "list",data:=.seq ad.toArray c }∧Vals ys ad∧H' s2.heap.objs.size=none∧W i k ys σ' H') ?_ m0 _
   ⟨0,[],[],0,_,H2,I3,T.keep _ _ _ ap fun b _ o e=>ao b o e,fun b hb=>(f2 b hb).1,aJ,.nil,ak,w0⟩
  rintro k s' ⟨i,ys,ad,c,σ',H',I',aB,az,aI,hv,nD,w'⟩
  obtain⟨hz,cases⟩:=ax i k ys σ' H' w'
  have aC:=av I' aI (fun v=>by intro z;cases z) nD
  rcases cases with⟨aw,q⟩|⟨go,N,aD,step⟩
  ·refine thn (T.done (blk X N' sc G.objs.size fp pins s2 H2) rfl rfl rfl hc i _ s' σ' H' NoX aC (ae az) aB aw) fun r s4 ⟨hr,I4⟩=>?_
   subst hr
   obtain⟨e4,n4,_⟩:=I4.pin (s2.heap.objs.size,{ cls:=.type "list",data:=.seq ad.toArray c }) (List.mem_append_right _ (List.mem_singleton.mpr rfl))
   have u4:Un (frs X.stack) fp H2 H' s2.heap s4.heap:=I4.base
   have aF:H' G.objs.size=none:=I4.free
   obtain⟨m4,aE,_⟩:=I4.loc
   have aK:∀b o,s2.heap.get? b=some o→b≠s2.heap.objs.size:=fun b o e=>Nat.ne_of_lt (Heap.lt_size e)
   have u5:Un (frs X.stack) fp H2 (upd H' s2.heap.objs.size (.lst ys)) s2.heap s4.heap:=
    ⟨u4.keep,u4.slot,fun b o e nb hx=>by rw[zam (aK b o e)];exact u4.free b o e nb hx,u4.there,fun b xs e=>by rw[zam (zaq e ak)];exact u4.tups b xs e,
     fun b o u e=>by rw[zam (zaq e ak)];exact u4.frzs b o u e,fun b ps e=>by rw[zam (zaq e ak)];exact u4.tbls b ps e⟩
   have ar:HOk X.prog X.w (upd H' s2.heap.objs.size (.lst ys)) s4.heap:=fun a o e=>by
    by_cases ea:a=s2.heap.objs.size
    ·subst ea
     rw[zac] at e
     cases e
     exact⟨hz,ad,c,hv,e4⟩
    ·rw[zam ea] at e
     exact(I4.hok a o e).stay (fun _ _ _ q=>q) (fun b q=>by rw[zam (zaq q nD)];exact q) fun b xs q=>by rw[zam (zaq q nD)];exact q
   have I5:Inv X pins σ (upd H' s2.heap.objs.size (.lst ys)) s4:=I2.call' I4.os u5 ar I4.bare fun b hb=>⟨(f2 b hb).2.2.2.1,(f2 b hb).2.1,(f2 b hb).2.2.2.2.1,(f2 b hb).2.2.2.2.2⟩
   refine fin _ _ ys H' s4 I5 ⟨m4,aE⟩ (I2.fpOk af ?_) (q _ nD)
   rw[zam (Ne.symm aj)]
   exact aF
  ·refine thn (T.item (blk X N' sc G.objs.size fp pins s2 H2) rfl rfl rfl hc i _ s' σ' H' NoX aC (ae az) aB go) fun r s4 ⟨u,hr,h4⟩=>?_
   subst hr
   refine thn h4 fun _ s5 ⟨x,H5,I5,r5,y5,aq,aG⟩=>?_
   have aL:=I5.pinned (ae aG) (T.obj _ _ aq)
   refine thn (hg _ _ _ _ _ _ s5 σ' H5 x u _ aL r5 (step x H5 y5)) fun _ s6 ⟨σ6,H6,I6,q6⟩=>?_
   refine thn (ht _ _ _ _ _ _ s6 σ6 H6 _ I6 q6) fun b s7 ⟨H7,I7,q7⟩=>?_
   have ag:∀{s8:Shared} {H8:Hp} (m':Nat),Inv (blk X N' sc G.objs.size fp pins s2 H2) ([(s2.heap.objs.size,{ cls:=.type "list",data:=.seq ad.toArray c })]++zgn fp s5.heap) σ6 H8 s8 →
     tn (i+1) s8.heap∧(∀b∈fp,H8 b=none)∧s8.heap.get? s2.heap.objs.size=some { cls:=.type "list",data:=.seq ad.toArray c }∧H8 s2.heap.objs.size=none:=fun {s8 H8} m' I8=>by
    have pn:∀p∈[(s2.heap.objs.size,({ cls:=.type "list",data:=.seq ad.toArray c }:Obj))]++zgn fp s5.heap,s8.heap.get? p.1=some p.2∧H8 p.1=none:=fun p hp=>
     let ⟨a,b,_⟩:=I8.pin p (List.mem_append_right _ hp);⟨a,b⟩
    refine⟨T.keep _ _ _ aq fun b hb o e=>(pn (b,o) (List.mem_append_right _ (zdh hb e))).1,fun b hb=>?_,pn _ (List.mem_append_left _ (List.mem_singleton.mpr rfl))⟩
    obtain⟨o,e,_⟩:=T.obj _ _ aq b hb
    exact(pn (b,o) (List.mem_append_right _ (zdh hb e))).2
   have ah:∀{s8:Shared} {H8:Hp} {pl:List (Addr×Obj)},Inv (blk X N' sc G.objs.size fp pins s2 H2) pl σ6 H8 s8→Inv (blk X N' sc G.objs.size fp pins s2 H2) [] σ6 H8 s8:=fun I8=>I8.pins_of fun p hp=>nomatch hp
   cases b with
   |false=>
    rw[if_neg Bool.false_ne_true] at q7 ⊢
    obtain⟨m',lt,w7⟩:=aD _ _ _ q7
    obtain⟨b1,b2,b3,b4⟩:=ag m' I7
    exact⟨m',lt,i+1,ys,ad,c,σ6,H7,ah I7,b1,b2,b3,hv,b4,w7⟩
   |true=>
    rw[if_pos rfl] at q7 ⊢
    refine thn (he _ _ _ _ _ _ s7 σ6 H7 _ I7 q7) fun y s8 ⟨yv,H8,I8,r8,q8⟩=>?_
    obtain⟨m',lt,w8⟩:=aD _ _ _ q8
    obtain⟨b1,b2,b3,b4⟩:=ag m' I8
    have au:=hv.length
    refine append_at (hsz:=by rw[List.size_toArray,←au];exact hz) b3 fun h9 ay e9=>?_
    have I9:Inv (blk X N' sc G.objs.size fp pins s2 H2) [] σ6 H8 { s8 with heap:=h9 }:=(ah I8).turned (t':=s8.toks) (it:=s2.heap.objs.size) (fun b o hb e=>ay.extBut b o hb e) b4 aj (.inr (Nat.le_refl _))
     (fun x c e z=>by
      obtain⟨v,hv⟩:=I2.cell x c (zbj aA e)
      exact absurd hv.lt (by rw[z];exact Nat.lt_irrefl _))
     fun p hp z=>by
      have aH:p∈X.pn++pins:=by
       have:p∈(X.pn++pins)++([]:List (Addr×Obj)):=hp
       rw[List.append_nil] at this
       exact this
      exact absurd (Heap.lt_size (I2.pin p aH).1) (by rw[z];exact Nat.lt_irrefl _)
    refine⟨m',lt,i+1,ys++[yv],ad++[y],c+1,σ6,H8,I9,T.keep _ _ _ b1 fun b hb o e=>ay.extBut b o (Nat.ne_of_lt (hl b hb)) e,b2,?_,hv.append (.cons r8 .nil),b4,w8⟩
    rw[e9]
    simp
 exact codeAny_compStart_list (ai _ rfl) (T.self _ 0 _ _ _ (T.keep _ _ _ ap fun b _ o e=>ao b o e) (ai _ rfl))
theorem zdo(hc:X.calm=true)(hi:PI X tg iter wi)(h0:X.env.scope=sc0)(hN:X.N=XN)(ok:zrh sc0 sc XN N' n kp=true)
  (hg:∀C fp pins s H,PG (blk X N' sc C fp pins s H) tg g) (ht:∀C fp pins s H,PTs (blk X N' sc C fp pins s H) cs tc) (he:∀C fp pins s H,PE (blk X N' sc C fp pins s H) elt te)
  (hs:∀x,foldedSetIterable iter X.env x=pure x:=by intro _;rfl):PE X (.ListComp elt [⟨tg,iter,cs,0⟩] sc pos) (tLc n kp wi g tc te):=by
 intro pins s σ H Q I h
 rw[eval_ListComp]
 refine zt7 hc hi h0 hN ok hg ht he hs I h fun D C ys H' s' I' ns fp q=>?_
 obtain⟨m,hm⟩:=ns
 refine⟨m,hm,fun h' sb=>⟨.ref D,_,?_,rfl,q⟩⟩
 obtain⟨f1,f2,f3,f4,f5,f6⟩:=fp
 exact I'.turned (t':=s'.toks) (it:=C) (fun b o hb e=>sb.extBut b o hb e) f1 f2 f4 f5 f6
end
section
variable {X : Cx} {tg iter elt : Expr} {cs : List Expr} {sc sc0 : Scope} {pos : Pos} {wi : TI} {g : TG} {tc : TT} {te : TE} {XN N' : List Str} {n : Nat} {kp : List Nat}
theorem zgm{i:Nat}{y:Str}{py spos:Pos}(hNd:X.N.Nodup)(hiy:X.N[i]?=some y)(hy:X.env.scope.names.lookup y=some .local)(hsw:swapsWith (.ListComp elt [⟨tg,iter,cs,0⟩] sc pos) (some (.Name y py)) spos.line X.env=pure true)
  (hc:X.calm=true) (hi:PI X tg iter wi) (h0:X.env.scope=sc0) (hN:X.N=XN) (ok:zrh sc0 sc XN N' n kp=true)
  (hg:∀C fp pins s H,PG (blk X N' sc C fp pins s H) tg g) (ht:∀C fp pins s H,PTs (blk X N' sc C fp pins s H) cs tc) (he:∀C fp pins s H,PE (blk X N' sc C fp pins s H) elt te)
  (hs:∀x,foldedSetIterable iter X.env x=pure x:=by intro _;rfl):PS X (.Assign [.Name y py] (.ListComp elt [⟨tg,iter,cs,0⟩] sc pos) spos) (zvh (tLc n kp wi g tc te) (zkv i)):=by
 intro pins s σ H D I h
 rw[exec_Assign_Name_used _ _ _ _ hsw]
 refine wpAny_bind (wpAny_standAt (wpAny_bind ?_))
 have fin:wpAny (model X.prog X.w) X.A (comprehension (.ListComp elt [⟨tg,iter,cs,0⟩] sc pos) sc X.env (firstIterPos [⟨tg,iter,cs,0⟩] pos) (newList []) false (firstIter [⟨tg,iter,cs,0⟩] X.env) (some (assign (.Name y py) X.env)))
   (fun _ s'=>SP X pins D .next s') X.xe s:=by
  refine zt7 (Q:=fun x H1=>zkv i x σ H1 D.nx) hc hi h0 hN ok hg ht he hs I h fun D' C ys H' s' I' ns fp q=>?_
  obtain⟨m,hm⟩:=ns
  obtain⟨f1,f2,f3,f4,f5,f6⟩:=fp
  obtain⟨o,es,ep,ho,rest⟩:=id hm
  have nc:∀v,o.data≠.cell v:=fun v z=>by
   rw[rest.1] at z
   cases z
  have ad:Inv X (pins++[(C,o)]) σ (upd H' D' (.lst ys)) s':=I'.pins_of fun p hp=>by
   rcases List.mem_append.mp hp with z|z
   ·exact I'.pin p (List.mem_append_right _ z)
   ·rw[List.mem_singleton.mp z]
    exact⟨ho,f1,f2,f3,nc⟩
  show wpAny (model X.prog X.w) X.A (assign (.Name y py) X.env (.ref D')) _ X.xe s'
  refine thn (zaw hNd hiy (.inl hy) (.inr hy) _ s' σ _ (.ref D') (.ref D') D.nx ad rfl q) fun _ s'' ⟨σ3,H3,I3,q3⟩=>?_
  obtain⟨p1,p2,_⟩:=I3.pin (C,o) (List.mem_append_right _ (List.mem_append_right _ (List.mem_singleton.mpr rfl)))
  refine⟨m,⟨o,es,ep,p1,rest⟩,fun h' sb=>⟨σ3,H3,?_,q3⟩⟩
  exact I3.unpinned.turned (t':=s''.toks) (it:=C) (fun b o hb e=>sb.extBut b o hb e) p2 f2 f4 f5 f6
 show wpAny (model X.prog X.w) X.A (comprehension _ _ _ _ _ _ _ _>>=_) _ _ s
 exact wpAny_bind (thn fin fun _ s' q=>wpAny_pure (wpAny_pure q))
end
section
variable {X : Cx}
def zbk(T C:String):Option Bool:=if T=C then some true else if PySem.W.kitMeta C=true then (fastBuiltinMro T).map (·.contains (.type C)) else none
theorem zxr{K:PySem.W.Frag}{T C:String}{b:Bool}(h:zbk T C=some b):PySem.W.kitOne K (.type T) (.type C)=some b:=by
 unfold zbk at h
 unfold PySem.W.kitOne
 by_cases e:T=C
 ·subst e
  rw[if_pos rfl] at h
  rw[if_pos (beq_self_eq_true _)]
  exact h
 ·rw[if_neg e] at h
  have z:¬(Value.type T==Value.type C)=true:=fun q=>by
   have q':=eq_of_beq q
   injection q' with ad
   exact e ad
  rw[if_neg z]
  exact h
theorem zsn:zcq X (.builtin "isinstance") (fun xs H Q=>∃(x:V)(T C:String)(b:Bool),xs=[x,.ty C]∧zhe X.K H x (.type T)∧zbk T C=some b∧Q (.bl b) H):=by
 intro pins s σ H xs us Q I r h
 obtain⟨x,T,C,b,rfl,ty,e,q⟩:=h
 obtain⟨u,w',rfl,rx,ry⟩:=zq3 r
 cases(show w'=Value.type C from ry)
 exact zri I rx ty (zxr e) fun tk=>⟨.bl b,H,I.tok tk,rfl,q⟩
theorem zoh:zbk "int" "int" = some true:=by decide +kernel
theorem zmo:zbk "int" "bool" = some false:=by decide +kernel
theorem zct:zbk "list" "list" = some true:=by decide +kernel
theorem zjh:zbk "tuple" "tuple" = some true:=by decide +kernel
theorem zkf(hu:X.A.units+64<cLine):OpR X (compareOp .NotEq) (fun x y H Q=>∃(a b:Addr)(ns ms:List Int),x=.ref a∧y=.ref b∧SqL X.K H a (ns.map V.int)∧SqL X.K H b (ms.map V.int)∧Q (.bl (!decide (ns=ms))) H):=by
 intro pins s σ H x y v u Q I rx ry h
 obtain⟨a,b,ns,ms,rfl,rfl,ha,hb,q⟩:=h
 cases rx
 cases ry
 obtain⟨xs,rv,p,_⟩:=I.list ha
 obtain⟨ys,ad,p',_⟩:=I.list hb
 exact PySem.W.ke_ne_ints p.isList p'.isList (zb7 rv) (zb7 ad) hu ⟨.bl _,H,I,rfl,q⟩
end
section
variable {prog : Program} {w : World} {A : Around} {E : Value → Shared → Prop} {s : Shared}
theorem zpv{j q:Addr}{i:Nat}{its:Array Value}{x:Value}{Q:Value→Shared→Prop}(hj:s.heap.IsTupleIter j q i)(hq:s.heap.IsTuple q its)(hx:its[i]?=some x)
  (k:∀g,g.IsTupleIter j q (i+1)→Heap.SameBut j s.heap g→Q x { s with heap:=g }):wpAny (model prog w) A (Builtin.SmallTypes.nextOf (.ref j)) Q E s:=by
 obtain⟨o,ho,oc,od⟩:=id hj
 obtain⟨p,hp,_,m,pd⟩:=hq
 unfold Builtin.SmallTypes.nextOf
 refine wpAny_bind (wpAny_callSpecial?_slot (name:=Str.ofString "__next__") hj.typeIs F.slot_tuple_iterator_next (wpAny_call_entry F.slot_tuple_iterator_next hj.typeIs F.entry_tuple_iterator_next ?_ (F.args_tuple_iterator_next_1 _)))
 show wpAny _ _ (field (.ref j) 0>>=_) _ _ s
 refine wpAny_bind (wpAny_field ho od (x:=.ref q) rfl ?_)
 show wpAny _ _ (if (Value.ref q==Value.none)=true then _ else _) _ _ s
 rw[if_neg (show ¬((Value.ref q==Value.none)=true) from Bool.false_ne_true)]
 show wpAny _ _ (field (.ref j) 1>>=_) _ _ s
 refine wpAny_bind (wpAny_field ho od (x:=.int i 0) rfl ?_)
 show wpAny _ _ (seqItems? (.ref q)>>=_) _ _ s
 refine wpAny_bind (wpAny_seqItems hp pd ?_)
 simp only[hx,Int.toNat_natCast]
 refine wpAny_bind (wpAny_setField ho od (by simp) (wpAny_pure ⟨x,rfl,wpAny_pure (k _ ⟨_,Heap.get?_update_self _ ho (Obj.isFreed_of_fields (Obj.data_mapFields od _)),(Obj.cls_mapFields ..).trans oc,?_⟩ (Heap.SameBut.update ..))⟩))
 rw[Obj.data_mapFields od]
 simp[rawInt]
theorem zr9{j q:Addr}{i:Nat}{its:Array Value}{Q:Value→Shared→Prop}(hh:A.handled=none)(hj:s.heap.IsTupleIter j q i)(hq:s.heap.IsTuple q its)(hx:its[i]?=none)
  (k:∀g e,Heap.ExtBut j s.heap g→(∃o,g.get? e=some o∧o.cls=.type "StopIteration")→E (.ref e) { s with heap:=g }):wpAny (model prog w) A (Builtin.SmallTypes.nextOf (.ref j)) Q E s:=by
 obtain⟨o,ho,oc,od⟩:=id hj
 obtain⟨p,hp,_,m,pd⟩:=hq
 unfold Builtin.SmallTypes.nextOf
 refine wpAny_bind (wpAny_callSpecial?_slot (name:=Str.ofString "__next__") hj.typeIs F.slot_tuple_iterator_next (wpAny_call_entry F.slot_tuple_iterator_next hj.typeIs F.entry_tuple_iterator_next ?_ (F.args_tuple_iterator_next_1 _)))
 show wpAny _ _ (field (.ref j) 0>>=_) _ _ s
 refine wpAny_bind (wpAny_field ho od (x:=.ref q) rfl ?_)
 show wpAny _ _ (if (Value.ref q==Value.none)=true then _ else _) _ _ s
 rw[if_neg (show ¬((Value.ref q==Value.none)=true) from Bool.false_ne_true)]
 show wpAny _ _ (field (.ref j) 1>>=_) _ _ s
 refine wpAny_bind (wpAny_field ho od (x:=.int i 0) rfl ?_)
 show wpAny _ _ (seqItems? (.ref q)>>=_) _ _ s
 refine wpAny_bind (wpAny_seqItems hp pd ?_)
 simp only[hx,Int.toNat_natCast]
 refine wpAny_bind (wpAny_rule (wpAny_bind (wpAny_setField ho od (by simp) ?_)))
 show wpAny _ _ (newExc (.type "StopIteration") []>>=_) _ _ _;refine wpAny_bind ?_;simp only[newExc,newTuple]
 refine wpAny_bind (wpAny_newObj_type ?_ (by size_fits));refine wpAny_bind (m:=firstArgMember _ _) (wpAny_of_eq (a:=Value.none) (by first|rfl|(simp only[firstArgMember];rfl)) ?_)
 refine wpAny_newObj_type ?_ (by size_fits);simp only[raiseNew];refine wpAny_bind (wpAny_handled ?_);first|rw[show A.in1.handled=none from hh]|rw[hh]
 refine wpAny_bind (wpAny_pure (wpAny_throw ?_));exact k _ _ (((Heap.SameBut.update ..).extBut.push _).push _) ⟨_,Heap.get?_push_size _ rfl,rfl⟩
theorem zrc(hh:A.handled=none)(j q:Addr)(hne:q≠j)(its:Array Value):Draws prog w A j [j,q] its.size (fun i v=>its[i]?=some v) (fun i h=>h.IsTupleIter j q i∧h.IsTuple q its) where
 live:=fun _ _ st=>let ⟨o,ho,_⟩:=st.1;⟨o,ho⟩
 frame:=fun _ _ _ st hk=>⟨st.1.at fun o e=>hk j (by simp) o e,let ⟨o,e,r⟩:=st.2;⟨o,hk q (by simp) o e,r⟩⟩
 item:=fun i s Q E hi st hQ=>zpv st.1 st.2 (x:=its[i]) (by simp[hi]) fun g hj sb=>hQ _ g s.toks (by simp[hi]) ⟨hj,st.2.extBut sb.extBut hne⟩ sb
 done:=fun s Q E st hE=>zr9 hh st.1 st.2 (by simp) hE
open AutoSeq1 (wpAny_loadPart') in
theorem zop(q:Addr)(its:Array Value)(n:Nat)(dct:Option Addr)(sl:Array (Option Value)):
  Meets (Builtin.«enumerate.__new__» ⟨[.type "enumerate",.ref q],[]⟩) (fun _ R s=>s.heap.get? q=some { cls:=.type "tuple",dict:=dct,data:=.seq its n,slots:=sl } ∧
   R (.ok (.ret (.ref (s.heap.push { cls:=.type "tuple_iterator",data:=.fields #[.ref q,.int 0 0] }).objs.size))) { s with heap:=(s.heap.push { cls:=.type "tuple_iterator",data:=.fields #[.ref q,.int 0 0] }).push { cls:=.type "enumerate",data:=.fields #[.none,.bool false,.ref s.heap.objs.size,rawInt 0,.none,.none] } }):=
 .of_wp fun prog w A R s h=>by
  obtain⟨hp,g,d,tk,os⟩:=s
  obtain⟨hq,h⟩:=h
  have hsub:=sub_enumerate
  have hT:Heap.IsTuple (Shared.heap ⟨hp,g,d,tk,os⟩) q its:=⟨_,hq,rfl,n,rfl⟩
  wp_walk using wpAny_loadPart' hq
  refine wpAny_stack_any fun st=>wpAny_pure ?_
  split
  ·rename_i c _ _ _ _ _
   cases(c==Value.type "enumerate")
   ·wp_walk using wpAny_loadPart' hq,wpAny_pyIter_tuple hT
    exact⟨_,rfl,h⟩
   ·wp_walk using wpAny_loadPart' hq,wpAny_pyIter_tuple hT
    exact⟨_,rfl,h⟩
  ·wp_walk using wpAny_loadPart' hq,wpAny_pyIter_tuple hT
   exact⟨_,rfl,h⟩
theorem zpz{q:Addr}{its:Array Value}{Q:Value→Shared→Prop}(hT:s.heap.IsTuple q its)
  (k:∀g,IsEnum g (s.heap.objs.size+1) s.heap.objs.size 0 .none→g.IsTupleIter s.heap.objs.size q 0→(∀b o,s.heap.get? b=some o→g.get? b=some o)→Q (.ref (s.heap.objs.size+1)) { s with heap:=g }):
  wpAny (model prog w) A (call (.type "enumerate") [.ref q]) Q E s:=by
 obtain⟨⟨c,ae,dt,sl⟩,hq,hc,n,hd⟩:=hT
 cases(show c=.type "tuple" from hc)
 cases(show dt=.seq its n from hd)
 refine callType_new F.called_enumerate (by decide) (F.typeCall_enumerate_1 _) (F.newCall_enumerate_1 _) (fun ad=>F.args_object_init_2 ad _) F.entry_enumerate_new (zop q its n ae sl) ⟨hq,?_⟩
 have z:(s.heap.push { cls:=.type "tuple_iterator",data:=.fields #[.ref q,.int 0 0] }).objs.size=s.heap.objs.size+1:=Heap.size_push ..
 have he:IsEnum ((s.heap.push { cls:=.type "tuple_iterator",data:=.fields #[.ref q,.int 0 0] }).push { cls:=.type "enumerate",data:=.fields #[.none,.bool false,.ref s.heap.objs.size,rawInt 0,.none,.none] }) (s.heap.objs.size+1) s.heap.objs.size 0 .none:=by
  have y:=Heap.get?_push_size (s.heap.push { cls:=.type "tuple_iterator",data:=.fields #[.ref q,.int 0 0] }) (o:={ cls:=.type "enumerate",data:=.fields #[.none,.bool false,.ref s.heap.objs.size,rawInt 0,.none,.none] }) rfl
  rw[z] at y
  exact y
 show _∧_
 rw[z]
 exact⟨⟨_,he,rfl⟩,k _ he ⟨_,Heap.get?_push_of_some _ (Heap.get?_push_size _ rfl),rfl,rfl⟩ fun b o y=>Heap.get?_push_of_some _ (Heap.get?_push_of_some _ y)⟩
end
def Sq(K:PySem.W.Frag)(b:Bool)(H:Hp)(a:Addr)(xs:List V):Prop:=if b=true then SqT K H a xs else SqL K H a xs
def Ite(K:PySem.W.Frag)(b:Bool)(a:Addr):It:=
 ⟨fun i H=>∃xs x,Sq K b H a xs∧xs[i]?=some x,fun i H x H'=>∃T v,x=.ref T∧H T=none∧H'=upd H T (.tup [.int i,v])∧∀xs,Sq K b H a xs→xs[i]?=some v,fun i H=>∃xs,Sq K b H a xs∧xs.length=i⟩
def zt1(b:Bool)(h:Heap)(it a:Addr)(i:Nat):Prop:=if b=true then h.IsTupleIter it a i else h.IsListIter it a i
section
variable {X : Cx} {pins : List (Addr × Obj)} {σ : St} {H : Hp} {s : Shared}
theorem Inv.turned2{h':Heap}{t':Nat}{e it T:Addr}{v:V}{u:Value}{i:Int}{tk:Tok}(I:Inv X pins σ H s)(fe:zg1 X pins H e)(fi:zg1 X pins H it)(hT:s.heap.objs.size≤T)(rv:RelV v u)
  (k:∀b o,b≠e→b≠it→s.heap.get? b=some o→h'.get? b=some o) (ke:∃o,h'.get? e=some o) (ki:∃o,h'.get? it=some o) (eT:h'.get? T=some { cls:=.type "tuple",data:=.seq #[.int i tk,u] }):
  Inv X pins σ (upd H T (.tup [.int i,v])) { s with heap:=h',toks:=t' }:=by
 have nT:H T=none:=I.hok.fresh hT
 have ne:∀b o,H b=some o→b≠e∧b≠it:=fun b o q=>⟨zaq q fe.1,zaq q fi.1⟩
 have un:Un (frs X.stack) [e,it] H (upd H T (.tup [.int i,v])) s.heap h':=by
  have ad:∀b,b∉[e,it]→b≠e∧b≠it:=fun b hb=>⟨fun z=>hb (by simp[z]),fun z=>hb (by simp[z])⟩
  have lt:∀b o,s.heap.get? b=some o→b≠T:=fun b o q=>Nat.ne_of_lt (Nat.lt_of_lt_of_le (Heap.lt_size q) hT)
  exact⟨fun b o q _ _ hx=>k b o (ad b hx).1 (ad b hx).2 q,fun b o q _ _ hx=>⟨o.slots,k b o (ad b hx).1 (ad b hx).2 q⟩,fun b o q n _=>by rw[zam (lt b o q)];exact n,fun b o q hx=>⟨o,k b o (ad b hx).1 (ad b hx).2 q⟩,
   fun b xs q=>by rw[zam (zaq q nT)];exact q,fun b o xs q=>by rw[zam (zaq q nT)];exact q,fun b ps q=>⟨#[],by rw[zam (zaq q nT),q];simp⟩⟩
 refine I.call (g':=s.gens) (d':=s.drawn) (ch:=[e,it]) un (fun a o q=>?_) I.bare fun b hb=>?_
 ·by_cases ea:a=T
  ·subst ea
   rw[zac] at q
   cases q
   exact⟨Nat.le_of_lt (zbo (by show 2≤1000;decide)),[.int i tk,u],.cons ⟨tk,rfl⟩ (.cons rv .nil),⟨_,eT,rfl,_,rfl⟩⟩
  ·rw[zam ea] at q
   refine(I.hok a o q).stay (fun b z hb r=>k b z ?_ ?_ r) (fun b r=>by rw[zam (zaq r nT)];exact r) fun b xs r=>by rw[zam (zaq r nT)];exact r
   ·rcases hb with rfl|hb
    ·exact(ne _ _ q).1
    ·exact(ne _ _ hb).1
   ·rcases hb with rfl|hb
    ·exact(ne _ _ q).2
    ·exact(ne _ _ hb).2
 ·rcases List.mem_cons.mp hb with z|z
  ·subst z
   exact⟨fe.2.2.2.1,fe.2.1,fe.2.2.2.2.1,fe.2.2.2.2.2⟩
  ·have z':=List.mem_singleton.mp z
   subst z'
   exact⟨fi.2.2.2.1,fi.2.1,fi.2.2.2.2.1,fi.2.2.2.2.2⟩
end
theorem Sq.inj{X:Cx}{pins:List (Addr×Obj)}{σ:St}{H:Hp}{s:Shared}{b:Bool}{a:Addr}{xs ys:List V}(I:Inv X pins σ H s)(h:Sq X.K b H a xs)(h':Sq X.K b H a ys):xs=ys:=by
 cases b with
 |true=>exact I.tuple_inj h h'
 |false=>exact I.list_inj h h'
theorem zjs{b:Bool}{h:Heap}{it a:Addr}{i:Nat}(st:zt1 b h it a i):∃o,h.get? it=some o∧∀v,o.data≠.cell v:=by
 cases b with
 |true=>
  obtain⟨o,e,_,d⟩:=(show h.IsTupleIter it a i from st)
  exact⟨o,e,fun v z=>by rw[d] at z;cases z⟩
 |false=>
  obtain⟨o,e,_,d⟩:=(show h.IsListIter it a i from st)
  exact⟨o,e,fun v z=>by rw[d] at z;cases z⟩
theorem zjq{X:Cx}{pins:List (Addr×Obj)}{σ:St}{H:Hp}{s:Shared}{b:Bool}{a it:Addr}{xs:List V}(I:Inv X pins σ H s)(hd:X.A.handled=none)(hq:Sq X.K b H a xs)(hne:a≠it):
  ∃(its:List Value)(St:Nat→Heap→Prop),Vals xs its∧Draws X.prog X.w X.A.in1 it [it,a] its.toArray.size (fun i v=>its.toArray[i]?=some v) St∧(∀i,zt1 b s.heap it a i→St i s.heap)∧∀i h,St i h→zt1 b h it a i:=by
 cases b with
 |true=>
  obtain⟨its,rv,p,_⟩:=I.tuple hq
  exact⟨its,fun i h=>h.IsTupleIter it a i∧h.IsTuple a its.toArray,rv,zrc (A:=X.A.in1) hd it a hne its.toArray,fun i st=>⟨st,p⟩,fun i h st=>st.1⟩
 |false=>
  obtain⟨its,rv,p,_⟩:=I.list hq
  exact⟨its,fun i h=>h.IsListIter it a i∧h.IsList a its.toArray,rv,Draws.list (A:=X.A.in1) hd it a hne its.toArray,fun i st=>⟨st,p.isList⟩,fun i h st=>st.1⟩
theorem zre{P:Program}{w:World}{K:PySem.W.Frag}{elts:List Expr}{k:Nat}{pos:Pos}(b:Bool)(a e it:Addr)(hei:e≠it)(hae:a≠e)(hai:a≠it):
  zsz P w K (.Tuple elts k pos) (Ite K b a) [e,it] e (fun i h=>(∃old,IsEnum h e it (i:Int) old)∧zt1 b h it a i) where
 mem:=by simp
 obj:=fun i h st c hc=>by
  rcases List.mem_cons.mp hc with z|z
  ·subst z
   obtain⟨old,q⟩:=st.1
   exact⟨_,q,fun v z=>by
    have z':Data.fields _=Data.cell v:=z
    cases z'⟩
  ·rw[List.mem_singleton.mp z]
   exact zjs st.2
 keep:=fun i h h' st kk=>by
  obtain⟨⟨old,q⟩,st⟩:=st
  refine⟨⟨old,kk e (by simp) _ q⟩,?_⟩
  cases b with
  |true=>exact(show h.IsTupleIter it a i from st).at fun o q=>kk it (by simp) o q
  |false=>exact(show h.IsListIter it a i from st).at fun o q=>kk it (by simp) o q
 item:=by
  intro X hP hw hK hc i pins s σ H E I hf st hg
  subst hP hw hK
  obtain⟨⟨old,he⟩,st⟩:=st
  obtain⟨xs,x,hq,hx⟩:=hg
  obtain⟨ae,St,rv,D,up,dn⟩:=zjq I (I.ok.hd hc) hq hai
  obtain⟨u,hu,ru⟩:=rv.get hx
  have aj:i<ae.toArray.size:=by simpa using (List.getElem?_eq_some_iff.mp hu).1
  have fe:=hf e (by simp)
  have fi:=hf it (by simp)
  have ag:e<s.heap.objs.size:=Heap.lt_size he
  refine wpAny_pyNext_enum_itemD D he (up i st) aj hei (by simp[hei,Ne.symm hae]) fun y g tk hy ho ah hT hsz kk=>?_
  have ey:y=u:=by
   have z:ae.toArray[i]?=some y:=hy
   rw[List.getElem?_toArray,hu] at z
   exact(Option.some.inj z).symm
  subst ey
  refine⟨_,rfl,wpAny_letOwnedTupleGo_enum ho fun g2 af sb=>?_⟩
  have ak:∃o,g2.get? it=some o:=by
   obtain⟨o,q,_⟩:=zjs (dn _ _ ah)
   exact⟨o,(sb.2 it (Ne.symm hei)).trans q⟩
  have I2:=I.turned2 (h':=g2) (t':=tk+1) (T:=s.heap.objs.size) (i:=(i:Int)) (tk:=tk) fe fi (Nat.le_refl _) ru (fun c o h1 h2 q=>(sb.2 c h1).trans (kk c o h1 h2 q)) ⟨_,af⟩ ak ((sb.2 _ (Nat.ne_of_gt ag)).trans hT)
  refine⟨.ref s.heap.objs.size,_,I2,rfl,⟨_,x,rfl,I.hok.fresh (Nat.le_refl _),rfl,fun ys ai=>by rw[Sq.inj I ai hq];exact hx⟩,⟨⟨y,af⟩,?_⟩,fun c ad=>?_⟩
  ·have z:=dn _ _ ah
   cases b with
   |true=>exact(show g.IsTupleIter it a (i+1) from z).at fun o q=>(sb.2 it (Ne.symm hei)).trans q
   |false=>exact(show g.IsListIter it a (i+1) from z).at fun o q=>(sb.2 it (Ne.symm hei)).trans q
  ·have nz:H c=none:=(hf c ad).1
   have cl:c<s.heap.objs.size:=by
    rcases List.mem_cons.mp ad with z|z
    ·rw[z];exact ag
    ·rw[List.mem_singleton.mp z]
     obtain⟨o,q,_⟩:=zjs st
     exact Heap.lt_size q
   rw[zam (Nat.ne_of_lt cl)]
   exact nz
 done:=by
  intro X hP hw hK hc i pins s σ H E I hf st hg
  subst hP hw hK
  obtain⟨⟨old,he⟩,st⟩:=st
  obtain⟨xs,hq,hx⟩:=hg
  obtain⟨ae,St,rv,D,up,dn⟩:=zjq I (I.ok.hd hc) hq hai
  obtain⟨f0,f1,f2,f3,f4,f5⟩:=hf it (by simp)
  have hl:=rv.length
  have e1:i=ae.toArray.size:=by
   rw[List.size_toArray]
   omega
  refine wpAny_pyNext_enum_endD D he (by rw[←e1];exact up i st) fun g eb=>⟨rfl,I.turned (t':=s.toks) (fun c o ad q=>eb c o ad q) f0 f1 f3 f4 f5⟩
 self:=fun _ _ _ _ _ st h=>by
  obtain⟨⟨old,he⟩,_⟩:=st
  exact wpAny_pyIter_enum he h
def zyv(K:PySem.W.Frag)(ta:TA):TI:=fun σ H R=>ta σ H fun vs H1=>∃(b:Bool)(a:Addr),vs=[.ref a]∧(∃xs,Sq K b H1 a xs)∧R (Ite K b a) H1
theorem zq5{X:Cx}{elts:List Expr}{k:Nat}{pos p pos':Pos}{a:Expr}{ta:TA}(hg:Gl X "enumerate")(hm:X.mg "enumerate" = none)(ha:PA X [a] ta)(hs:starEach [a] X.env=[(false,eval a X.env)]:=by rfl):
  PI X (.Tuple elts k pos) (.Call (.Name "enumerate" p) [a] [] pos') (zyv X.K ta):=by
 intro pins s σ H R I h
 refine Call_ (ziv I hg hm PyProof.Rows.boot_enumerate (PyProof.Rows.callWith_type1 (thn (ha pos' pins s σ H _ I h) fun us s1 ⟨vs,H1,I1,r1,q1⟩=>?_) hs rfl))
 obtain⟨b,c,rfl,⟨xs,hq⟩,q⟩:=q1
 obtain⟨u,rfl,ru⟩:=zer r1
 cases ru
 have fin:∀g:Heap,IsEnum g (s1.heap.objs.size+1) s1.heap.objs.size 0 .none→zt1 b g s1.heap.objs.size c 0→(∀d o,s1.heap.get? d=some o→g.get? d=some o)→c<s1.heap.objs.size →
   wpAny (model X.prog X.w) X.A (pyIter (.ref (s1.heap.objs.size+1))) (PIE X pins σ (.Tuple elts k pos) R) X.xe { s1 with heap:=g }:=fun g he hi kk cl=>by
  refine wpAny_pyIter_enum he ?_
  refine⟨s1.heap.objs.size+1,[s1.heap.objs.size+1,s1.heap.objs.size],_,_,H1,rfl,I1.kept (t':=s1.toks) kk,zre b c _ _ (Nat.succ_ne_self _) (Nat.ne_of_lt (Nat.lt_succ_of_lt cl)) (Nat.ne_of_lt cl),⟨⟨.none,he⟩,hi⟩,fun d hd=>?_,q⟩
  have le:s1.heap.objs.size≤d:=by
   rcases List.mem_cons.mp hd with z|z
   ·rw[z];exact Nat.le_succ _
   ·rw[List.mem_singleton.mp z];exact Nat.le_refl _
  exact I1.fpOk le (I1.hok.fresh le)
 cases b with
 |true=>
  obtain⟨ad,rv,pt,_⟩:=I1.tuple hq
  exact zpz (show s1.heap.IsTuple c ad.toArray from pt) fun g he hi kk=>fin g he hi kk pt.lt
 |false=>
  obtain⟨ad,rv,pl,_⟩:=I1.list hq
  have hl:=pl.isList
  exact call_enumerate_list hl fun g he hi _ kk=>fin g he hi kk (by obtain⟨o,e,_⟩:=hl;exact Heap.lt_size e)
theorem zof{K:PySem.W.Frag}{b:Bool}{a:Addr}{xs:List V}{g:TG}{tb:TS}{D:zjd}{σ:St}{H:Hp}(Pv:Nat→St→Hp→Prop)(h0:Pv 0 σ H)(hl:∀i σ H,i≤xs.length→Pv i σ H→Sq K b H a xs)
  (hs:∀i x σ H,xs[i]?=some x→Pv i σ H→∀T,H T=none→g (.ref T) σ (upd H T (.tup [.int i,x])) fun σ2 H2=>tb { D with nx:=Pv (i+1),ct:=Pv (i+1),bk:=D.nx } σ2 H2) (hd:∀σ H,Pv xs.length σ H→D.nx σ H):
  ∃W:Nat→Nat→St→Hp→Prop,(∃m,W 0 m σ H)∧∀i m σ H,W i m σ H →
   ((Ite K b a).stop i H∧D.nx σ H)∨((Ite K b a).go i H∧∃N:St→Hp→Prop,(∀σ' H',N σ' H'→∃m',m'<m∧W (i+1) m' σ' H')∧∀x H',(Ite K b a).yld i H x H'→g x σ H' fun σ2 H2=>tb { D with nx:=N,ct:=N,bk:=D.nx } σ2 H2):=by
 refine⟨fun i m σ H=>m=xs.length-i∧i≤xs.length∧Pv i σ H,⟨xs.length,by simp,Nat.zero_le _,h0⟩,?_⟩
 rintro i m σ H ⟨rfl,hi,p⟩
 have q:=hl i σ H hi p
 by_cases ad:i<xs.length
 ·refine .inr ⟨⟨xs,xs[i],q,by simp[ad]⟩,Pv (i+1),fun σ' H' p'=>⟨xs.length-(i+1),by omega,rfl,ad,p'⟩,fun x H' y=>?_⟩
  obtain⟨T,v,rfl,hT,rfl,hv⟩:=y
  exact hs i v σ H (hv xs q) p T hT
 ·have e:i=xs.length:=by omega
  subst e
  exact .inl ⟨⟨xs,q,rfl⟩,hd σ H p⟩
end L2
namespace L2
open PySem PySem.Spec PyProof.Rows
section
variable {X : Cx}
theorem znt:zcq X (.builtin "sorted") (fun xs H Q=>∃(p:Addr)(ns:List Int),xs=[.ref p]∧SqL X.K H p (ns.map V.int)∧ns.length<64∧∀ms:List Int,ms.Perm ns→ms.Pairwise (·≤·)→∀l,H l=none→Q (.ref l) (upd H l (.lst (ms.map V.int)))):=by
 intro pins s σ H xs us Q I r h
 obtain⟨p,ns,rfl,hq,hz,q⟩:=h
 obtain⟨u,rfl,rx⟩:=zer r
 cases rx
 obtain⟨ag,rv,pl,af⟩:=I.list hq
 have ad:=rv.length
 rw[List.length_map] at ad af
 refine sorted_ints pl.isList (zb7 rv) (by omega) fun ae ms a1 a2 a3=>?_
 obtain⟨e,he⟩:=sortedAll_at s.heap ag ae
 have hm:ms.length=ns.length:=a2.length_eq
 refine⟨.ref (s.heap.objs.size+1),_,I.laid (t':=s.toks) (fun b o=>sortedAll_old) (Nat.le_succ _) (show ObjOk X.prog X.w _ _ _ (.lst (ms.map V.int)) from⟨by rw[List.length_map,hm];exact af,ae.toList,e,zgr a1,he⟩),rfl,q ms a2 a3 _ (I.hok.fresh (Nat.le_succ _))⟩
theorem zsf:zcq X (.type "range") (fun xs H Q=>∃i j:Int,xs=[.int i,.int j]∧∀p,H p=none→Q (.ref p) (upd H p (.rng i j))):=by
 intro pins s σ H xs us Q I r h
 obtain⟨i,j,rfl,q⟩:=h
 obtain⟨u,w',rfl,⟨t,rfl⟩,⟨t',rfl⟩⟩:=zq3 r
 refine call_range_2 ⟨.ref s.heap.objs.size,_,I.laid (fun b o e=>Heap.get?_push_of_some _ e) (Nat.le_refl _) (show ObjOk X.prog X.w _ _ _ (.rng i j) from⟨t,t',_,Heap.get?_push_size _ rfl⟩),rfl,q _ (I.hok.fresh (Nat.le_refl _))⟩
theorem zqw{P:Nat→Value→Prop}{f:Nat→V}(hP:∀i v,P i v→RelV (f i) v):∀(n k:Nat)(l:List Value),l.length=n→(∀j v,l[j]?=some v→P (k+j) v)→Vals ((List.range' k n).map f) l
 |0,k,[],_,_=>.nil
 |n+1,k,v::r,hl,h=>by
  rw[List.range'_succ,List.map_cons]
  refine .cons (hP _ _ (h 0 v rfl)) (zqw hP n (k+1) r (by simpa using hl) fun j v' e=>?_)
  have:=h (j+1) v' (by simpa using e)
  rw[show k+1+j=k+(j+1) by omega]
  exact this
 |0,_,_::_,hl,_=>by simp at hl
 |n+1,_,[],hl,_=>by simp at hl
theorem zg7(hc:X.calm=true):zcq X (.type "list") (fun xs H Q=>∃(p:Addr)(lo hi:Int),xs=[.ref p]∧H p=some (.rng lo hi)∧-(2^62)≤lo∧lo<2^62∧-(2^62)≤hi∧hi<2^62∧(hi-lo).toNat≤1000∧∀l,H l=none→Q (.ref l) (upd H l (.lst ((List.range' 0 (hi-lo).toNat).map fun i:Nat=>V.int (lo+i))))):=by
 intro pins s σ H xs us Q I r h
 obtain⟨p,lo,hi,rfl,hp,b1,b2,b3,b4,hz,q⟩:=h
 obtain⟨u,rfl,rx⟩:=zer r
 cases rx
 obtain⟨t,u,v,e⟩:=(show ObjOk X.prog X.w H s.heap p (.rng lo hi) from I.hok p _ hp)
 have hn:Builtin.Range.rangeSize lo hi 1=(((hi-lo).toNat:Nat):Int):=by
  rw[rangeSize_one]
  split<;>omega
 refine call_list_range (I.ok.hd hc) e (small_one b1 b2 b3 b4) hn (Nat.le_trans hz (by decide)) fun g tk ad c kk eg ae=>?_
 obtain⟨sz,it⟩:=ae
 have vv:Vals ((List.range' 0 (hi-lo).toNat).map fun i:Nat=>V.int (lo+i)) ad.toList:=by
  refine zqw (P:=fun i v=>∃t,v=.int (lo+i*1) t) (fun i v hv=>?_) _ 0 ad.toList (by simpa using sz) fun j v ej=>?_
  ·obtain⟨t,rfl⟩:=hv
   exact⟨t,by rw[Int.mul_one]⟩
  ·have:=it j v (by simpa using ej)
   rw[Nat.zero_add]
   exact this
 refine⟨.ref s.heap.objs.size,_,I.laid (t':=tk) kk (Nat.le_refl _) (show ObjOk X.prog X.w _ _ _ (.lst _) from⟨?_,ad.toList,c,vv,eg⟩),rfl,q _ (I.hok.fresh (Nat.le_refl _))⟩
 rw[List.length_map,List.length_range']
 exact Nat.le_of_lt (zbo hz)
open AutoSeq1 (wpAny_loadPart') in
theorem zp1(l:Addr)(its:Array Value)(n:Nat)(b:Addr)(its2:Array Value)(n2:Nat)(dct:Option Addr)(sl:Array (Option Value))(h0:¬(!its.isEmpty&&Builtin.List.listTooLong (its.size+its2.size))=true)(h1:its.size≤sizeLine)(h2:its.size+its2.size≤sizeLine+1):
  Meets (Builtin.«list.extend» ⟨[.ref l,.ref b],[]⟩) (fun _ R s=>s.heap.get? l=some { cls:=.type "list",dict:=none,data:=.seq its n,slots:=#[] }∧s.heap.get? b=some { cls:=.type "tuple",dict:=dct,data:=.seq its2 n2,slots:=sl }∧R (.ok (.ret Value.none)) { s with heap:=s.heap.update l (Obj.mapSeq fun x=>x++its2),toks:=s.toks }):=
 .of_wp fun prog w A R s h=>by
  obtain⟨hp,g,d,tk,os⟩:=s
  obtain⟨hl,hb,h⟩:=h
  have f1:=sub_tuple_tuple;have f2:=sub_list_list;have f3:=sub_tuple_list;have f4:=sub_list_tuple
  have hz:(its++its2).size≤sizeLine+1:=by
   rw[Array.size_append]
   exact h2
  wp_walk using (wpAny_updateSeq hl rfl (hz:=h1) (_hz':=hz)),wpAny_loadPart' hl,wpAny_loadPart' hb
  exact⟨_,rfl,h⟩
theorem zpi:MtM X "list.extend" (fun x vs H Q=>∃l b xs zs,x=.ref l∧vs=[.ref b]∧H l=some (.lst xs)∧H b=some (.tup zs)∧xs.length+zs.length≤sizeLine∧Q .non (upd H l (.lst (xs++zs)))):=by
 intro pins s σ H x vs v us Q I rx rv h
 obtain⟨l,b,xs,zs,rfl,rfl,hH,hB,hz,q⟩:=h
 cases rx
 obtain⟨u,rfl,ru⟩:=rv.one
 cases ru
 obtain⟨z,ae,n,r,hl,e⟩:=I.lstM hH
 obtain⟨ad,r2,⟨⟨c2,d2,af,ah⟩,e2,ai,n2,ag⟩,z2⟩:=I.tuple (.inl (.inl hB))
 cases(show c2=.type "tuple" from ai)
 cases(show af=.seq ad.toArray n2 from ag)
 have aj:=r2.length
 have hsz:ae.toArray.size+ad.toArray.size≤sizeLine:=by rw[List.size_toArray,List.size_toArray];omega
 refine call_meets F.slot_list_extend ⟨_,e,rfl⟩ F.entry_list_extend (F.args_list_extend_2 _ _) (zp1 l ae.toArray n b ad.toArray n2 d2 ah (by rw[zuq hsz,Bool.and_false];exact Bool.false_ne_true) (by rw[List.size_toArray];omega) (by omega)) ⟨e,e2,?_⟩
 refine⟨.non,_,I.lset (its':=ae++ad) hH e (by simp) (r.append r2) ?_,rfl,q⟩
 rw[List.length_append]
 omega
def zzr(K:PySem.W.Frag)(tl:TE):TI:=fun σ H R=>tl σ H fun x H1=>∃a,x=.ref a∧(((∃xs,SqL K H1 a xs)∧R (Itl K a) H1)∨((∃xs,SqT K H1 a xs)∧R (Itt K a) H1))
theorem zue{tg l:Expr}{tl:TE}(hl:PE X l tl):PI X tg l (zzr X.K tl):=by
 intro pins s σ H R I h
 refine thn (hl pins s σ H _ I h) fun v s1 ⟨x,H1,I1,r1,q1⟩=>?_
 obtain⟨a,rfl,q⟩:=q1
 cases r1
 rcases q with⟨⟨xs,hq⟩,q⟩|⟨⟨xs,hq⟩,q⟩
 ·obtain⟨ad,rv,p,hz⟩:=I1.list hq
  refine wpAny_pyIter_list p.isList ⟨s1.heap.objs.size,[s1.heap.objs.size],_,_,H1,rfl,I1.kept (t':=s1.toks) fun b o e=>Heap.get?_push_of_some _ e,zlk a _,⟨_,Heap.get?_push_size _ rfl,rfl,rfl⟩,fun b hb=>?_,q⟩
  rw[List.mem_singleton.mp hb]
  exact I1.fpOk (Nat.le_refl _) (I1.hok.fresh (Nat.le_refl _))
 ·obtain⟨ad,rv,p,hz⟩:=I1.tuple hq
  refine wpAny_pyIter_tuple (show s1.heap.IsTuple a ad.toArray from p) ⟨s1.heap.objs.size,[s1.heap.objs.size],_,_,H1,rfl,I1.kept (t':=s1.toks) fun b o e=>Heap.get?_push_of_some _ e,zkw a _,⟨_,Heap.get?_push_size _ rfl,rfl,rfl⟩,fun b hb=>?_,q⟩
  rw[List.mem_singleton.mp hb]
  exact I1.fpOk (Nat.le_refl _) (I1.hok.fresh (Nat.le_refl _))
theorem zg8(hc:X.calm=true):zcq X (.builtin "sum") (fun xs H Q=>∃(p:Addr)(ns:List Int),xs=[.ref p]∧SqL X.K H p (ns.map V.int)∧Q (.int ns.sum) H):=by
 intro pins s σ H xs us Q I r h
 obtain⟨p,ns,rfl,hq,q⟩:=h
 obtain⟨u,rfl,rx⟩:=zer r
 cases rx
 obtain⟨ae,rv,pl,af⟩:=I.list hq
 have ia:=zb7 rv
 obtain⟨ps,hx⟩:=ia.allInts.items
 have ad:s.heap.IsList p (intItems ps):=hx▸pl.isList
 refine sum_intListG (I.ok.hd hc) ad fun g tk t' hk=>?_
 have e1:ns=ps.toList.map (·.1):=by
  rw[←nums_intItems,←hx]
  exact(show numsOf ae.toArray.toList=ns from ia.numsOf).symm
 have e2:preSum (numAt ps) ps.size=ns.sum:=by
  rw[preSum_eq,List.take_of_length_le (by simp),e1]
 rw[e2]
 exact⟨.int _,H,I.kept (t':=tk) hk,⟨t',rfl⟩,q⟩
end
section
variable {X : Cx} {K : PySem.W.Frag}
theorem ixT(h:X.K=K:=by rfl):IxR X (zyf K):=h▸zmv
theorem ixL(h:X.K=K:=by rfl):IxR X (zx9 K):=h▸zvq
theorem zb9(h:X.K=K:=by rfl):zcq X (.builtin "len") (fun xs H Q=>∃p ys,xs=[.ref p]∧(SqL K H p ys∨SqT K H p ys)∧Q (.int ys.length) H):=h▸zmz
theorem inS(h:X.K=K:=by rfl):OpR X (compareOp .In) (rIn K false):=h▸zq9
theorem zii(h:X.K=K:=by rfl):zcq X (.builtin "isinstance") (fun xs H Q=>∃(x:V)(T C:String)(b:Bool),xs=[x,.ty C]∧zhe K H x (.type T)∧zbk T C=some b∧Q (.bl b) H):=h▸zsn
end
mutual
def Dn(H:Hp):PyData→V→Prop
 |.none,v=>v=.non
 |.bool b,v=>v=.bl b
 |.int i,v=>v=.int i
 |.str x,v=>v=.str x
 |.list ds,v=>∃a xs,v=.ref a∧H a=some (.lst xs)∧DnL H ds xs
 |.tuple ds,v=>∃a xs,v=.ref a∧H a=some (.tup xs)∧DnL H ds xs
 |.dict kvs,v=>kvs=[]∧∃a,v=.ref a∧H a=some (.dK [])
def DnL(H:Hp):List PyData→List V→Prop
 |[],xs=>xs=[]
 |d::ds,xs=>∃x r,xs=x::r∧Dn H d x∧DnL H ds r
end
mutual
theorem Dn.same{H H':Hp}(h:Same H H'):∀(d:PyData)(v:V),Dn H d v→Dn H' d v
 |.none,_,q=>q
 |.bool _,_,q=>q
 |.int _,_,q=>q
 |.str _,_,q=>q
 |.list ds,_,⟨a,xs,e,q,r⟩=>⟨a,xs,e,h _ _ q,DnL.same h ds xs r⟩
 |.tuple ds,_,⟨a,xs,e,q,r⟩=>⟨a,xs,e,h _ _ q,DnL.same h ds xs r⟩
 |.dict _,_,⟨e,a,q,r⟩=>⟨e,a,q,h _ _ r⟩
theorem DnL.same{H H':Hp}(h:Same H H'):∀(ds:List PyData)(xs:List V),DnL H ds xs→DnL H' ds xs
 |[],_,q=>q
 |d::ds,_,⟨x,r,e,q,z⟩=>⟨x,r,e,Dn.same h d x q,DnL.same h ds r z⟩
end
theorem DnL.length{H:Hp}:∀{ds:List PyData} {xs:List V},DnL H ds xs→ds.length=xs.length
 |[],_,q=>by cases(show _=[] from q);rfl
 |d::ds,_,⟨x,r,e,_,z⟩=>by rw[e,List.length_cons,List.length_cons,DnL.length z]
theorem DnL.get{H:Hp}:∀{ds:List PyData} {xs:List V} {i:Nat} {x:V},DnL H ds xs→xs[i]?=some x→∃d,ds[i]?=some d∧Dn H d x
 |[],_,i,x,q,e=>by rw[(show _=[] from q)] at e;simp at e
 |d::ds,_,0,x,⟨y,r,e,q,z⟩,h=>by rw[e] at h;cases h;exact⟨d,rfl,q⟩
 |d::ds,_,i+1,x,⟨y,r,e,q,z⟩,h=>by
  rw[e] at h
  obtain⟨d',h1,h2⟩:=DnL.get (i:=i) z (by simpa using h)
  exact⟨d',by simpa using h1,h2⟩
theorem DnL.get'{H:Hp}:∀{ds:List PyData} {xs:List V} {i:Nat} {d:PyData},DnL H ds xs→ds[i]?=some d→∃x,xs[i]?=some x∧Dn H d x
 |[],_,i,x,q,e=>by simp at e
 |d::ds,_,0,x,⟨y,r,e,q,z⟩,h=>by cases h;exact⟨y,by rw[e];rfl,q⟩
 |d::ds,_,i+1,x,⟨y,r,e,q,z⟩,h=>by
  obtain⟨d',h1,h2⟩:=DnL.get' (i:=i) z (by simpa using h)
  exact⟨d',by rw[e];simpa using h1,h2⟩
theorem DnL.append{H:Hp}:∀{ds es:List PyData} {xs ys:List V},DnL H ds xs→DnL H es ys→DnL H (ds++es) (xs++ys)
 |[],es,xs,ys,q,r=>by rw[(show xs=[] from q)];exact r
 |d::ds,es,_,ys,⟨x,t,e,q,z⟩,r=>⟨x,t++ys,by rw[e];rfl,q,DnL.append z r⟩
mutual
theorem Dn.reads{X:Cx}{pins:List (Addr×Obj)}{σ:St}{H:Hp}{s:Shared}(I:Inv X pins σ H s):∀(d:PyData)(v:V)(u:Value),Dn H d v→d.canLay0=true→RelV v u→∃as,Reads s.heap u d as
 |.none,v,u,q,_,r=>by cases(show v=.non from q);cases(show u=Value.none from r);exact⟨_,.none⟩
 |.bool b,v,u,q,_,r=>by cases(show v=.bl b from q);cases(show u=Value.bool b from r);exact⟨_,.bool b⟩
 |.int i,v,u,q,_,r=>by cases(show v=.int i from q);obtain⟨t,rfl⟩:=(show ∃t,u=Value.int i t from r);exact⟨_,.int i t⟩
 |.str x,v,u,q,_,r=>by cases(show v=.str x from q);obtain⟨t,rfl⟩:=(show ∃t,u=Value.str x t from r);exact⟨_,.str x t⟩
 |.list ds,_,u,⟨a,xs,rfl,q,z⟩,c,r=>by
  cases(show u=Value.ref a from r)
  obtain⟨_,its,n,rv,e⟩:=(show ObjOk X.prog X.w H s.heap a (.lst xs) from I.hok a _ q)
  obtain⟨as,ra⟩:=DnL.reads I ds xs its z (by simpa [PyData.canLay0] using c) rv
  exact⟨_,.list e rfl rfl (by simpa using ra)⟩
 |.tuple ds,_,u,⟨a,xs,rfl,q,z⟩,c,r=>by
  cases(show u=Value.ref a from r)
  obtain⟨_,its,rv,o,e,hc,n,hd⟩:=(show ObjOk X.prog X.w H s.heap a (.tup xs) from I.hok a _ q)
  obtain⟨as,ra⟩:=DnL.reads I ds xs its z (by simpa [PyData.canLay0] using c) rv
  exact⟨_,.tuple e hc hd (by simpa using ra)⟩
 |.dict k,v,u,_,c,_=>by simp[PyData.canLay0] at c
theorem DnL.reads{X:Cx}{pins:List (Addr×Obj)}{σ:St}{H:Hp}{s:Shared}(I:Inv X pins σ H s):∀(ds:List PyData)(xs:List V)(us:List Value),DnL H ds xs→PyData.canLayAll0 ds=true→Vals xs us→∃as,ReadsAll s.heap us ds as
 |[],xs,us,q,_,r=>by
  cases(show xs=[] from q)
  cases r
  exact⟨_,.nil⟩
 |d::ds,_,us,⟨x,t,rfl,q,z⟩,c,r=>by
  cases r with
  |cons rx rt=>
   have c':PyData.canLay0 d=true∧PyData.canLayAll0 ds=true:=by simpa [PyData.canLayAll0] using c
   obtain⟨a1,r1⟩:=Dn.reads I d x _ q c'.1 rx
   obtain⟨a2,r2⟩:=DnL.reads I ds t _ z c'.2 rt
   exact⟨_,.cons r1 r2⟩
end
theorem zjw{X:Cx}(hu:X.A.units+64<cLine):OpR X (compareOp .NotEq) (fun x y H Q=>∃d e:PyData,Dn H d x∧Dn H e y∧SeqAt.shaped d=true∧SeqAt.shaped e=true∧Q (.bl (!PyData.eqv d e)) H):=by
 intro pins s σ H x y v u Q I rx ry h
 obtain⟨d,e,hd,he,sd,se,q⟩:=h
 obtain⟨as,ra⟩:=Dn.reads I d x v hd (SeqAt.canLay_of_shaped sd) rx
 obtain⟨bs,rb⟩:=Dn.reads I e y u he (SeqAt.canLay_of_shaped se) ry
 exact ne_dataH ra rb sd se hu ⟨.bl _,H,I,rfl,q⟩
mutual
theorem zic:∀d:PyData,d.canLay0=true→PyData.eqv d d=true
 |.none,_=>by simp[PyData.eqv]
 |.bool _,_=>by simp[PyData.eqv]
 |.int _,_=>by simp[PyData.eqv]
 |.str _,_=>by simp[PyData.eqv]
 |.list ds,c=>by simpa [PyData.eqv] using zgg ds (by simpa [PyData.canLay0] using c)
 |.tuple ds,c=>by simpa [PyData.eqv] using zgg ds (by simpa [PyData.canLay0] using c)
 |.dict _,c=>by simp[PyData.canLay0] at c
theorem zgg:∀ds:List PyData,PyData.canLayAll0 ds=true→PyData.eqvAll ds ds=true
 |[],_=>by simp[PyData.eqvAll]
 |d::ds,c=>by
  have c':PyData.canLay0 d=true∧PyData.canLayAll0 ds=true:=by simpa [PyData.canLayAll0] using c
  simp[PyData.eqvAll,zic d c'.1,zgg ds c'.2]
end
end L2
namespace Wd
open PySem L2
def tyN:PyData→String
 |.none => "NoneType" | .bool _ => "bool" | .int _ => "int" | .str _ => "str" | .list _ => "list" | .tuple _ => "tuple" | .dict _ => "dict"
def isW:PyData→Bool
 |.int _=>true
 |_=>false
def isInt:PyData→Bool
 |.int _=>true
 |.bool _=>true
 |_=>false
def zus:PyData→Bool
 |.bool _=>true
 |_=>false
def zwa:PyData→Bool
 |.tuple _=>true
 |_=>false
def zyu:PyData→Bool
 |.str _=>true
 |_=>false
theorem zny{K:PySem.W.Frag}{H:Hp}:∀{d:PyData} {v:V},Dn H d v→zhe K H v (.type (tyN d))
 |.none,v,q=>by cases(show v=.non from q);exact .non
 |.bool b,v,q=>by cases(show v=.bl b from q);exact .bl b
 |.int i,v,q=>by cases(show v=.int i from q);exact .int i
 |.str x,v,q=>by cases(show v=.str x from q);exact .str x
 |.list ds,_,⟨a,xs,rfl,q,_⟩=>.lst q
 |.tuple ds,_,⟨a,xs,rfl,q,_⟩=>.tup q
 |.dict k,_,⟨_,a,rfl,q⟩=>.dK q
theorem zx2:∀d:PyData,zbk (tyN d) "int" = some (isInt d)
 |.none=>(by decide +kernel:zbk "NoneType" "int" = some false)
 |.bool _=>(by decide +kernel:zbk "bool" "int" = some true)
 |.int _=>(by decide +kernel:zbk "int" "int" = some true)
 |.str _=>(by decide +kernel:zbk "str" "int" = some false)
 |.list _=>(by decide +kernel:zbk "list" "int" = some false)
 |.tuple _=>(by decide +kernel:zbk "tuple" "int" = some false)
 |.dict _=>(by decide +kernel:zbk "dict" "int" = some false)
theorem zvk:∀d:PyData,zbk (tyN d) "bool" = some (zus d)
 |.none=>(by decide +kernel:zbk "NoneType" "bool" = some false)
 |.bool _=>(by decide +kernel:zbk "bool" "bool" = some true)
 |.int _=>(by decide +kernel:zbk "int" "bool" = some false)
 |.str _=>(by decide +kernel:zbk "str" "bool" = some false)
 |.list _=>(by decide +kernel:zbk "list" "bool" = some false)
 |.tuple _=>(by decide +kernel:zbk "tuple" "bool" = some false)
 |.dict _=>(by decide +kernel:zbk "dict" "bool" = some false)
theorem zsi:∀d:PyData,zbk (tyN d) "tuple" = some (zwa d)
 |.none=>(by decide +kernel:zbk "NoneType" "tuple" = some false)
 |.bool _=>(by decide +kernel:zbk "bool" "tuple" = some false)
 |.int _=>(by decide +kernel:zbk "int" "tuple" = some false)
 |.str _=>(by decide +kernel:zbk "str" "tuple" = some false)
 |.list _=>(by decide +kernel:zbk "list" "tuple" = some false)
 |.tuple _=>(by decide +kernel:zbk "tuple" "tuple" = some true)
 |.dict _=>(by decide +kernel:zbk "dict" "tuple" = some false)
theorem zwr:∀d:PyData,zbk (tyN d) "str" = some (zyu d)
 |.none=>(by decide +kernel:zbk "NoneType" "str" = some false)
 |.bool _=>(by decide +kernel:zbk "bool" "str" = some false)
 |.int _=>(by decide +kernel:zbk "int" "str" = some false)
 |.str _=>(by decide +kernel:zbk "str" "str" = some true)
 |.list _=>(by decide +kernel:zbk "list" "str" = some false)
 |.tuple _=>(by decide +kernel:zbk "tuple" "str" = some false)
 |.dict _=>(by decide +kernel:zbk "dict" "str" = some false)
def zbh(d:PyData)(lo hi:Int):Bool:=match d with
 |.int i=>decide (lo≤i)&&decide (i≤hi)
 |_=>false
def zdi(d:PyData)(n:Int):Bool:=match d with
 |.tuple ds=>decide ((ds.length:Int)=n)
 |_=>false
def zcl(d:PyData):Bool:=match d with
 |.tuple ds=>decide (0<ds.length)
 |_=>false
def za2(many:Int):List PyData→Int→Bool
 |[],_=>true
 |.int i::ds,last=>decide (last+1≤i)&&decide (i≤many-1)&&za2 many ds i
 |_::_,_=>false
def zsw(many:Int):PyData→PyData→Bool
 |.int up,.tuple ks=>za2 many ks up
 |_,_=>false
def zqr(h:PyData):PyData→Bool
 |.tuple ks=>zbh h 1 ks.length
 |_=>false
def zwt(l:PyData):PyData→Bool
 |.int hi=>zbh l 0 hi
 |_=>false
def zcv(many:Int)(d:PyData):Bool:=match d with
 |.tuple [u,l,h,k]=>zbh u 0 (many-1)&&(zcl k&&(zsw many u k&&(zqr h k&&zwt l h)))
 |_=>false
def zi7:PyData→PyData
 |.tuple (x::_)=>x
 |_=>.none
def zc9:PyData→Bool
 |.tuple [_,n]=>isW n
 |_=>false
def zga(many:Int)(d:PyData):Bool:=match d with
 |.tuple ds=>decide (0<ds.length)&&ds.all zc9&&za2 many (ds.map zi7) (-1)
 |_=>false
def neI:PyData→PyData→Bool
 |.int i,.int j=>!decide (i=j)
 |_,_=>false
def zi5(many:Int)(s:Str)(x y:PyData):Bool:=if s=("most" : Str) then isW x&&zga many y else if s=("needs" : Str)∨s=("bans" : Str) then zbh x 0 (many-1)&&(zbh y 0 (many-1)&&neI x y) else false
def zvd(many:Int)(x y:PyData):PyData→Bool
 |.str s=>zi5 many s x y
 |_=>false
def zgp(many:Int)(d:PyData):Bool:=match d with
 |.tuple [k,x,y]=>zvd many x y k
 |_=>false
def toI:PyData→Int
 |.int i=>i
 |_=>0
def zcp:PyData→List Int
 |.tuple [_,_,_,.tuple ks]=>ks.map toI
 |_=>[]
structure zh7(many:Int)(bs:List PyData):Prop where
 each:∀b∈bs,zcv many b=true
 kids:(bs.flatMap zcp).Perm ((List.range' 0 (many-1).toNat).map fun i:Nat=>(1:Int)+i)
theorem zag{H:Hp}{p:Addr}(h:H p=none)(o:HO):Same H (upd H p o):=zhz fun b u q=>by rw[zam (zaq q h)];exact q
theorem small{n:Nat}(h:n≤1000):n≤sizeLine:=Nat.le_of_lt (zbo h)
theorem zcc{H:Hp}{i:Int}{v:V}(h:Dn H (.int i) v):v=.int i:=h
theorem zbw{H:Hp}{ds:List PyData}{v:V}(h:Dn H (.tuple ds) v):∃a xs,v=.ref a∧H a=some (.tup xs)∧DnL H ds xs:=h
theorem zmx{d:PyData}(h:isW d=true):∃i,d=.int i:=by
 cases d<;>first|exact⟨_,rfl⟩|cases h
theorem zlx{d:PyData}(h:zwa d=true):∃ds,d=.tuple ds:=by
 cases d<;>first|exact⟨_,rfl⟩|cases h
theorem sqT{K:PySem.W.Frag}{H:Hp}{a:Addr}{xs:List V}(h:H a=some (.tup xs)):SqT K H a xs:=.inl (.inl h)
theorem at0{x:V}{r:List V}:atI (x::r) 0=some x:=zc8 (j:=0) rfl
theorem at1{x y:V}{r:List V}:atI (x::y::r) 1=some y:=zc8 (j:=1) rfl
theorem at2{x y z:V}{r:List V}:atI (x::y::z::r) 2=some z:=zc8 (j:=2) rfl
theorem at3{x y z w:V}{r:List V}:atI (x::y::z::w::r) 3=some w:=zc8 (j:=3) rfl
theorem zb0{d:PyData}{lo hi:Int}(h:zbh d lo hi=true):∃i,d=.int i∧lo≤i∧i≤hi:=by
 cases d with
 |int i=>
  have z:(decide (lo≤i)&&decide (i≤hi))=true:=h
  simp only[Bool.and_eq_true,decide_eq_true_eq] at z
  exact⟨i,rfl,z.1,z.2⟩
 |_=>cases h
theorem zeo{d:PyData}(h:zcl d=true):∃ds,d=.tuple ds∧0<ds.length:=by
 cases d with
 |tuple ds=>exact⟨ds,rfl,of_decide_eq_true h⟩
 |_=>cases h
theorem zhd{d:PyData}{n:Nat}(h:zdi d n=true):∃ds,d=.tuple ds∧ds.length=n:=by
 cases d with
 |tuple ds=>
  have z:((ds.length:Int)=(n:Int)):=of_decide_eq_true h
  exact⟨ds,rfl,by omega⟩
 |_=>cases h
theorem ziz{many:Int}:∀{ks:List PyData} {last:Int},za2 many ks last=true→ks=(ks.map toI).map PyData.int
 |[],_,_=>rfl
 |.int i::ks,last,h=>by
  have z:(decide (last+1≤i)&&decide (i≤many-1)&&za2 many ks i)=true:=h
  rw[Bool.and_eq_true] at z
  show PyData.int i::ks=PyData.int i::(ks.map toI).map PyData.int
  rw[←ziz z.2]
 |.none::_,_,h=>by cases h
 |.bool _::_,_,h=>by cases h
 |.str _::_,_,h=>by cases h
 |.list _::_,_,h=>by cases h
 |.tuple _::_,_,h=>by cases h
 |.dict _::_,_,h=>by cases h
theorem zj1{H:Hp}:∀{ns:List Int} {xs:List V},DnL H (ns.map PyData.int) xs→xs=ns.map V.int
 |[],xs,h=>h
 |n::r,_,⟨x,t,rfl,hx,ht⟩=>by rw[zj1 ht,zcc hx];rfl
theorem zoq{H:Hp}:∀(ns:List Int),DnL H (ns.map PyData.int) (ns.map V.int)
 |[]=>rfl
 |n::r=>⟨_,_,rfl,rfl,zoq r⟩
theorem zif(lo:Int):∀(n k:Nat),(((List.range' k n).map fun i:Nat=>lo+(i:Int))).Pairwise (·≤·)
 |0,_=>List.Pairwise.nil
 |n+1,k=>by
  rw[List.range'_succ,List.map_cons]
  refine List.Pairwise.cons (fun b hb=>?_) (zif lo n (k+1))
  obtain⟨i,hi,rfl⟩:=List.mem_map.mp hb
  have:=(List.mem_range'_1.mp hi).1
  omega
end Wd
namespace Ow
open PySem L2 Wd
def zv5:Sp:=fun vs H Q _=>∃(d:PyData)(v:V),vs=[v]∧Dn H d v∧Q (.bl (isW d)) H
def zt8:Sp:=fun vs H Q _=>∃(d:PyData)(v:V)(lo hi:Int),vs=[v,.int lo,.int hi]∧Dn H d v∧Q (.bl (zbh d lo hi)) H
def zuv:Sp:=fun vs H Q _=>∃(d:PyData)(v:V)(many:Int),vs=[.int many,v]∧Dn H d v∧Q (.bl (zbh d 0 (many-1))) H
def ztb:Sp:=fun vs H Q _=>∃(d:PyData)(v:V)(n:Int),vs=[v,.int n]∧Dn H d v∧Q (.bl (zdi d n)) H
def zw2:Sp:=fun vs H Q _=>∃(d:PyData)(v:V),vs=[v]∧Dn H d v∧Q (.bl (zcl d)) H
def zs3(K:PySem.W.Frag):Sp:=fun vs H Q _=>∃(many floor:Int)(a:Addr)(b:Bool)(ds:List PyData)(xs:List V),vs=[.int many,.ref a,.int floor]∧Sq K b H a xs∧DnL H ds xs∧Q (.bl (za2 many ds floor)) H
def zvb:Sp:=fun vs H Q _=>∃(d:PyData)(v:V)(many:Int),vs=[.int many,v]∧Dn H d v∧Q (.bl (zcv many d)) H
def zwd:PyData→Prop
 |.tuple ds=>ds.length≤1000
 |_=>True
def zms:PyData→Prop
 |.tuple (_::_::y::_)=>zwd y
 |_=>True
def zv2:Sp:=fun vs H Q _=>∃(d:PyData)(v:V)(many:Int),vs=[.int many,v]∧Dn H d v∧zwd d∧∀H',Same H H'→Q (.bl (zga many d)) H'
def zyb:Sp:=fun vs H Q _=>∃(d:PyData)(v:V)(many:Int),vs=[.int many,v]∧Dn H d v∧zms d∧∀H',Same H H'→Q (.bl (zgp many d)) H'
def zye(many:Int)(d:PyData)(r:List PyData):Bool:=match d with
 |.int j=>za2 many r j
 |_=>false
theorem zlu{many last:Int}{ds:List PyData}{i:Nat}{d:PyData}(h:ds[i]?=some d):za2 many (ds.drop i) last=(zbh d (last+1) (many-1)&&zye many d (ds.drop (i+1))):=by
 obtain⟨hi,e⟩:=List.getElem?_eq_some_iff.mp h
 rw[List.drop_eq_getElem_cons hi,e]
 cases d<;>rfl
def rPv(many floor:Int)(p:Addr)(ds:List PyData)(H:Hp)(i:Nat)(σ:St)(H2:Hp):Prop:=
 (∃(last:Int)(v:Option V),σ=[some (.int many),some (.ref p),some (.int floor),some (.int last),v]∧za2 many (ds.drop i) last=za2 many ds floor)∧H2=H
theorem zze{ds:List PyData}(h:ds.length=4):∃u l h k,ds=[u,l,h,k]:=by
 match ds,h with
 |[u,l,h,k],_=>exact⟨u,l,h,k,rfl⟩
theorem zyi{ds:List PyData}(h:ds.length=3):∃u l h,ds=[u,l,h]:=by
 match ds,h with
 |[u,l,h],_=>exact⟨u,l,h,rfl⟩
theorem two{ds:List PyData}(h:ds.length=2):∃u l,ds=[u,l]:=by
 match ds,h with
 |[u,l],_=>exact⟨u,l,rfl⟩
theorem zvz{many:Int}{d:PyData}(h:zdi d 4=false):zcv many d=false:=by
 cases d with
 |tuple ds=>
  match ds with
  |[u,l,h',k]=>cases h
  |[]=>rfl
  |[_]=>rfl
  |[_,_]=>rfl
  |[_,_,_]=>rfl
  |_::_::_::_::_::_=>rfl
 |_=>rfl
theorem zyo{many:Int}{d:PyData}(h:zdi d 3=false):zgp many d=false:=by
 cases d with
 |tuple ds=>
  match ds with
  |[u,l,h']=>cases h
  |[]=>rfl
  |[_]=>rfl
  |[_,_]=>rfl
  |_::_::_::_::_=>rfl
 |_=>rfl
theorem zxu{d:PyData}(h:zdi d 2=false):zc9 d=false:=by
 cases d with
 |tuple ds=>
  match ds with
  |[u,l]=>cases h
  |[]=>rfl
  |[_]=>rfl
  |_::_::_::_=>rfl
 |_=>rfl
theorem ztm{α:Type}{f:α→Bool}{ds:List α}{i:Nat}{d:α}(h:ds[i]?=some d)(ha:(ds.take i).all f=true)(hd:f d=true):(ds.take (i+1)).all f=true:=by
 obtain⟨hi,e⟩:=List.getElem?_eq_some_iff.mp h
 rw[List.take_succ_eq_append_getElem hi,List.all_append,ha,e]
 simp[hd]
theorem zqj{α:Type}{f:α→Bool}{ds:List α}{i:Nat}{d:α}(h:ds[i]?=some d)(hd:f d=false):ds.all f=false:=by
 rw[Bool.eq_false_iff]
 intro z
 rw[List.all_eq_true] at z
 rw[z d (List.mem_of_getElem? h)] at hd
 cases hd
def zp0(many:Int)(cs:List PyData):Prop:=∀c∈cs,zgp many c=true∧zms c
def zuk:Sp:=fun vs H Q _=>∃(many:Int)(p:Addr)(xs:List V)(bs:List PyData),vs=[.int many,.ref p]∧H p=some (.tup xs)∧DnL H bs xs∧zh7 many bs∧1≤many∧many≤9∧bs.length≤9∧∀H',Same H H'→Q .non H'
def zsu:Sp:=fun vs H Q _=>∃(many:Int)(p:Addr)(xs:List V)(cs:List PyData),vs=[.int many,.ref p]∧H p=some (.tup xs)∧DnL H cs xs∧zp0 many cs∧cs.length≤8∧∀H',Same H H'→Q .non H'
def zxp:Sp:=fun vs H Q _=>∃(many:Int)(p r:Addr)(xs ys:List V)(bs cs:List PyData),vs=[.int many,.ref p,.ref r]∧H p=some (.lst xs)∧H r=some (.lst ys)∧DnL H bs xs∧DnL H cs ys∧zh7 many bs∧1≤many∧many≤9∧bs.length≤9∧zp0 many cs∧cs.length≤8 ∧
 ∀(wd tb tc:Addr)(H':Hp),Same H H'→H' wd=some (.tup [.int many,.ref tb,.ref tc])→H' tb=some (.tup xs)→H' tc=some (.tup ys)→Q (.ref wd) H'
structure WoodAt(H:Hp)(wd:Addr)(many:Int)(xs ys:List V):Prop where
 ex:∃tb tc,H wd=some (.tup [.int many,.ref tb,.ref tc])∧H tb=some (.tup xs)∧H tc=some (.tup ys)
def zwq:Sp:=fun vs H Q _=>∃(wd:Addr)(many:Int)(xs ys:List V),vs=[.ref wd]∧WoodAt H wd many xs ys∧Q (.int ((xs.length:Int)+(ys.length:Int))) H
def zvg:Sp:=fun vs H Q _=>∃(wd:Addr)(many:Int)(xs ys:List V)(t:Nat)(v:V),vs=[.ref wd,.int t]∧WoodAt H wd many xs ys∧(xs++ys)[t]?=some v∧Q v H
theorem zow(s t:Str):decide (V.str s=V.str t)=decide (s=t):=by
 by_cases h:s=t
 ·subst h
  simp
 ·rw[decide_eq_false h,decide_eq_false (fun z=>h (by injection z))]
theorem zp8{H:Hp}{many:Int}{b:PyData}{v:V}(hb:zcv many b=true)(hd:Dn H b v):∃p xu xl xh pk,v=.ref p∧H p=some (.tup [xu,xl,xh,.ref pk])∧H pk=some (.tup ((zcp b).map V.int)):=by
 cases b with
 |tuple ds=>
  match ds,hb,hd with
  |[u,l,h,k],hb,hd=>
   obtain⟨p,xs,rfl,hp,xu,r1,rfl,hu,xl,r2,rfl,ag,xh,r3,rfl,hh,xk,r4,rfl,hk,ad⟩:=zbw hd
   cases(show r4=[] from ad)
   have z:(zbh u 0 (many-1)&&(zcl k&&(zsw many u k&&(zqr h k&&zwt l h))))=true:=hb
   simp only[Bool.and_eq_true] at z
   obtain⟨z1,z2,z3,_,_⟩:=z
   obtain⟨up,rfl,_,_⟩:=zb0 z1
   obtain⟨ks,rfl,_⟩:=zeo z2
   obtain⟨pk,ys,rfl,af,ae⟩:=zbw hk
   have e:=ziz (show za2 many ks up=true from z3)
   rw[e] at ae
   rw[zj1 ae] at af
   exact⟨p,xu,xl,xh,pk,rfl,hp,af⟩
 |_=>cases hb
theorem zog{many:Int}{bs:List PyData}(G:zh7 many bs)(h9:many≤9)(i:Nat):((bs.take i).flatMap zcp).length≤8:=by
 have e:=G.kids.length_eq
 rw[List.length_map,List.length_range'] at e
 have s:((bs.take i).flatMap zcp).length≤(bs.flatMap zcp).length:=by
  have e2:bs.flatMap zcp=(bs.take i).flatMap zcp++(bs.drop i).flatMap zcp:=by
   rw[←List.flatMap_append,List.take_append_drop]
  rw[e2,List.length_append]
  omega
 omega
theorem zfk{α β:Type}{f:α→List β}{ds:List α}{i:Nat}{d:α}(h:ds[i]?=some d):(ds.take (i+1)).flatMap f=(ds.take i).flatMap f++f d:=by
 obtain⟨hi,e⟩:=List.getElem?_eq_some_iff.mp h
 rw[List.take_succ_eq_append_getElem hi,List.flatMap_append,e]
 simp
def zbf:Nat→PyData→Bool
 |_,.int _=>true
 |_,.str s=>PyData.strOk s
 |n+1,.tuple ds=>decide (ds.length≤1000)&&ds.all (zbf n)
 |_,_=>false
theorem ztr{many one x:Int}(h1:1<many)(h9:many≤9)(o0:0≤one)(o1:one<many)(x0:0≤x)(x1:x<many-1):0≤(one+1+x)%many∧(one+1+x)%many<many∧one≠(one+1+x)%many:=by
 have e:many=2∨many=3∨many=4∨many=5∨many=6∨many=7∨many=8∨many=9:=by omega
 rcases e with rfl|rfl|rfl|rfl|rfl|rfl|rfl|rfl<;>omega
theorem zpg:PyData.strOk ("most" : Str)=true:=by decide +kernel
theorem ziw:PyData.strOk ("needs" : Str)=true:=by decide +kernel
theorem zky:PyData.strOk ("bans" : Str)=true:=by decide +kernel
structure PairsTo(H:Hp)(i:Nat)(ps:List PyData)(xs:List V):Prop where
 dn:DnL H ps xs
 ok:ps.all zc9=true
 flat:ps.all (zbf 1)=true
 ris:za2 (i:Int) (ps.map zi7) (-1)=true
 few:ps.length≤i
theorem zep{m m':Int}(h:m≤m'):∀{ks:List PyData} {u:Int},za2 m ks u=true→za2 m' ks u=true
 |[],_,_=>rfl
 |.int i::ks,u,z=>by
  have z':(decide (u+1≤i)&&decide (i≤m-1)&&za2 m ks i)=true:=z
  show(decide (u+1≤i)&&decide (i≤m'-1)&&za2 m' ks i)=true
  simp only[Bool.and_eq_true,decide_eq_true_eq] at z' ⊢
  exact⟨⟨z'.1.1,by omega⟩,zep h z'.2⟩
 |.none::_,_,z=>by cases z
 |.bool _::_,_,z=>by cases z
 |.str _::_,_,z=>by cases z
 |.list _::_,_,z=>by cases z
 |.tuple _::_,_,z=>by cases z
 |.dict _::_,_,z=>by cases z
theorem zeh{m j:Int}(h:j<m):∀{ks:List PyData} {u:Int},za2 j ks u=true→u<j→za2 m (ks++[.int j]) u=true
 |[],u,_,hu=>by
  show(decide (u+1≤j)&&decide (j≤m-1)&&true)=true
  rw[decide_eq_true (by omega),decide_eq_true (by omega)]
  rfl
 |.int i::ks,u,z,hu=>by
  have z':(decide (u+1≤i)&&decide (i≤j-1)&&za2 j ks i)=true:=z
  show(decide (u+1≤i)&&decide (i≤m-1)&&za2 m (ks++[.int j]) i)=true
  simp only[Bool.and_eq_true,decide_eq_true_eq] at z' ⊢
  exact⟨⟨z'.1.1,by omega⟩,zeh h z'.2 (by omega)⟩
 |.none::_,_,z,_=>by cases z
 |.bool _::_,_,z,_=>by cases z
 |.str _::_,_,z,_=>by cases z
 |.list _::_,_,z,_=>by cases z
 |.tuple _::_,_,z,_=>by cases z
 |.dict _::_,_,z,_=>by cases z
theorem DnL.keepT{H H':Hp}{f:PyData→Bool}(k:∀d v,f d=true→Dn H d v→Dn H' d v):∀(ds:List PyData)(xs:List V),ds.all f=true→DnL H ds xs→DnL H' ds xs
 |[],_,_,q=>q
 |d::ds,_,c,⟨x,r,e,q,z⟩=>by
  rw[List.all_cons,Bool.and_eq_true] at c
  exact⟨x,r,e,k d x c.1 q,DnL.keepT k ds r c.2 z⟩
theorem Dn.keepT{H H':Hp}(h:∀b xs,H b=some (.tup xs)→H' b=some (.tup xs)):∀(n:Nat)(d:PyData)(v:V),zbf n d=true→Dn H d v→Dn H' d v
 |_,.int _,_,_,q=>q
 |_,.str _,_,_,q=>q
 |n+1,.tuple ds,_,c,⟨p,xs,e,q,z⟩=>⟨p,xs,e,h _ _ q,DnL.keepT (Dn.keepT h n) ds xs ((Bool.and_eq_true _ _).mp c).2 z⟩
 |0,.tuple ds,_,c,_=>by cases c
 |0,.none,_,c,_=>by cases c
 |n+1,.none,_,c,_=>by cases c
 |0,.bool _,_,c,_=>by cases c
 |n+1,.bool _,_,c,_=>by cases c
 |0,.list _,_,c,_=>by cases c
 |n+1,.list _,_,c,_=>by cases c
 |0,.dict _,_,c,_=>by cases c
 |n+1,.dict _,_,c,_=>by cases c
theorem zno{H:Hp}{p:Addr}{xs ys:List V}(h:H p=some (.lst xs)):∀b zs,H b=some (.tup zs)→upd H p (.lst ys) b=some (.tup zs):=fun b zs q=>by
 rw[zam (zo7 q h (by intro z;cases z))]
 exact q
structure Grp where
 t:Addr
 up:Int
 l:Addr
 kids:List Int
structure GAt(H0 H:Hp)(g:Addr)(gs:List Grp):Prop where
 at_:H g=some (.lst (gs.map fun x=>V.ref x.t))
 new:H0 g=none
 tup:∀x∈gs,H x.t=some (.tup [.int x.up,.ref x.l])
 lst:∀x∈gs,H x.l=some (.lst (x.kids.map V.int))∧H0 x.l=none∧g≠x.l
 nd:(gs.map (·.l)).Nodup
structure GOk(k:Int)(gs:List Grp):Prop where
 each:∀x∈gs,0≤x.up∧x.kids≠[]∧za2 k (x.kids.map PyData.int) x.up=true
 perm:(gs.flatMap (·.kids)).Perm ((List.range' 0 (k-1).toNat).map fun i:Nat=>(1:Int)+i)
theorem GOk.few{k:Int}{gs:List Grp}(G:GOk k gs):gs.length≤(k-1).toNat:=by
 have e:=G.perm.length_eq
 rw[List.length_map,List.length_range'] at e
 rw[←e]
 have go:∀l:List Grp,(∀x∈l,x.kids≠[])→l.length≤(l.flatMap (·.kids)).length:=by
  intro l
  induction l with
  |nil=>intro _;exact Nat.le_refl _
  |cons x r ih=>
   intro h
   rw[List.flatMap_cons,List.length_append,List.length_cons]
   have h1:=List.length_pos_iff.mpr (h x List.mem_cons_self)
   have h2:=ih fun y hy=>h y (List.mem_cons_of_mem _ hy)
   omega
 exact go gs fun x hx=>(G.each x hx).2.1
theorem zj5(k:Nat):((List.range' 0 k).map fun i:Nat=>(1:Int)+i)++[((k:Int)+1)]=(List.range' 0 (k+1)).map fun i:Nat=>(1:Int)+i:=by
 rw[List.range'_concat,List.map_append]
 simp
 omega
theorem GOk.new{k:Nat}{gs:List Grp}{t l:Addr}{u:Int}(G:GOk ((k:Int)+1) gs)(u0:0≤u)(u1:u<(k:Int)+1):GOk ((k:Int)+2) (gs++[⟨t,u,l,[(k:Int)+1]⟩]) where
 each:=fun x hx=>by
  rcases List.mem_append.mp hx with z|z
  ·obtain⟨a,b,c⟩:=G.each x z
   exact⟨a,b,zep (by omega) c⟩
  ·rw[List.mem_singleton.mp z]
   refine⟨u0,by simp,?_⟩
   show(decide (u+1≤(k:Int)+1)&&decide ((k:Int)+1≤(k:Int)+2-1)&&true)=true
   rw[decide_eq_true (by omega),decide_eq_true (by omega)]
   rfl
 perm:=by
  rw[List.flatMap_append]
  have e:((k:Int)+2-1).toNat=k+1:=by omega
  have e':((k:Int)+1-1).toNat=k:=by omega
  have p:=G.perm
  rw[e'] at p
  rw[e,←zj5]
  exact p.append (by simp)
theorem GOk.put{k:Nat}{pre post:List Grp}{x:Grp}(G:GOk ((k:Int)+1) (pre++x::post)):GOk ((k:Int)+2) (pre++⟨x.t,x.up,x.l,x.kids++[(k:Int)+1]⟩::post) where
 each:=fun y hy=>by
  have old:∀z∈pre++x::post,0≤z.up∧z.kids≠[]∧za2 ((k:Int)+2) (z.kids.map PyData.int) z.up=true:=fun z hz=>by
   obtain⟨a,b,c⟩:=G.each z hz
   exact⟨a,b,zep (by omega) c⟩
  rcases List.mem_append.mp hy with z|z
  ·exact old y (List.mem_append_left _ z)
  ·rcases List.mem_cons.mp z with z|z
   ·subst z
    obtain⟨a,b,c⟩:=G.each x (by simp)
    refine⟨a,by simp,?_⟩
    show za2 ((k:Int)+2) ((x.kids++[(k:Int)+1]).map PyData.int) x.up=true
    rw[List.map_append]
    refine zeh (by omega) c ?_
    cases hk:x.kids with
    |nil=>exact absurd hk b
    |cons n r=>
     rw[hk] at c
     have c':(decide (x.up+1≤n)&&decide (n≤(k:Int)+1-1)&&za2 ((k:Int)+1) (r.map PyData.int) n)=true:=c
     simp only[Bool.and_eq_true,decide_eq_true_eq] at c'
     omega
   ·exact old y (by simp[z])
 perm:=by
  have e:((k:Int)+2-1).toNat=k+1:=by omega
  have e':((k:Int)+1-1).toNat=k:=by omega
  have p:=G.perm
  rw[e'] at p
  rw[e,←zj5]
  refine List.Perm.trans ?_ (p.append (List.Perm.refl [((k:Int)+1)]))
  rw[List.flatMap_append,List.flatMap_append,List.flatMap_cons,List.flatMap_cons,List.append_assoc,List.append_assoc,List.append_assoc]
  exact(List.Perm.refl _).append ((List.Perm.refl _).append List.perm_append_comm)
theorem GAt.put{H0 H:Hp}{g:Addr}{pre post:List Grp}{x:Grp}{k:Int}(G:GAt H0 H g (pre++x::post)):GAt H0 (upd H x.l (.lst (x.kids.map V.int++[.int k]))) g (pre++⟨x.t,x.up,x.l,x.kids++[k]⟩::post):=by
 have hx:x∈pre++x::post:=by simp
 obtain⟨a,b,c⟩:=G.lst x hx
 have nd:=G.nd
 rw[List.map_append,List.map_cons] at nd
 obtain⟨_,n2,n3⟩:=List.nodup_append.mp nd
 have ae:∀y,y∈pre∨y∈post→y.l≠x.l:=fun y hy e=>by
  rcases hy with hy|hy
  ·exact n3 y.l (List.mem_map.mpr ⟨y,hy,rfl⟩) x.l (by simp) e
  ·exact(List.nodup_cons.mp n2).1 (by rw[←e];exact List.mem_map.mpr ⟨y,hy,rfl⟩)
 have mem:∀y∈pre++(⟨x.t,x.up,x.l,x.kids++[k]⟩:Grp)::post,(y∈pre∨y∈post)∨y=⟨x.t,x.up,x.l,x.kids++[k]⟩:=fun y hy=>by
  rcases List.mem_append.mp hy with z|z
  ·exact .inl (.inl z)
  ·rcases List.mem_cons.mp z with z|z
   ·exact .inr z
   ·exact .inl (.inr z)
 have ad:∀y,y∈pre∨y∈post→y∈pre++x::post:=fun y hy=>by
  rcases hy with z|z<;>simp[z]
 refine⟨?_,G.new,fun y hy=>?_,fun y hy=>?_,?_⟩
 ·rw[zam c,G.at_,List.map_append,List.map_append,List.map_cons,List.map_cons]
 ·rcases mem y hy with z|rfl
  ·rw[zam (zo7 (G.tup y (ad y z)) a (by intro q;cases q))]
   exact G.tup y (ad y z)
  ·show upd H x.l _ x.t=_
   rw[zam (zo7 (G.tup x hx) a (by intro q;cases q))]
   exact G.tup x hx
 ·rcases mem y hy with z|rfl
  ·obtain⟨a',b',c'⟩:=G.lst y (ad y z)
   refine⟨?_,b',c'⟩
   rw[zam (ae y z)]
   exact a'
  ·refine⟨?_,b,c⟩
   show upd H x.l _ x.l=_
   rw[zac,List.map_append]
   rfl
 ·have e:(pre++(⟨x.t,x.up,x.l,x.kids++[k]⟩:Grp)::post).map (·.l)=(pre++x::post).map (·.l):=by
   rw[List.map_append,List.map_append,List.map_cons,List.map_cons]
  rw[e]
  exact G.nd
theorem GAt.same{H0 H H':Hp}{g:Addr}{gs:List Grp}(G:GAt H0 H g gs)(s:Same H H'):GAt H0 H' g gs:=
 ⟨s _ _ G.at_,G.new,fun x hx=>s _ _ (G.tup x hx),fun x hx=>⟨s _ _ (G.lst x hx).1,(G.lst x hx).2⟩,G.nd⟩
def zrs(u lo hi:Int)(kids:List Int):PyData:=.tuple [.int u,.int lo,.int hi,.tuple (kids.map PyData.int)]
theorem zup{m u lo hi:Int}{kids:List Int}(u0:0≤u)(ne:kids≠[])(r:za2 m (kids.map PyData.int) u=true)(l0:0≤lo)(l1:lo≤hi)(h0:1≤hi)(h1:hi≤kids.length):zcv m (zrs u lo hi kids)=true:=by
 have u1:u≤m-1:=by
  cases hk:kids with
  |nil=>exact absurd hk ne
  |cons n t=>
   rw[hk] at r
   have c':(decide (u+1≤n)&&decide (n≤m-1)&&za2 m (t.map PyData.int) n)=true:=r
   simp only[Bool.and_eq_true,decide_eq_true_eq] at c'
   omega
 show(zbh (.int u) 0 (m-1)&&(zcl (.tuple (kids.map PyData.int))&&(za2 m (kids.map PyData.int) u&&(zbh (.int hi) 1 ((kids.map PyData.int).length:Nat)&&zbh (.int lo) 0 hi))))=true
 have e1:zbh (.int u) 0 (m-1)=true:=by
  show(decide (0≤u)&&decide (u≤m-1))=true
  rw[decide_eq_true u0,decide_eq_true u1]
  rfl
 have e2:zcl (.tuple (kids.map PyData.int))=true:=by
  refine decide_eq_true ?_
  rw[List.length_map]
  exact List.length_pos_iff.mpr ne
 have e3:zbh (.int hi) 1 ((kids.map PyData.int).length:Nat)=true:=by
  show(decide (1≤hi)&&decide (hi≤((kids.map PyData.int).length:Nat)))=true
  rw[List.length_map,decide_eq_true h0,decide_eq_true h1]
  rfl
 have e4:zbh (.int lo) 0 hi=true:=by
  show(decide (0≤lo)&&decide (lo≤hi))=true
  rw[decide_eq_true l0,decide_eq_true l1]
  rfl
 rw[e1,e2,r,e3,e4]
 rfl
theorem zqc(kids:List Int):(kids.map PyData.int).all (zbf 1)=true:=by
 rw[List.all_eq_true]
 intro x hx
 obtain⟨i,_,rfl⟩:=List.mem_map.mp hx
 rfl
theorem zoo(u lo hi:Int)(kids:List Int)(h:kids.length≤1000):zbf 3 (zrs u lo hi kids)=true:=by
 show(true&&(true&&(true&&(true&&((decide ((kids.map PyData.int).length≤1000)&&(kids.map PyData.int).all (zbf 1))&&true)))))=true
 rw[zqc,List.length_map,decide_eq_true h]
 rfl
theorem zsx(u lo hi:Int)(kids:List Int):zcp (zrs u lo hi kids)=kids:=by
 show(kids.map PyData.int).map toI=kids
 rw[List.map_map]
 have:(toI∘PyData.int)=id:=rfl
 rw[this,List.map_id]
end Ow
namespace Wd
inductive Tie where
 |bough (u:Nat) (lo hi:Int) (ks:List Nat)
 |needs (a b:Nat)
 |bans (a b:Nat)
 |most (top:Int) (ps:List (Nat×Int))
def cnt(ks:List Nat)(s:Nat):Nat:=(ks.filter fun k=>s.testBit k).length
def zee(ps:List (Nat×Int))(f:Nat×Int→Bool):Int:=((ps.filter f).map (·.2)).sum
def Tie.keep:Tie→Nat→Bool
 |.bough u lo hi ks,s=>if s.testBit u=true then decide (lo≤(cnt ks s:Int))&&decide ((cnt ks s:Int)≤hi) else decide (cnt ks s=0)
 |.needs a b,s=>!s.testBit a||s.testBit b
 |.bans a b,s=>!s.testBit a||!s.testBit b
 |.most top ps,s=>decide (zee ps (fun p=>s.testBit p.1)≤top)
structure Tie.BoughOkW(m u:Nat)(lo hi:Int)(ks:List Nat):Prop where
 um:u<m
 ks0:ks≠[]
 up:∀k∈ks,u<k∧k<m
 ris:ks.Pairwise (·<·)
 few:ks.length≤m
 lo0:0≤lo
 lohi:lo≤hi
structure Tie.BoughOk(m u:Nat)(lo hi:Int)(ks:List Nat):Prop extends Tie.BoughOkW m u lo hi ks where
 hi1:1≤hi
 hik:hi≤ks.length
theorem Tie.BoughOkW.nd{m u:Nat}{lo hi:Int}{ks:List Nat}(h:Tie.BoughOkW m u lo hi ks):ks.Nodup:=h.ris.imp fun a=>Nat.ne_of_lt a
def Tie.Ok(m:Nat):Tie→Prop
 |.bough u lo hi ks=>Tie.BoughOkW m u lo hi ks
 |.needs a b=>a<m∧b<m∧a≠b
 |.bans a b=>a<m∧b<m∧a≠b
 |.most _ ps=>ps≠[]∧(∀p∈ps,p.1<m)∧(ps.map (·.1)).Pairwise (·<·)∧ps.length≤m
def InS(y n s:Nat):Prop:=(∀k,y.testBit k=true→s.testBit k=true)∧∀k,n.testBit k=true→s.testBit k=false
def zd6(ps:List (Nat×Int))(y n:Nat):Int:=zee ps fun p=>y.testBit p.1||(decide (p.2<0)&&!n.testBit p.1)
def Tie.sb:Tie→Nat→Nat→Bool
 |.needs a b,y,n=>y.testBit a&&n.testBit b
 |.bans a b,y,n=>y.testBit a&&y.testBit b
 |.most top ps,y,n=>decide (top<zd6 ps y n)
 |.bough u lo hi ks,y,n=>!(!n.testBit u&&(decide ((cnt ks y:Int)≤hi)&&decide (lo≤(ks.length:Int)-cnt ks n)))&&!(!y.testBit u&&decide (cnt ks y=0))
theorem zu0{u:Nat}{lo hi:Int}{ks:List Nat}{s:Nat}(h:s.testBit u=true):(Tie.bough u lo hi ks).keep s=(decide (lo≤(cnt ks s:Int))&&decide ((cnt ks s:Int)≤hi)):=by
 simp only[Tie.keep,h,if_true]
theorem zvw{u:Nat}{lo hi:Int}{ks:List Nat}{s:Nat}(h:¬s.testBit u=true):(Tie.bough u lo hi ks).keep s=decide (cnt ks s=0):=by
 simp only[Tie.keep,if_neg h]
theorem zly(p:Nat×Int)(r:List (Nat×Int))(f:Nat×Int→Bool):zee (p::r) f=(if f p=true then p.2 else 0)+zee r f:=by
 unfold zee
 by_cases h:f p=true
 ·rw[List.filter_cons_of_pos h,if_pos h];simp
 ·rw[List.filter_cons_of_neg h,if_neg h];simp
theorem zqy{f g:Nat×Int→Bool}:∀{ps:List (Nat×Int)},(∀p∈ps,(if f p=true then p.2 else 0)≤(if g p=true then p.2 else 0))→zee ps f≤zee ps g
 |[],_=>Int.le_refl _
 |p::r,h=>by
  rw[zly,zly]
  have h1:=h p List.mem_cons_self
  have h2:=zqy (ps:=r) fun q hq=>h q (List.mem_cons_of_mem _ hq)
  omega
theorem zqs{f g:Nat×Int→Bool}{ps:List (Nat×Int)}(h:∀p∈ps,f p=g p):zee ps f=zee ps g:=by
 unfold zee
 rw[List.filter_congr h]
theorem zc4(k:Nat)(r:List Nat)(s:Nat):cnt (k::r) s=(if s.testBit k=true then 1 else 0)+cnt r s:=by
 unfold cnt
 by_cases h:s.testBit k=true
 ·rw[List.filter_cons_of_pos (p:=fun k=>s.testBit k) h,if_pos h,List.length_cons];omega
 ·rw[List.filter_cons_of_neg (p:=fun k=>s.testBit k) h,if_neg h];omega
theorem zij{ks:List Nat}{s t:Nat}(h:∀k∈ks,s.testBit k=t.testBit k):cnt ks s=cnt ks t:=by
 unfold cnt
 rw[List.filter_congr h]
theorem znz{s t:Nat}:∀{ks:List Nat},(∀k∈ks,s.testBit k=true→t.testBit k=true)→cnt ks s≤cnt ks t
 |[],_=>Nat.le_refl _
 |k::r,h=>by
  rw[zc4,zc4]
  have h2:=znz (ks:=r) fun q hq=>h q (List.mem_cons_of_mem _ hq)
  have h1:=h k List.mem_cons_self
  by_cases c:s.testBit k=true
  ·rw[if_pos c,if_pos (h1 c)];omega
  ·rw[if_neg c];omega
theorem zjl{s n:Nat}:∀{ks:List Nat},(∀k∈ks,n.testBit k=true→s.testBit k=false)→cnt ks s+cnt ks n≤ks.length
 |[],_=>Nat.le_refl _
 |k::r,h=>by
  rw[zc4,zc4,List.length_cons]
  have h2:=zjl (ks:=r) fun q hq=>h q (List.mem_cons_of_mem _ hq)
  have h1:=h k List.mem_cons_self
  by_cases c:n.testBit k=true
  ·rw[h1 c,if_pos c];simp;omega
  ·rw[if_neg c];split<;>omega
def zdp:List Nat→Nat
 |[]=>0
 |k::r=>zdp r|||2^k
theorem zin(j:Nat):∀l:List Nat,(zdp l).testBit j=decide (j∈l)
 |[]=>by simp[zdp]
 |k::r=>by
  rw[zdp,Nat.testBit_or,zin j r,Nat.testBit_two_pow]
  by_cases h:k=j
  ·subst h;simp
  ·have h':j≠k:=fun z=>h z.symm
   simp[h,h']
theorem zr7{ps:List (Nat×Int)}(h:(ps.map (·.1)).Nodup){p q:Nat×Int}(hp:p∈ps)(hq:q∈ps)(e:p.1=q.1):p=q:=by
 induction ps with
 |nil=>cases hp
 |cons x r ih=>
  rw[List.map_cons,List.nodup_cons] at h
  rcases List.mem_cons.mp hp with e1|hp
  ·rcases List.mem_cons.mp hq with e2|hq
   ·rw[e1,e2]
   ·exact absurd (show x.1∈r.map (·.1) from List.mem_map.mpr ⟨q,hq,by rw[←e1,e]⟩) h.1
  ·rcases List.mem_cons.mp hq with e2|hq
   ·exact absurd (show x.1∈r.map (·.1) from List.mem_map.mpr ⟨p,hp,by rw[←e2,e]⟩) h.1
   ·exact ih h.2 hp hq
theorem zpu{m:Nat}{t:Tie}(ok:t.Ok m){s s':Nat}(h:∀k,k<m→s.testBit k=s'.testBit k):t.keep s=t.keep s':=by
 cases t with
 |bough u lo hi ks=>
  have e:cnt ks s=cnt ks s':=zij fun k hk=>h k (ok.up k hk).2
  simp only[Tie.keep]
  rw[e,h u ok.um]
 |needs a b=>simp only[Tie.keep];rw[h a ok.1,h b ok.2.1]
 |bans a b=>simp only[Tie.keep];rw[h a ok.1,h b ok.2.1]
 |most top ps=>
  simp only[Tie.keep]
  rw[zqs fun p hp=>h p.1 (ok.2.1 p hp)]
theorem zke{y n:Nat}{l:List Nat}(d:∀k,y.testBit k=true→n.testBit k=false)(h:∀k∈l,n.testBit k=false):InS y n (y|||zdp l):=by
 refine⟨fun k hk=>?_,fun k hk=>?_⟩
 ·rw[Nat.testBit_or,hk,Bool.true_or]
 ·rw[Nat.testBit_or,zin]
  have h1:y.testBit k=false:=by
   cases e:y.testBit k with
   |false=>rfl
   |true=>rw[d k e] at hk;cases hk
  have h2:¬k∈l:=fun z=>by rw[h k z] at hk;cases hk
  rw[h1,decide_eq_false h2];rfl
theorem zci(y:Nat)(l:List Nat)(k:Nat):(y|||zdp l).testBit k=(y.testBit k||decide (k∈l)):=by
 rw[Nat.testBit_or,zin]
theorem zia{y:Nat}:∀{ks:List Nat},ks.Nodup→∀c:Nat,cnt ks y≤c→∀n:Nat,(∀k,y.testBit k=true→n.testBit k=false)→c+cnt ks n≤ks.length →
  ∃l:List Nat,(∀k∈l,k∈ks∧n.testBit k=false)∧cnt ks (y|||zdp l)=c
 |[],_,c,h1,n,_,h2=>⟨[],(fun _ z=>nomatch z),by simp[cnt] at h2 ⊢;omega⟩
 |k::r,nd,c,h1,n,d,h2=>by
  obtain⟨nk,nr⟩:=List.nodup_cons.mp nd
  rw[zc4] at h1 h2
  rw[List.length_cons] at h2
  by_cases hy:y.testBit k=true
  ·rw[if_pos hy] at h1
   have hn:=d k hy
   rw[hn] at h2
   obtain⟨l,hl,e⟩:=zia nr (c-1) (by omega) n d (by simp at h2;omega)
   refine⟨l,fun j hj=>⟨List.mem_cons_of_mem _ (hl j hj).1,(hl j hj).2⟩,?_⟩
   rw[zc4,e,zci,hy,Bool.true_or,if_pos rfl]
   omega
  ·rw[if_neg hy] at h1
   by_cases hn:n.testBit k=true
   ·rw[if_pos hn] at h2
    obtain⟨l,hl,e⟩:=zia nr c (by omega) n d (by omega)
    refine⟨l,fun j hj=>⟨List.mem_cons_of_mem _ (hl j hj).1,(hl j hj).2⟩,?_⟩
    have:¬k∈l:=fun z=>nk (hl k z).1
    rw[zc4,e,zci,Bool.eq_false_iff.mpr hy,decide_eq_false this]
    simp
   ·rw[if_neg hn] at h2
    by_cases full:c+cnt r n≤r.length
    ·obtain⟨l,hl,e⟩:=zia nr c (by omega) n d full
     refine⟨l,fun j hj=>⟨List.mem_cons_of_mem _ (hl j hj).1,(hl j hj).2⟩,?_⟩
     have:¬k∈l:=fun z=>nk (hl k z).1
     rw[zc4,e,zci,Bool.eq_false_iff.mpr hy,decide_eq_false this]
     simp
    ·have hc:cnt r y+cnt r n≤r.length:=zjl fun j _ hj=>by
      cases e:y.testBit j with
      |false=>rfl
      |true=>rw[d j e] at hj;cases hj
     obtain⟨l,hl,e⟩:=zia nr (c-1) (by omega) n d (by omega)
     refine⟨k::l,fun j hj=>?_,?_⟩
     ·rcases List.mem_cons.mp hj with rfl|z
      ·exact⟨List.mem_cons_self,Bool.eq_false_iff.mpr hn⟩
      ·exact⟨List.mem_cons_of_mem _ (hl j z).1,(hl j z).2⟩
     ·have e2:cnt r (y|||zdp (k::l))=cnt r (y|||zdp l):=zij fun j hj=>by
       have:j≠k:=fun z=>nk (z▸hj)
       rw[zci,zci]
       simp[this]
      rw[zc4,e2,e,zci,decide_eq_true List.mem_cons_self,Bool.or_true,if_pos rfl]
      omega
theorem zsm{m:Nat}{t:Tie}(ok:t.Ok m){y n:Nat}(d:∀k,y.testBit k=true→n.testBit k=false):t.sb y n=true↔∀s,InS y n s→t.keep s=false:=by
 have dn:∀k,n.testBit k=true→y.testBit k=false:=fun k hk=>by
  cases e:y.testBit k with
  |false=>rfl
  |true=>rw[d k e] at hk;cases hk
 cases t with
 |needs a b=>
  constructor
  ·intro h s hs
   have h':(y.testBit a&&n.testBit b)=true:=h
   rw[Bool.and_eq_true] at h'
   show(!s.testBit a||s.testBit b)=false
   rw[hs.1 a h'.1,hs.2 b h'.2];rfl
  ·intro h
   show(y.testBit a&&n.testBit b)=true
   cases e1:y.testBit a with
   |false=>
    have hh:=h y ⟨fun _ z=>z,dn⟩
    have h2:(!y.testBit a||y.testBit b)=false:=hh
    rw[e1] at h2;cases h2
   |true=>
    cases e2:n.testBit b with
    |true=>rfl
    |false=>
     have h2:(!(y|||zdp [b]).testBit a||(y|||zdp [b]).testBit b)=false:=h _ (zke d fun k hk=>by rw[List.mem_singleton.mp hk];exact e2)
     rw[zci y [b] b,decide_eq_true (List.mem_singleton.mpr rfl),Bool.or_true,Bool.or_true] at h2
     cases h2
 |bans a b=>
  constructor
  ·intro h s hs
   have h':(y.testBit a&&y.testBit b)=true:=h
   rw[Bool.and_eq_true] at h'
   show(!s.testBit a||!s.testBit b)=false
   rw[hs.1 a h'.1,hs.1 b h'.2];rfl
  ·intro h
   have h2:(!y.testBit a||!y.testBit b)=false:=h y ⟨fun _ z=>z,dn⟩
   show(y.testBit a&&y.testBit b)=true
   cases e1:y.testBit a<;>cases e2:y.testBit b<;>rw[e1,e2] at h2<;>simp_all
 |most top ps=>
  constructor
  ·intro h s hs
   have h':top<zd6 ps y n:=of_decide_eq_true h
   refine decide_eq_false fun z=>?_
   have le:zd6 ps y n≤zee ps (fun p=>s.testBit p.1):=zqy fun p _=>by
    cases e1:y.testBit p.1 with
    |true=>rw[hs.1 _ e1];simp
    |false=>
     cases e2:n.testBit p.1 with
     |true=>rw[hs.2 _ e2];simp
     |false=>
      by_cases c:p.2<0
      ·simp[c];split<;>omega
      ·simp[c];split<;>omega
   omega
  ·intro h
   refine decide_eq_true ?_
   let l:=(ps.filter fun p=>decide (p.2<0)&&!n.testBit p.1).map (·.1)
   have hl:∀k∈l,n.testBit k=false:=fun k hk=>by
    obtain⟨p,hp,rfl⟩:=List.mem_map.mp hk
    have:=(List.mem_filter.mp hp).2
    simp at this
    exact this.2
   have h2:decide (zee ps (fun p=>(y|||zdp l).testBit p.1)≤top)=false:=h _ (zke d hl)
   have e:zee ps (fun p=>(y|||zdp l).testBit p.1)=zd6 ps y n:=zqs fun p hp=>by
    show(y|||zdp l).testBit p.1=(y.testBit p.1||(decide (p.2<0)&&!n.testBit p.1))
    rw[zci]
    congr 1
    by_cases c:(decide (p.2<0)&&!n.testBit p.1)=true
    ·rw[c]
     exact decide_eq_true (List.mem_map.mpr ⟨p,List.mem_filter.mpr ⟨hp,c⟩,rfl⟩)
    ·rw[Bool.eq_false_iff.mpr c]
     refine decide_eq_false fun z=>?_
     obtain⟨q,hq,e⟩:=List.mem_map.mp z
     have ad:=List.mem_filter.mp hq
     have:q=p:=zr7 (ok.2.2.1.imp fun a=>Nat.ne_of_lt a) ad.1 hp e
     rw[this] at ad
     exact c ad.2
   rw[e] at h2
   have:=of_decide_eq_false h2
   omega
 |bough u lo hi ks=>
  have c2:cnt ks y+cnt ks n≤ks.length:=zjl fun j _ hj=>dn j hj
  have uk:¬u∈ks:=fun z=>Nat.lt_irrefl _ (ok.up u z).1
  constructor
  ·intro h s hs
   have h':(!(!n.testBit u&&(decide ((cnt ks y:Int)≤hi)&&decide (lo≤(ks.length:Int)-cnt ks n)))&&!(!y.testBit u&&decide (cnt ks y=0)))=true:=h
   have g1:cnt ks y≤cnt ks s:=znz fun k _ hk=>hs.1 k hk
   have g2:cnt ks s+cnt ks n≤ks.length:=zjl fun k _ hk=>hs.2 k hk
   show(if s.testBit u=true then decide (lo≤(cnt ks s:Int))&&decide ((cnt ks s:Int)≤hi) else decide (cnt ks s=0))=false
   rw[Bool.and_eq_true] at h'
   by_cases su:s.testBit u=true
   ·rw[if_pos su]
    have nu:n.testBit u=false:=by
     cases e:n.testBit u with
     |false=>rfl
     |true=>rw[hs.2 u e] at su;cases su
    have h1:=h'.1
    rw[nu] at h1
    simp at h1
    by_cases z:(cnt ks y:Int)≤hi
    ·rw[decide_eq_false (show ¬lo≤(cnt ks s:Int) by omega),Bool.false_and]
    ·rw[decide_eq_false (show ¬(cnt ks s:Int)≤hi by omega),Bool.and_false]
   ·rw[if_neg su]
    have yu:y.testBit u=false:=by
     cases e:y.testBit u with
     |false=>rfl
     |true=>exact absurd (hs.1 u e) su
    have h2:=h'.2
    rw[yu] at h2
    simp at h2
    exact decide_eq_false (by omega)
  ·intro h
   show(!(!n.testBit u&&(decide ((cnt ks y:Int)≤hi)&&decide (lo≤(ks.length:Int)-cnt ks n)))&&!(!y.testBit u&&decide (cnt ks y=0)))=true
   rw[Bool.and_eq_true]
   constructor
   ·cases e:(!n.testBit u&&(decide ((cnt ks y:Int)≤hi)&&decide (lo≤(ks.length:Int)-cnt ks n))) with
    |false=>rfl
    |true=>
     exfalso
     simp only[Bool.and_eq_true,decide_eq_true_eq,Bool.not_eq_true'] at e
     obtain⟨nu,e1,e2⟩:=e
     have af:=ok.lo0
     have ag:=ok.lohi
     obtain⟨l,hl,ec⟩:=zia (Tie.BoughOkW.nd ok) (max (cnt ks y) lo.toNat) (Nat.le_max_left _ _) n d (by omega)
     have hk:=h (y|||zdp (u::l)) (zke d fun k hk=>by
      rcases List.mem_cons.mp hk with rfl|z
      ·exact nu
      ·exact(hl k z).2)
     have hb:(y|||zdp (u::l)).testBit u=true:=by rw[zci,decide_eq_true List.mem_cons_self,Bool.or_true]
     have ae:cnt ks (y|||zdp (u::l))=max (cnt ks y) lo.toNat:=by
      rw[←ec]
      refine zij fun j hj=>?_
      have:j≠u:=fun z=>uk (z▸hj)
      rw[zci,zci]
      simp[this]
     simp only[Tie.keep,hb,if_true,ae] at hk
     rw[decide_eq_true (by omega),decide_eq_true (by omega)] at hk
     cases hk
   ·cases e:(!y.testBit u&&decide (cnt ks y=0)) with
    |false=>rfl
    |true=>
     exfalso
     simp only[Bool.and_eq_true,decide_eq_true_eq,Bool.not_eq_true'] at e
     have hk:=h y ⟨fun _ z=>z,dn⟩
     simp[Tie.keep,e.1,e.2] at hk
end Wd
namespace Wd
open PySem L2
def zfv(p:Nat×Int):PyData:=.tuple [.int (p.1:Int),.int p.2]
def Tie.toD:Tie→PyData
 |.bough u lo hi ks=>.tuple [.int (u:Int),.int lo,.int hi,.tuple (ks.map fun k:Nat=>PyData.int (k:Int))]
 |.needs a b=>.tuple [.str ("needs" : Str),.int (a:Int),.int (b:Int)]
 |.bans a b=>.tuple [.str ("bans" : Str),.int (a:Int),.int (b:Int)]
 |.most top ps=>.tuple [.str ("most" : Str),.int top,.tuple (ps.map zfv)]
theorem zgj{m:Nat}:∀{ks:List PyData} {last:Int},-1≤last→last<m→za2 m ks last=true →
  ∃ns:List Nat,ks=ns.map (fun k:Nat=>PyData.int (k:Int))∧ns.Pairwise (·<·)∧(∀k∈ns,last<(k:Int)∧k<m)∧(ns.length:Int)+last+1≤m
 |[],last,h0,h1,_=>⟨[],rfl,List.Pairwise.nil,(fun _ z=>nomatch z),by simp;omega⟩
 |.int i::ks,last,h0,h1,h=>by
  have z:(decide (last+1≤i)&&decide (i≤(m:Int)-1)&&za2 m ks i)=true:=h
  simp only[Bool.and_eq_true,decide_eq_true_eq] at z
  obtain⟨ns,e,pw,ab,ln⟩:=zgj (by omega) (by omega) z.2
  obtain⟨j,rfl⟩:∃j:Nat,i=(j:Int):=⟨i.toNat,by omega⟩
  refine⟨j::ns,by rw[e];rfl,List.Pairwise.cons (fun k hk=>?_) pw,fun k hk=>?_,?_⟩
  ·have:=(ab k hk).1;omega
  ·rcases List.mem_cons.mp hk with rfl|hk
   ·omega
   ·have:=ab k hk;omega
  ·rw[List.length_cons];omega
 |.none::_,_,_,_,h=>by cases h
 |.bool _::_,_,_,_,h=>by cases h
 |.str _::_,_,_,_,h=>by cases h
 |.list _::_,_,_,_,h=>by cases h
 |.tuple _::_,_,_,_,h=>by cases h
 |.dict _::_,_,_,_,h=>by cases h
theorem zm8{m:Nat}{d:PyData}(h:zcv m d=true):∃u lo hi ks,d=(Tie.bough u lo hi ks).toD∧Tie.BoughOk m u lo hi ks:=by
 unfold zcv at h
 split at h
 next u l hd k=>
  simp only[Bool.and_eq_true] at h
  obtain⟨hu,hk,hr,hh,hl⟩:=h
  obtain⟨ui,rfl,u0,u1⟩:=zb0 hu
  obtain⟨kd,rfl,k0⟩:=zeo hk
  obtain⟨hi,rfl,h0,h1⟩:=zb0 (show zbh hd 1 kd.length=true from hh)
  obtain⟨lo,rfl,l0,l1⟩:=zb0 (show zbh l 0 hi=true from hl)
  obtain⟨un,rfl⟩:∃j:Nat,ui=(j:Int):=⟨ui.toNat,by omega⟩
  obtain⟨ns,rfl,pw,ab,ln⟩:=zgj (by omega) (by omega) (show za2 m kd un=true from hr)
  rw[List.length_map] at k0 h1
  exact⟨un,lo,hi,ns,rfl,⟨⟨by omega,fun z=>by rw[z] at k0;simp at k0,fun k hk=>by have:=ab k hk;omega,pw,by omega,l0,l1⟩,h0,h1⟩⟩
 next=>cases h
theorem zjv{m:Nat}:∀{ds:List PyData} {ns:List Nat},ds.all zc9=true→ds.map zi7=ns.map (fun k:Nat=>PyData.int (k:Int))→∃ps:List (Nat×Int),ds=ps.map zfv∧ps.map (·.1)=ns
 |[],[],_,_=>⟨[],rfl,rfl⟩
 |[],_::_,_,e=>by cases e
 |_::_,[],_,e=>by cases e
 |d::ds,n::ns,h,e=>by
  rw[List.all_cons,Bool.and_eq_true] at h
  rw[List.map_cons,List.map_cons] at e
  injection e with e1 e2
  obtain⟨ps,rfl,rfl⟩:=zjv (m:=m) h.2 e2
  have h1:=h.1
  unfold zc9 at h1
  split at h1
  next x y=>
   obtain⟨i,rfl⟩:=zmx h1
   refine⟨(n,i)::ps,?_,rfl⟩
   have e3:x=PyData.int (n:Int):=e1
   rw[e3]
   rfl
  next=>cases h1
theorem zma{m:Nat}{d:PyData}(h:zgp m d=true):∃t:Tie,d=t.toD∧t.Ok m∧∀u lo hi ks,t≠.bough u lo hi ks:=by
 unfold zgp at h
 split at h
 next k x y=>
  unfold zvd at h
  split at h
  next s=>
   unfold zi5 at h
   split at h
   next hs=>
    rw[Bool.and_eq_true] at h
    obtain⟨top,rfl⟩:=zmx h.1
    have h2:=h.2
    unfold zga at h2
    split at h2
    next ds=>
     simp only[Bool.and_eq_true,decide_eq_true_eq] at h2
     obtain⟨⟨d0,dp⟩,dr⟩:=h2
     obtain⟨ns,e,pw,ab,ln⟩:=zgj (by omega) (by omega) dr
     obtain⟨ps,rfl,rfl⟩:=zjv (m:=m) dp e
     rw[List.length_map] at d0 ln
     refine⟨.most top ps,by rw[hs];rfl,⟨fun z=>by rw[z] at d0;simp at d0,fun p hp=>(ab p.1 (List.mem_map.mpr ⟨p,hp,rfl⟩)).2,pw,by omega⟩,by intro _ _ _ _ z;cases z⟩
    next=>cases h2
   next hs=>
    split at h
    next hn=>
     simp only[Bool.and_eq_true] at h
     obtain⟨ha,hb,ad⟩:=h
     obtain⟨a,rfl,a0,a1⟩:=zb0 ha
     obtain⟨b,rfl,b0,b1⟩:=zb0 hb
     have ne:¬a=b:=by
      have z:(!decide (a=b))=true:=ad
      simpa using z
     obtain⟨an,rfl⟩:∃j:Nat,a=(j:Int):=⟨a.toNat,by omega⟩
     obtain⟨bn,rfl⟩:∃j:Nat,b=(j:Int):=⟨b.toNat,by omega⟩
     rcases hn with rfl|rfl
     ·exact⟨.needs an bn,rfl,⟨by omega,by omega,by omega⟩,by intro _ _ _ _ z;cases z⟩
     ·exact⟨.bans an bn,rfl,⟨by omega,by omega,by omega⟩,by intro _ _ _ _ z;cases z⟩
    next=>cases h
  next=>cases h
 next=>cases h
theorem zys(ks:List Nat):(ks.map fun k:Nat=>PyData.int (k:Int))=(ks.map fun k:Nat=>(k:Int)).map PyData.int:=by rw[List.map_map];rfl
theorem zf7(ks:List Nat):(ks.map fun k:Nat=>(k:Int)).map V.int=ks.map fun k:Nat=>V.int (k:Int):=by rw[List.map_map];rfl
theorem zc6{H:Hp}{u:Nat}{lo hi:Int}{ks:List Nat}{v:V}(h:Dn H (Tie.bough u lo hi ks).toD v):∃p pk,v=.ref p∧H p=some (.tup [.int (u:Int),.int lo,.int hi,.ref pk])∧H pk=some (.tup (ks.map fun k:Nat=>V.int (k:Int))):=by
 obtain⟨p,xs,rfl,hp,xu,r1,rfl,hu,xl,r2,rfl,ag,xh,r3,rfl,hh,xk,r4,rfl,hk,ad⟩:=zbw h
 cases(show r4=[] from ad)
 cases zcc hu
 cases zcc ag
 cases zcc hh
 obtain⟨pk,ys,rfl,af,ae⟩:=zbw hk
 rw[zys] at ae
 rw[zj1 ae,zf7] at af
 exact⟨p,pk,rfl,hp,af⟩
theorem zjn{H:Hp}{w:Str}{a b:Int}{v:V}(h:Dn H (.tuple [.str w,.int a,.int b]) v):∃p,v=.ref p∧H p=some (.tup [.str w,.int a,.int b]):=by
 obtain⟨p,xs,rfl,hp,xu,r1,rfl,hu,xl,r2,rfl,ae,xh,r3,rfl,hh,ad⟩:=zbw h
 cases(show r3=[] from ad)
 cases(show xu=.str w from hu)
 cases zcc ae
 cases zcc hh
 exact⟨p,rfl,hp⟩
theorem zq6{H:Hp}{top:Int}{ps:List (Nat×Int)}{v:V}(h:Dn H (Tie.most top ps).toD v):∃p q xs,v=.ref p∧H p=some (.tup [.str ("most" : Str),.int top,.ref q])∧H q=some (.tup xs)∧DnL H (ps.map zfv) xs:=by
 obtain⟨p,xs,rfl,hp,xu,r1,rfl,hu,xl,r2,rfl,af,xh,r3,rfl,hh,ad⟩:=zbw h
 cases(show r3=[] from ad)
 cases(show xu=.str ("most" : Str) from hu)
 cases zcc af
 obtain⟨q,ys,rfl,hq,ae⟩:=zbw hh
 exact⟨p,q,ys,rfl,hp,hq,ae⟩
theorem zjm{H:Hp}{ps:List (Nat×Int)}{xs:List V}(h:DnL H (ps.map zfv) xs){i:Nat}{x:V}(hx:xs[i]?=some x):∃p r,ps[i]?=some p∧x=.ref r∧H r=some (.tup [.int (p.1:Int),.int p.2]):=by
 obtain⟨d,hd,ae⟩:=h.get hx
 rw[List.getElem?_map] at hd
 obtain⟨p,hp,rfl⟩:=Option.map_eq_some_iff.mp hd
 obtain⟨r,ys,rfl,hr,xa,r1,rfl,ha,xb,r2,rfl,hb,ad⟩:=zbw (show Dn H (.tuple [.int (p.1:Int),.int p.2]) x from ae)
 cases(show r2=[] from ad)
 cases zcc ha
 cases zcc hb
 exact⟨p,r,hp,rfl,hr⟩
def zp6(n k:Int):Bool:=decide (0≤k)&&decide (n/2^k.toNat%2=1)
theorem zbl(s u:Nat):zp6 (s:Int) (u:Int)=s.testBit u:=by
 unfold zp6
 rw[decide_eq_true (by omega),Bool.true_and,Nat.testBit_eq_decide_div_mod_eq,Int.toNat_natCast]
 have e:((s:Int)/2^u%2=1)↔(s/2^u%2=1):=by
  have e3:(2:Int)^u=((2^u:Nat):Int):=by rw[Int.natCast_pow];rfl
  rw[e3]
  omega
 by_cases z:s/2^u%2=1
 ·rw[decide_eq_true z,decide_eq_true (e.mpr z)]
 ·rw[decide_eq_false z,decide_eq_false (fun y=>z (e.mp y))]
theorem zzc(n:Int)(k:Nat):Builtin.bitAnd (n/2^k) 1=n/2^k%2:=PySem.W.kbt_mask (n/2^k) 1
end Wd
namespace L2
open PySem PySem.Spec PyProof.Rows
theorem zt6{X:Cx}{st:List Stmt}{t:TS}(h:PSs X st t):∃t',PSs X st t'∧∀D σ H,t D σ H→t' D σ H:=⟨t,h,fun _ _ _ x=>x⟩
section
variable {X : Cx} {o e : Expr} {es : List Expr} {to : TE} {t : TA} {name : Str} {apos cpos : Pos} {T id : String} {r : V → List V → Hp → VK → Prop}
theorem zb3{K:PySem.W.Frag}(pa:PlainAttrs T)(slot:Slot T name id)(hty:typeOf (.builtin id)=pure (.type "method_descriptor"))(hm:MtR X id r)(ho:PE X o to)(ha:PA X (e::es) t)(hK:X.K=K:=by rfl)
  (hbase:attributeBase o name X.env (eval o X.env)=eval o X.env:=by rfl)
  (hfew:((backTo cpos (starEach (e::es) X.env)).all (fun x=>!x.1)&&(backToKw cpos (keywordEach [] X.env)).all (fun x=>x.1.isSome)&&decide ((e::es).length+([]:List Keyword).length+(if ([]:List Keyword).isEmpty then 0 else 1)<30))=true:=by rfl)
  (hline:(apos.endLine==cpos.line)=true:=by rfl) (hs:starEach (e::es) X.env=(false,eval e X.env)::starEach es X.env:=by rfl) (hplain:(backTo cpos (starEach es X.env)).any (·.1)=false:=by rfl):
  PE X (.Call (.Attribute o name apos) (e::es) [] cpos) (tBM K T r to t):=hK▸zy6 pa slot hty hm ho ha hbase hfew hline hs hplain
end
theorem Room.lv{A:Around}{j k:Nat}(hr:Room k A)(h:j≤k:=by first|decide|omega):Room j A:=hr.mono h
structure Df(K:PySem.W.Frag)(mg:Str→Option Value)(x:Str)(st:Stmt)(f:Addr)(fd:FuncData)(ps:List Str):Prop extends Fun K x x st f fd where
 g:mg x=some (.ref f)
 B:Binds K fd ps []
theorem zaf{X:Cx}{k:Nat}{f:Addr}{fd:FuncData}{ps:List Str}{sp:Sp}{x:Str}{p pos:Pos}{e:Expr}{es:List Expr}{t:TA}{st:Stmt}(F:FnOk X.prog X.w X.K X.mg X.base CX0 k f fd ps sp)(hr:Room k X.A)(hg:Gl X x)(D:Df X.K X.mg x st f fd ps)
  (ha:PA X (e::es) t) (hdb:(x==("__debug__" : Str))=false:=by decide) (he:starEach (e::es) X.env=(false,eval e X.env)::starEach es X.env:=by rfl) (hpl:(backTo pos (starEach es X.env)).any (·.1)=false:=by rfl):
  PE X (.Call (.Name x p) (e::es) [] pos) (zuc sp [] E0 t):=zmf F hr hg D.g D.kp D.B .nil zta ha hdb he hpl
theorem scm{N P:List Str}{sc:Scope}(a:sc.kind=.function)(b:sc.isCoroutine=false)(c:sc.isGenerator=false)(e:N.take P.length=P)(h:(decide N.Nodup&&(decide (∀x∈P,sc.names.lookup x=some .local∨sc.names.lookup x=some .cell)&&decide (∀y∈sc.names,y.2≠.free)))=true):zau N P sc:=by
 rw[Bool.and_eq_true,Bool.and_eq_true] at h
 exact⟨a,b,c,of_decide_eq_true h.1,e,of_decide_eq_true h.2.1,of_decide_eq_true h.2.2⟩
def Dk(K:PySem.W.Frag)(x:Str)(st:Stmt)(f:Addr)(fd:FuncData):Prop:=PySem.W.nsIn K mainGlobals x=some (some (.ref f))∧Fun K x x st f fd
section
variable {K : PySem.W.Frag} {x q : Str} {st : Stmt} {f C : Addr} {oc : Value} {od an : Option Addr} {osl : Array (Option Value)} {kV doc pm cdv ct : Value}
theorem dk(a:PySem.W.nsIn K mainGlobals x=some (some (.ref f)))(l:K.lookup f=some ⟨oc,od,.func (PySem.W.fnOf x x (zfr st) (zbe st) (zai st) .none kV doc pm an cdv ct),osl⟩)(c:PySem.W.codeIn K cdv x=true)(k:PySem.W.keepIn K (.ref f)=true):
  Dk K x st f (PySem.W.fnOf x x (zfr st) (zbe st) (zai st) .none kV doc pm an cdv ct):=⟨a,zxt l c k⟩
abbrev Bd(x q:Str)(st:Stmt)(us:List Value)(ps:List Str):Prop:=∀(kV doc pm:Value)(an:Option Addr)(cdv ct:Value),bindArgs (PySem.W.fnOf x q (zfr st) (zbe st) (zai st) .none kV doc pm an cdv ct) ⟨us,[]⟩=pure (ps.zip us)
theorem Dk.df{h:Heap}{mg:Str→Option Value}{fd:FuncData}{ps:List Str}(X:K.In h)(G:h.Ns mainGlobals mg)(D:Dk K x st f fd)(b:∀us,us.length=ps.length→Bd x x st us ps):Df K mg x st f fd ps:=
 ⟨D.2,PySem.W.mg_of X G D.1,D.2.binds fun kV doc pm an cdv ct us hl=>b us hl kV doc pm an cdv ct⟩
theorem bd1{p:List Str}(h:∀a,Bd x q st [a] p):∀us:List Value,us.length=1→Bd x q st us p|[a],_=>h a
theorem bd2{p:List Str}(h:∀a b,Bd x q st [a,b] p):∀us:List Value,us.length=2→Bd x q st us p|[a,b],_=>h a b
theorem bd3{p:List Str}(h:∀a b c,Bd x q st [a,b,c] p):∀us:List Value,us.length=3→Bd x q st us p|[a,b,c],_=>h a b c
theorem bd4{p:List Str}(h:∀a b c d,Bd x q st [a,b,c,d] p):∀us:List Value,us.length=4→Bd x q st us p|[a,b,c,d],_=>h a b c d
theorem bd5{p:List Str}(h:∀a b c d e,Bd x q st [a,b,c,d,e] p):∀us:List Value,us.length=5→Bd x q st us p|[a,b,c,d,e],_=>h a b c d e
theorem zyj{fd:FuncData}{y:Str}(F:Fun K x q st f fd)(h:∀v,Bd x q st [v] [y])(s:Shared)(v:Value):BindsTo s fd ⟨[v],[]⟩ [(y,v)]:=by
 obtain⟨oc,od,kV,doc,pm,an,cdv,ct,osl,rfl,lk,ad⟩:=F.ex
 exact .of_eq (h v kV doc pm an cdv ct)
end
section
variable {X : Cx}
theorem pgT{K:PySem.W.Frag}{pos:Pos}{es:List Expr}{k:Nat}{t:TGs}{n:Nat}(hc:X.calm=true)(h:PGs X es t)(hn:(assignEach es X.env).length=n:=by rfl)(hst:(assignEach es X.env).findIdx? (·.1)=none:=by rfl)(hK:X.K=K:=by rfl):PG X (.Tuple es k pos) (zy2 K n t):=hK▸zxc hc h hn hst
theorem zrb:zcq X (.type "range") (fun xs H Q=>∃j:Int,xs=[.int j]∧∀p,H p=none→Q (.ref p) (upd H p (.rng 0 j))):=by
 intro pins s σ H xs us Q I r h
 obtain⟨j,rfl,q⟩:=h
 obtain⟨u,rfl,⟨t,rfl⟩⟩:=zer r
 refine call_range_1 ⟨.ref s.heap.objs.size,_,I.laid (fun b o e=>Heap.get?_push_of_some _ e) (Nat.le_refl _) (show ObjOk X.prog X.w _ _ _ (.rng 0 j) from⟨_,_,_,Heap.get?_push_size _ rfl⟩),rfl,q _ (I.hok.fresh (Nat.le_refl _))⟩
end
end L2
namespace Wd
open PySem L2
def zu8:Sp:=fun vs H Q _=>∃(t:Tie)(m n:Nat)(v:V),vs=[v,.int n]∧Dn H t.toD v∧t.Ok m∧m≤1000∧∀H',Same H H'→Q (.bl (t.keep n)) H'
def zqv(K:PySem.W.Frag):Sp:=fun vs H Q _=>∃(p:Addr)(ns:List Int),vs=[.ref p]∧SqL K H p (ns.map V.int)∧ns.length≤63∧∀H',Q (.bl true) H'
theorem zpb(k:Nat):decide (V.int (k:Int)=V.int 0)=decide (k=0):=by
 rw[zfq]
 by_cases z:k=0
 ·rw[z];rfl
 ·rw[decide_eq_false z]
  simpa using z
def zxa(f:Tie→Nat→Nat→Bool):Sp:=fun vs H Q _=>∃(t:Tie)(m y n:Nat)(v:V),vs=[v,.int y,.int n]∧Dn H t.toD v∧t.Ok m∧m≤1000∧∀H',Same H H'→Q (.bl (f t y n)) H'
def zvs(f:Tie→Nat→Nat→Bool):Sp:=fun vs H Q _=>∃(u:Nat)(lo hi:Int)(ks:List Nat)(m y n:Nat)(v:V),vs=[v,.int y,.int n]∧Dn H (Tie.bough u lo hi ks).toD v∧Tie.BoughOkW m u lo hi ks∧m≤1000∧∀H',Same H H'→Q (.bl (f (Tie.bough u lo hi ks) y n)) H'
def zwk(f:List (Nat×Int)→Nat→Nat→Int):Sp:=fun vs H Q _=>∃(q:Addr)(xs:List V)(ps:List (Nat×Int))(y n:Nat),vs=[.ref q,.int y,.int n]∧H q=some (.tup xs)∧DnL H (ps.map zfv) xs∧ps.length≤1000∧∀H',Same H H'→Q (.int (f ps y n)) H'
theorem zls{P:Tie→Prop}:∀{l:List PyData},(∀d∈l,∃t:Tie,d=t.toD∧P t)→∃ts:List Tie,l=ts.map Tie.toD∧∀t∈ts,P t
 |[],_=>⟨[],rfl,(fun _ z=>nomatch z)⟩
 |d::r,h=>by
  obtain⟨t,e,p⟩:=h d List.mem_cons_self
  obtain⟨ts,e2,p2⟩:=zls fun x hx=>h x (List.mem_cons_of_mem _ hx)
  refine⟨t::ts,by rw[e,e2];rfl,fun x hx=>?_⟩
  rcases List.mem_cons.mp hx with rfl|z
  ·exact p
  ·exact p2 x z
theorem zm9{H:Hp}{ts:List Tie}{xs:List V}(h:DnL H (ts.map Tie.toD) xs){i:Nat}{x:V}(hx:xs[i]?=some x):∃t,ts[i]?=some t∧Dn H t.toD x:=by
 obtain⟨d,hd,q⟩:=h.get hx
 rw[List.getElem?_map] at hd
 obtain⟨t,ht,rfl⟩:=Option.map_eq_some_iff.mp hd
 exact⟨t,ht,q⟩
theorem zfz{c A B:Prop}[Decidable c](hc:c)(h:A):if decide c=true then A else B:=by
 rw[decide_eq_true hc]
 exact zpq h
theorem zb5{c A B:Prop}[Decidable c](hc:¬c)(h:B):if decide c=true then A else B:=by
 rw[decide_eq_false hc]
 exact zc5 h
theorem zwe{c A B:Prop}[Decidable c](hc:¬c)(h:A):if (!decide c)=true then A else B:=by
 rw[decide_eq_false hc]
 exact zpq h
theorem zu6{b:Bool}{A B:Prop}(hc:b=true)(h:A):if b=true then A else B:=by
 rw[if_pos hc];exact h
theorem zn5{b:Bool}{A B:Prop}(hc:b=false)(h:B):if b=true then A else B:=by
 rw[hc];exact zc5 h
theorem zlq{x y:Str}(h:¬x=y):¬V.str x=V.str y:=fun z=>by injection z with z;exact h z
theorem zjo:¬V.str ("bans" : Str)=V.str ("needs" : Str):=zlq (by decide +kernel)
theorem zkh:¬V.str ("most" : Str)=V.str ("needs" : Str):=zlq (by decide +kernel)
theorem zlv:¬V.str ("most" : Str)=V.str ("bans" : Str):=zlq (by decide +kernel)
theorem int_str{i:Int}{x:Str}:¬V.int i=V.str x:=fun z=>by cases z
end Wd
namespace Wd
open PySem L2 Ow
structure WoodT(H:Hp)(wd:Addr)(m:Nat)(ts:List Tie):Prop where
 ex:∃xs ys,WoodAt H wd m xs ys∧DnL H (ts.map Tie.toD) (xs++ys)
 ok:∀t∈ts,t.Ok m
 few:ts.length≤900
 m9:m≤900
theorem WoodAt.same{H H':Hp}{wd:Addr}{m:Int}{xs ys:List V}(s:Same H H')(h:WoodAt H wd m xs ys):WoodAt H' wd m xs ys:=by
 obtain⟨tb,tc,h1,h2,h3⟩:=h.ex
 exact⟨tb,tc,s _ _ h1,s _ _ h2,s _ _ h3⟩
theorem WoodT.same{H H':Hp}{wd:Addr}{m:Nat}{ts:List Tie}(s:Same H H')(h:WoodT H wd m ts):WoodT H' wd m ts:=by
 obtain⟨xs,ys,h1,h2⟩:=h.ex
 exact⟨⟨xs,ys,WoodAt.same s h1,DnL.same s _ _ h2⟩,h.ok,h.few,h.m9⟩
def zo4:Option Nat→V
 |none=>.non
 |some i=>.int (i:Int)
def zbs(ts:List Tie)(n:Nat):Bool:=n.testBit 0&&ts.all fun t=>t.keep n
def zve:Sp:=fun vs H Q _=>∃(wd:Addr)(m:Nat)(ts:List Tie),vs=[.ref wd]∧WoodT H wd m ts∧∀(l:Addr)(H':Hp),Same H H'→H l=none→H' l=some (.lst ((List.range ts.length).map fun i:Nat=>V.int (i:Int)))→Q (.ref l) H'
end Wd
namespace Wd
theorem zoc:∀(k a b:Nat),(∀j,a.testBit j=true→b.testBit j=false)→(a+b).testBit k=(a.testBit k||b.testBit k)
 |k,a,b,h=>by
  have h0:=h 0
  rw[Nat.testBit_zero,Nat.testBit_zero] at h0
  have p:a%2+b%2≤1:=by
   by_cases z:a%2=1
   ·have:=h0 (decide_eq_true z)
    have:=of_decide_eq_false this
    omega
   ·omega
  cases k with
  |zero=>
   rw[Nat.testBit_zero,Nat.testBit_zero,Nat.testBit_zero]
   by_cases z:a%2=1
   ·rw[decide_eq_true z,decide_eq_true (by omega),Bool.true_or]
   ·rw[decide_eq_false z,Bool.false_or]
    by_cases y:b%2=1
    ·rw[decide_eq_true y,decide_eq_true (by omega)]
    ·rw[decide_eq_false y,decide_eq_false (by omega)]
  |succ k=>
   rw[Nat.testBit_add_one,Nat.testBit_add_one,Nat.testBit_add_one]
   have e:(a+b)/2=a/2+b/2:=by omega
   rw[e]
   refine zoc k (a/2) (b/2) fun j hj=>?_
   have:=h (j+1)
   rw[Nat.testBit_add_one,Nat.testBit_add_one] at this
   exact this hj
theorem zwu{a b:Nat}(h:∀j,a.testBit j=true→b.testBit j=false):a+b=a|||b:=
 Nat.eq_of_testBit_eq fun k=>by rw[zoc k a b h,Nat.testBit_or]
theorem zoz:∀(k y a:Nat),(∀j,a.testBit j=true→y.testBit j=true)→(y-a).testBit k=(y.testBit k&&!a.testBit k)
 |k,y,a,h=>by
  have le:a≤y:=by
   have e:a=a&&&y:=Nat.eq_of_testBit_eq fun j=>by
    rw[Nat.testBit_and]
    cases e:a.testBit j with
    |false=>rfl
    |true=>rw[h j e];rfl
   rw[e]
   exact Nat.and_le_right
  have h0:=h 0
  rw[Nat.testBit_zero,Nat.testBit_zero] at h0
  have p:a%2≤y%2:=by
   by_cases z:a%2=1
   ·have:=of_decide_eq_true (h0 (decide_eq_true z))
    omega
   ·omega
  cases k with
  |zero=>
   rw[Nat.testBit_zero,Nat.testBit_zero,Nat.testBit_zero]
   by_cases z:a%2=1
   ·rw[decide_eq_true z,decide_eq_false (by omega)];simp
   ·rw[decide_eq_false z]
    by_cases x:y%2=1
    ·rw[decide_eq_true x,decide_eq_true (by omega)];rfl
    ·rw[decide_eq_false x,decide_eq_false (by omega)];rfl
  |succ k=>
   rw[Nat.testBit_add_one,Nat.testBit_add_one,Nat.testBit_add_one]
   have e:(y-a)/2=y/2-a/2:=by omega
   rw[e]
   refine zoz k (y/2) (a/2) fun j hj=>?_
   have:=h (j+1)
   rw[Nat.testBit_add_one,Nat.testBit_add_one] at this
   exact this hj
theorem zrf(a b:Nat):a|||b=a+(b-(a&&&b)):=by
 have hb:∀j,(b-(a&&&b)).testBit j=(b.testBit j&&!(a&&&b).testBit j):=fun j=>zoz j b (a&&&b) fun i hi=>by
  rw[Nat.testBit_and,Bool.and_eq_true] at hi
  exact hi.2
 rw[zwu fun j hj=>by rw[hb,Nat.testBit_and,hj];cases b.testBit j<;>rfl]
 refine Nat.eq_of_testBit_eq fun j=>?_
 rw[Nat.testBit_or,Nat.testBit_or,hb,Nat.testBit_and]
 cases a.testBit j<;>cases b.testBit j<;>rfl
theorem zhx(p:Nat→Bool)(i:Nat):(List.range (i+1)).filter p=(List.range i).filter p++(if p i=true then [i] else []):=by
 rw[List.range_succ,List.filter_append]
 congr 1
 by_cases h:p i=true<;>simp[h]
theorem zdx(y k j:Nat):(y|||2^k).testBit j=(y.testBit j||decide (k=j)):=by rw[Nat.testBit_or,Nat.testBit_two_pow]
theorem inS_split{y n k s:Nat}:InS y n s↔InS (y|||2^k) n s∨InS y (n|||2^k) s:=by
 constructor
 ·rintro⟨h1,h2⟩
  cases e:s.testBit k with
  |true=>
   refine .inl ⟨fun j hj=>?_,h2⟩
   rw[zdx,Bool.or_eq_true,decide_eq_true_eq] at hj
   rcases hj with z|rfl
   ·exact h1 j z
   ·exact e
  |false=>
   refine .inr ⟨h1,fun j hj=>?_⟩
   rw[zdx,Bool.or_eq_true,decide_eq_true_eq] at hj
   rcases hj with z|rfl
   ·exact h2 j z
   ·exact e
 ·rintro(⟨h1,h2⟩|⟨h1,h2⟩)
  ·exact⟨fun j hj=>h1 j (by rw[zdx,hj,Bool.true_or]),h2⟩
  ·exact⟨h1,fun j hj=>h2 j (by rw[zdx,hj,Bool.true_or])⟩
theorem zws{y n k:Nat}(d:∀j,y.testBit j=true→n.testBit j=false)(hn:n.testBit k=false):∀j,(y|||2^k).testBit j=true→n.testBit j=false:=fun j hj=>by
 rw[zdx,Bool.or_eq_true,decide_eq_true_eq] at hj
 rcases hj with z|rfl
 ·exact d j z
 ·exact hn
theorem zuo{y n k:Nat}(d:∀j,y.testBit j=true→n.testBit j=false)(hy:y.testBit k=false):∀j,y.testBit j=true→(n|||2^k).testBit j=false:=fun j hj=>by
 rw[zdx,d j hj,Bool.false_or]
 exact decide_eq_false fun z=>by rw[←z,hy] at hj;cases hj
theorem zkt{y n:Nat}(d:∀j,y.testBit j=true→n.testBit j=false):InS y n y:=⟨fun _ z=>z,fun k hk=>by
 cases e:y.testBit k with
 |false=>rfl
 |true=>rw[d k e] at hk;cases hk⟩
theorem znw{m y n s:Nat}(full:∀k,k<m→(y|||n).testBit k=true)(hs:InS y n s)(d:∀j,y.testBit j=true→n.testBit j=false):∀k,k<m→s.testBit k=y.testBit k:=fun k hk=>by
 have h:=full k hk
 rw[Nat.testBit_or,Bool.or_eq_true] at h
 rcases h with z|z
 ·rw[z,hs.1 k z]
 ·rw[hs.2 k z,(zkt d).2 k z]
theorem zvc{m:Nat}{t:Tie}(ok:t.Ok m){y n:Nat}(d:∀j,y.testBit j=true→n.testBit j=false)(full:∀k,k<m→(y|||n).testBit k=true):t.sb y n=!t.keep y:=by
 rw[Bool.eq_iff_iff,zsm ok d,Bool.not_eq_true']
 constructor
 ·intro h
  exact h y (zkt d)
 ·intro h s hs
  rw[zpu ok (znw full hs d)]
  exact h
end Wd
namespace L2
open PySem
theorem zk2{X:Cx}(hu:X.A.units+64<cLine):OpR X (compareOp .Eq) (fun x y H Q=>∃(a b:Addr)(ns ms:List Int),x=.ref a∧y=.ref b∧SqL X.K H a (ns.map V.int)∧SqL X.K H b (ms.map V.int)∧Q (.bl (decide (ns=ms))) H):=by
 intro pins s σ H x y v u Q I rx ry h
 obtain⟨a,b,ns,ms,rfl,rfl,ha,hb,q⟩:=h
 cases rx
 cases ry
 obtain⟨xs,rv,p,_⟩:=I.list ha
 obtain⟨ys,ad,p',_⟩:=I.list hb
 exact PySem.W.ke_eq_ints p.isList p'.isList (zb7 rv) (zb7 ad) hu ⟨.bl _,H,I,rfl,q⟩
theorem zfa{k:Nat}{σ0:St}{H:Hp}{g:TG}{tc:TT}{te:TE}{Q:VK}(Pv:Nat→List V→St→Hp→Prop)(h0:Pv 0 [] σ0 H)(hz:∀i ys σ H,i≤k→Pv i ys σ H→ys.length≤sizeLine)
  (hs:∀i ys σ H,i<k→Pv i ys σ H→g (.int (i:Int)) σ H fun σ3 H3=>tc σ3 H3 fun b H4=>if b=true then te σ3 H4 fun v H5=>Pv (i+1) (ys++[v]) σ3 H5 else Pv (i+1) ys σ3 H4)
  (hd:∀ys σ H,Pv k ys σ H→∀p,H p=none→Q (.ref p) (upd H p (.lst ys))):
  znm (Itr 0 k) g tc te σ0 H Q:=
 zsq (lo:=0) Pv h0 hz (fun i ys σ H hi p=>by rw[Int.zero_add];exact hs i ys σ H hi p) hd
theorem zph{n:Nat}{g:TG}{tb:TS}{D:zjd}{σ:St}{H:Hp}(Pv:Nat→St→Hp→Prop)(h0:Pv 0 σ H)
  (hs:∀i σ H,i<n→Pv i σ H→g (.int (i:Int)) σ H fun σ2 H2=>tb { D with nx:=Pv (i+1),ct:=Pv (i+1),bk:=D.nx } σ2 H2) (hd:∀σ H,Pv n σ H→D.nx σ H):
  ∃W:Nat→Nat→St→Hp→Prop,(∃m,W 0 m σ H)∧∀i m σ H,W i m σ H →
   ((Itr 0 n).stop i H∧D.nx σ H)∨((Itr 0 n).go i H∧∃N:St→Hp→Prop,(∀σ' H',N σ' H'→∃m',m'<m∧W (i+1) m' σ' H')∧∀x H',(Itr 0 n).yld i H x H'→g x σ H' fun σ2 H2=>tb { D with nx:=N,ct:=N,bk:=D.nx } σ2 H2):=
 zlt (lo:=0) Pv h0 (fun i σ H hi p=>by rw[Int.zero_add];exact hs i σ H hi p) hd
end L2
namespace Wd
open PySem L2 Ow
theorem zqu(a b:Nat):Builtin.bitOr (a:Int) (b:Int)=((a|||b:Nat):Int):=by
 have le:a&&&b≤b:=Nat.and_le_right
 rw[PyProof.Rows.bitOr_and,PyProof.Rows.bitAnd_pp (by omega) (by omega),Int.toNat_natCast,Int.toNat_natCast,zrf]
 omega
theorem zx5(k:Nat):1*(2:Int)^((k:Nat):Int).toNat=((2^k:Nat):Int):=by
 rw[Int.one_mul,Int.toNat_natCast,Int.natCast_pow]
 rfl
theorem zsb(k:Nat):0<2^k:=Nat.pow_pos (by decide)
def zvv(l:List Stmt)(i:Nat):List Stmt:=
 match l[i]? with
 |some (Stmt.For _ _ b _ _)=>b
 |_=>[]
def KpX(pen:Addr)(H H':Hp)(b:Addr):HO→Prop
 |.tbl _=>(∃ps,H' b=some (.tbl ps))∧(zdt H b→(∃ys,H pen=some (.lst ys))→zdt H' b∧∃ys,H' pen=some (.lst ys))
 |o=>H' b=some o
def SameX(pen:Addr)(H H':Hp):Prop:=∀b o,b≠pen→H b=some o→KpX pen H H' b o
theorem KpX.some{pen:Addr}{H H':Hp}{b:Addr}{o:HO}(k:KpX pen H H' b o):∃u,H' b=some u:=by
 cases o
 case tbl ps=>exact⟨_,k.1.choose_spec⟩
 all_goals exact⟨_,k⟩
theorem SameX.refl(pen:Addr)(H:Hp):SameX pen H H:=fun _ o _ h=>by
 cases o
 case tbl ps=>exact⟨⟨_,h⟩,fun a b=>⟨a,b⟩⟩
 all_goals exact h
theorem SameX.trans{pen:Addr}{H H1 H2:Hp}(a:SameX pen H H1)(b:SameX pen H1 H2):SameX pen H H2:=fun c o n h=>by
 have z:=a c o n h
 cases o
 case tbl ps=>
  obtain⟨⟨qs,hq⟩,k⟩:=z
  obtain⟨q2,k2⟩:=b c _ n hq
  exact⟨q2,fun t y=>k2 (k t y).1 (k t y).2⟩
 all_goals exact b c _ n z
theorem Same.x{pen:Addr}{H H':Hp}(s:Same H H'):SameX pen H H':=fun b o _ h=>by
 have z:=s b o h
 cases o
 case tbl ps=>exact⟨z.1,fun t ⟨ys,y⟩=>⟨z.2 t,ys,s pen _ y⟩⟩
 all_goals exact z
theorem zay{pen:Addr}{H:Hp}(o:HO)(ho:∃ys,o=.lst ys:=by exact⟨_,rfl⟩):SameX pen H (upd H pen o):=fun b u n h=>by
 cases u
 case tbl ps=>
  refine⟨⟨ps,by rw[zam n];exact h⟩,?_⟩
  rintro⟨qs,hq,tr,hp⟩ ⟨ys,hy⟩
  obtain⟨zs,rfl⟩:=ho
  refine⟨⟨qs,by rw[zam n];exact hq,tr,fun pos=>?_⟩,⟨zs,zac⟩⟩
  rcases hp pos with z|⟨c,z1,z2⟩
  ·exact .inl z
  ·refine .inr ⟨c,z1,?_⟩
   rw[zam fun z=>by rw[z,hy] at z2;cases z2]
   exact z2
 all_goals (show upd H pen o b=_;rw[zam n];exact h)
theorem Same.put{H H1:Hp}{p:Addr}{xs:List V}{o:HO}(s:Same H H1)(n:H p=none)(e:H1 p=some (.lst xs)):Same H (upd H1 p o):=fun b u hb=>by
 have ne:b≠p:=zaq hb n
 have z:=s b u hb
 cases u
 case tbl ps=>
  refine⟨⟨z.1.choose,by rw[zam ne];exact z.1.choose_spec⟩,fun t=>?_⟩
  obtain⟨qs,hq,tr,hp⟩:=z.2 t
  refine⟨qs,by rw[zam ne];exact hq,tr,fun pos=>?_⟩
  rcases hp pos with y|⟨c,y1,y2⟩
  ·exact .inl y
  ·refine .inr ⟨c,y1,?_⟩
   rw[zam fun z=>by rw[z,e] at y2;cases y2]
   exact y2
 all_goals (show upd H1 p o b=_;rw[zam ne];exact z)
theorem SameX.put{pen:Addr}{H H1:Hp}{p:Addr}{xs:List V}{o:HO}(s:SameX pen H H1)(n:H p=none)(np:p≠pen)(e:H1 p=some (.lst xs)):SameX pen H (upd H1 p o):=fun b u nb hb=>by
 have ne:b≠p:=zaq hb n
 have z:=s b u nb hb
 cases u
 case tbl ps=>
  refine⟨⟨z.1.choose,by rw[zam ne];exact z.1.choose_spec⟩,fun t y=>?_⟩
  obtain⟨⟨qs,hq,tr,hp⟩,ys,hy⟩:=z.2 t y
  refine⟨⟨qs,by rw[zam ne];exact hq,tr,fun pos=>?_⟩,ys,by rw[zam (Ne.symm np)];exact hy⟩
  rcases hp pos with y|⟨c,y1,y2⟩
  ·exact .inl y
  ·refine .inr ⟨c,y1,?_⟩
   rw[zam fun z=>by rw[z,e] at y2;cases y2]
   exact y2
 all_goals (show upd H1 p o b=_;rw[zam ne];exact z)
theorem SameX.tab{pen P:Addr}{H H':Hp}{ys:List V}(s:SameX pen H H')(hp:H pen=some (.lst ys))(t:zdt H P):zdt H' P:=by
 obtain⟨ps,h,_⟩:=id t
 exact((s P _ (fun z=>by rw[z,hp] at h;cases h) h).2 t ⟨ys,hp⟩).1
theorem SameX.free{pen l:Addr}{H H':Hp}(s:SameX pen H H')(hp:∃o,H' pen=some o)(h:H' l=none):H l=none:=by
 cases q:H l with
 |none=>rfl
 |some o=>
  obtain⟨o',e⟩:=hp
  have n:l≠pen:=fun z=>by rw[z,e] at h;cases h
  obtain⟨u,z⟩:=(s l o n q).some
  rw[z] at h
  cases h
structure Pen(K:PySem.W.Frag)(H:Hp)(pen sp:Addr)(ns:List Int)(k:Int):Prop where
 at_:H pen=some (.lst [.ref sp,.int k])
 len:ns.length≤63
 scr:∀H',SameX pen H H'→SqL K H' sp (ns.map V.int)
theorem Pen.to{K:PySem.W.Frag}{H H':Hp}{pen sp:Addr}{ns:List Int}{k k':Int}(p:Pen K H pen sp ns k)(s:SameX pen H H')(e:H' pen=some (.lst [.ref sp,.int k'])):Pen K H' pen sp ns k':=
 ⟨e,p.len,fun H2 s2=>p.scr H2 (s.trans s2)⟩
theorem Dn.pen{H:Hp}{p:Addr}{xs ys:List V}(h:H p=some (.lst xs)){n:Nat}{d:PyData}{v:V}(f:zbf n d=true)(q:Dn H d v):Dn (upd H p (.lst ys)) d v:=Dn.keepT (zno h) n d v f q
theorem DnL.pen{H:Hp}{p:Addr}{xs ys:List V}(h:H p=some (.lst xs)){n:Nat}{ds:List PyData}{vs:List V}(f:ds.all (zbf n)=true)(q:DnL H ds vs):DnL (upd H p (.lst ys)) ds vs:=DnL.keepT (Dn.keepT (zno h) n) ds vs f q
def zk3(H H':Hp):Prop:=∀b xs,H b=some (.tup xs)→H' b=some (.tup xs)
theorem SameX.tup{pen:Addr}{H H':Hp}{ys:List V}(e:H pen=some (.lst ys))(s:SameX pen H H'):zk3 H H':=fun b xs h=>s b _ (fun z=>by rw[z,e] at h;cases h) h
theorem DnL.tupS{H H':Hp}(t:zk3 H H'){n:Nat}{ds:List PyData}{vs:List V}(f:ds.all (zbf n)=true)(q:DnL H ds vs):DnL H' ds vs:=DnL.keepT (Dn.keepT t n) ds vs f q
def zwm(K:PySem.W.Frag):Sp:=fun vs H Q _=>∃(pen sp:Addr)(ns:List Int)(most k:Int),vs=[.ref pen,.int most]∧Pen K H pen sp ns k∧0≤k∧k≤1000000∧0<most∧∀c:Int,0≤c→c<most→Q (.int c) (L2.upd H pen (.lst [.ref sp,.int (k+1)]))
theorem DnL.drop{H:Hp}:∀{ds:List PyData} {xs:List V} (t:Nat),DnL H ds xs→DnL H (ds.drop t) (xs.drop t)
 |_,_,0,h=>h
 |[],xs,t+1,h=>by rw[(show xs=[] from h)];exact rfl
 |d::ds,_,t+1,⟨x,r,e,q,z⟩=>by rw[e];exact DnL.drop t z
theorem DnL.take{H:Hp}:∀{ds:List PyData} {xs:List V} (t:Nat),DnL H ds xs→DnL H (ds.take t) (xs.take t)
 |_,_,0,h=>by rw[List.take_zero,List.take_zero];exact rfl
 |[],xs,t+1,h=>by rw[(show xs=[] from h)];exact rfl
 |d::ds,_,t+1,⟨x,r,e,q,z⟩=>by rw[e];exact⟨x,_,rfl,q,DnL.take t z⟩
structure WoodX(H:Hp)(wd:Addr)(m:Nat)(bs cs:List PyData):Prop where
 ex:∃xs ys,WoodAt H wd m xs ys∧DnL H bs xs∧DnL H cs ys
 gb:zh7 m bs
 gc:∀c∈cs,zgp m c=true
 b8:bs.length≤9
 c8:cs.length≤20
 fb:bs.all (zbf 3)=true
 fc:cs.all (zbf 3)=true
 m1:1≤m
 m9:m≤9
theorem Same.tup{H H':Hp}(s:Same H H'):zk3 H H':=fun b xs h=>s b _ h
theorem _root_.Ow.GAt.add2{H0 H:Hp}{g l t:Addr}{gs:List Grp}{u k:Int}(G:GAt H0 H g gs)(hf:H0 l=none)(hl:H l=none)(ht:upd H l (.lst [.int k]) t=none):
  GAt H0 (upd (upd (upd H l (.lst [.int k])) t (.tup [.int u,.ref l])) g (.lst ((gs.map fun x=>V.ref x.t)++[.ref t]))) g (gs++[⟨t,u,l,[k]⟩]):=by
 have ad:g≠l:=zaq G.at_ hl
 have s1:=zag hl (.lst [.int k])
 have s2:=s1.trans (zag ht (.tup [.int u,.ref l]))
 have af:t≠l:=fun z=>by rw[z,zac] at ht;cases ht
 have ae:g≠t:=zaq (s1 _ _ G.at_) ht
 refine⟨?_,G.new,fun x hx=>?_,fun x hx=>?_,?_⟩
 ·rw[zac,List.map_append]
  rfl
 ·rcases List.mem_append.mp hx with z|z
  ·rw[zam (zo7 (G.tup x z) G.at_ (by intro q;cases q))]
   exact s2 _ _ (G.tup x z)
  ·rw[List.mem_singleton.mp z]
   show L2.upd _ g _ t=_
   rw[zam (Ne.symm ae),zac]
 ·rcases List.mem_append.mp hx with z|z
  ·obtain⟨a,b,c⟩:=G.lst x z
   refine⟨?_,b,c⟩
   rw[zam (Ne.symm c)]
   exact s2 _ _ a
  ·rw[List.mem_singleton.mp z]
   refine⟨?_,hf,ad⟩
   show L2.upd _ g _ l=_
   rw[zam (Ne.symm ad),zam (Ne.symm af),zac]
   rfl
 ·rw[List.map_append]
  refine List.nodup_append.mpr ⟨G.nd,by simp,fun x hx y hy=>?_⟩
  obtain⟨z,hz,rfl⟩:=List.mem_map.mp hx
  have e:y=l:=by simpa using hy
  rw[e]
  exact zaq (G.lst z hz).1 hl
theorem _root_.Ow.GAt.pen{H0 H:Hp}{g pen:Addr}{gs:List Grp}{xs ys:List V}(G:GAt H0 H g gs)(h0:∃o,H0 pen=some o)(h:H pen=some (.lst xs)):GAt H0 (L2.upd H pen (.lst ys)) g gs:=by
 obtain⟨o,e0⟩:=h0
 refine⟨?_,G.new,fun x hx=>?_,fun x hx=>?_,G.nd⟩
 ·rw[zam (fun z=>by rw[←z,G.new] at e0;cases e0)]
  exact G.at_
 ·rw[zam (zo7 (G.tup x hx) h (by intro q;cases q))]
  exact G.tup x hx
 ·obtain⟨a,b,c⟩:=G.lst x hx
  refine⟨?_,b,c⟩
  rw[zam (fun z=>by rw[←z,b] at e0;cases e0)]
  exact a
end Wd
namespace Wd
def zhr(ts:List Tie)(i s:Nat):Bool:=match ts[i]? with
 |some t=>t.keep s
 |none=>true
def zjy(ts:List Tie)(i y n:Nat):Bool:=match ts[i]? with
 |some t=>t.sb y n
 |none=>false
def zbm(ts:List Tie)(il:List Nat)(y n:Nat):Option Nat:=il.find? fun i=>zjy ts i y n
def zbb(m y n:Nat):List Nat:=(List.range m).filter fun k=>!(y|||n).testBit k
theorem mem_open{m y n k:Nat}:k∈zbb m y n↔k<m∧y.testBit k=false∧n.testBit k=false:=by
 unfold zbb
 rw[List.mem_filter,List.mem_range,Bool.not_eq_true',Nat.testBit_or,Bool.or_eq_false_iff]
theorem zul(m y n k:Nat):zbb m (y|||2^k) n=(zbb m y n).filter fun j=>!decide (k=j):=by
 unfold zbb
 rw[List.filter_filter]
 refine List.filter_congr fun j _=>?_
 rw[Nat.testBit_or,zdx,Nat.testBit_or]
 cases y.testBit j<;>cases n.testBit j<;>cases decide (k=j)<;>rfl
theorem zqf(m y n k:Nat):zbb m y (n|||2^k)=(zbb m y n).filter fun j=>!decide (k=j):=by
 unfold zbb
 rw[List.filter_filter]
 refine List.filter_congr fun j _=>?_
 rw[Nat.testBit_or,zdx,Nat.testBit_or]
 cases y.testBit j<;>cases n.testBit j<;>cases decide (k=j)<;>rfl
theorem ziy{l:List Nat}{k:Nat}(h:k∈l):(l.filter fun j=>!decide (k=j)).length<l.length:=by
 refine Nat.lt_of_le_of_ne (List.length_filter_le _ _) fun e=>?_
 have:=List.length_filter_eq_length_iff.mp e k h
 simp at this
theorem zfg{m y n k:Nat}(h:k∈zbb m y n):(zbb m (y|||2^k) n).length<(zbb m y n).length:=by
 rw[zul];exact ziy h
theorem zfp{m y n k:Nat}(h:k∈zbb m y n):(zbb m y (n|||2^k)).length<(zbb m y n).length:=by
 rw[zqf];exact ziy h
theorem zn8(m y n:Nat):(zbb m y n).length≤m:=by
 refine Nat.le_trans (List.length_filter_le _ _) ?_
 rw[List.length_range]
 exact Nat.le_refl _
theorem ztz{m y k:Nat}(h:y<2^m)(hk:k<m):y|||2^k<2^m:=by
 refine Nat.lt_pow_two_of_testBit _ fun i hi=>?_
 rw[zdx,Nat.testBit_lt_two_pow (Nat.lt_of_lt_of_le h (Nat.pow_le_pow_right (by decide) hi)),Bool.false_or]
 exact decide_eq_false (by omega)
theorem zpt{m a b:Nat}(ha:a<2^m)(hb:b<2^m)(h:∀k,k<m→a.testBit k=b.testBit k):a=b:=by
 refine Nat.eq_of_testBit_eq fun k=>?_
 by_cases z:k<m
 ·exact h k z
 ·have:2^m≤2^k:=Nat.pow_le_pow_right (by decide) (by omega)
  rw[Nat.testBit_lt_two_pow (by omega),Nat.testBit_lt_two_pow (by omega)]
def zl9(ts:List Tie)(il:List Nat)(s:Nat):Bool:=il.all fun i=>zhr ts i s
structure Stand(m y n:Nat):Prop where
 dj:∀k,y.testBit k=true→n.testBit k=false
 ym:y<2^m
 nm:n<2^m
theorem Stand.one{m y n k:Nat}(S:Stand m y n)(h:k∈zbb m y n):Stand m (y|||2^k) n:=by
 obtain⟨km,ky,kn⟩:=mem_open.mp h
 exact⟨zws S.dj kn,ztz S.ym km,S.nm⟩
theorem Stand.other{m y n k:Nat}(S:Stand m y n)(h:k∈zbb m y n):Stand m y (n|||2^k):=by
 obtain⟨km,ky,kn⟩:=mem_open.mp h
 exact⟨zuo S.dj ky,S.ym,ztz S.nm km⟩
theorem zq8{m:Nat}{ts:List Tie}(ok:∀t∈ts,t.Ok m){i y n s:Nat}(dj:∀k,y.testBit k=true→n.testBit k=false)(h:zjy ts i y n=true)(hs:InS y n s):zhr ts i s=false:=by
 unfold zjy at h
 unfold zhr
 cases e:ts[i]? with
 |none=>rw[e] at h;cases h
 |some t=>
  rw[e] at h
  exact(zsm (ok t (List.mem_of_getElem? e)) dj).mp h s hs
theorem zrq{m:Nat}{ts:List Tie}(ok:∀t∈ts,t.Ok m){i y n:Nat}(dj:∀k,y.testBit k=true→n.testBit k=false)(full:zbb m y n=[])(h:zjy ts i y n=false):zhr ts i y=true:=by
 have hf:∀k,k<m→(y|||n).testBit k=true:=fun k hk=>by
  cases e:(y|||n).testBit k with
  |true=>rfl
  |false=>
   rw[Nat.testBit_or,Bool.or_eq_false_iff] at e
   have:=mem_open.mpr ⟨hk,e.1,e.2⟩
   rw[full] at this
   cases this
 unfold zjy at h
 unfold zhr
 cases e:ts[i]? with
 |none=>rfl
 |some t=>
  rw[e] at h
  have h':t.sb y n=false:=h
  rw[zvc (ok t (List.mem_of_getElem? e)) dj hf] at h'
  show t.keep y=true
  simpa using h'
theorem zp9{m y n s:Nat}(S:Stand m y n)(full:zbb m y n=[])(hs:InS y n s)(sm:s<2^m):s=y:=by
 refine zpt sm S.ym fun k hk=>?_
 refine znw (m:=m) (fun j hj=>?_) hs S.dj k hk
 cases e:(y|||n).testBit j with
 |true=>rfl
 |false=>
  rw[Nat.testBit_or,Bool.or_eq_false_iff] at e
  have:=mem_open.mpr ⟨hj,e.1,e.2⟩
  rw[full] at this
  cases this
theorem zmq{ts:List Tie}{il:List Nat}{y n i:Nat}(h:zbm ts il y n=some i):i∈il∧zjy ts i y n=true:=
 ⟨List.mem_of_find?_eq_some h,List.find?_some (p:=fun i=>zjy ts i y n) h⟩
theorem zmg{ts:List Tie}{il:List Nat}{y n:Nat}(h:zbm ts il y n=none):∀i∈il,zjy ts i y n=false:=fun i hi=>by
 have:=List.find?_eq_none.mp h i hi
 simpa using this
inductive CT where
 |broken (t:Nat)
 |ware
 |split (k:Nat) (one other:CT)
def zbr(ts:List Tie)(il:List Nat)(m:Nat):Nat→Nat→Nat→CT
 |f,y,n=>match zbm ts il y n with
  |some t=>.broken t
  |none=>match zbb m y n,f with
   |[],_=>.ware
   |_::_,0=>.ware
   |k::_,f+1=>.split k (zbr ts il m f (y|||2^k) n) (zbr ts il m f y (n|||2^k))
theorem zie{ts:List Tie}{il r:List Nat}{m f y n k:Nat}(hb:zbm ts il y n=none)(ho:zbb m y n=k::r):zbr ts il m (f+1) y n=.split k (zbr ts il m f (y|||2^k) n) (zbr ts il m f y (n|||2^k)):=by
 conv=>lhs;unfold zbr
 simp only[hb,ho]
theorem zix{ts:List Tie}{il:List Nat}{m f y n:Nat}(hb:zbm ts il y n=none)(ho:zbb m y n=[]):zbr ts il m f y n=.ware:=by
 unfold zbr
 simp[hb,ho]
theorem zha{ts:List Tie}{il:List Nat}{m f y n i:Nat}(hb:zbm ts il y n=some i):zbr ts il m f y n=.broken i:=by
 unfold zbr
 simp[hb]
def CT.leaves:CT→Nat→List Nat
 |.broken _,_=>[]
 |.ware,y=>[y]
 |.split k a b,y=>a.leaves (y|||2^k)++b.leaves y
def CT.depth:CT→Nat
 |.broken _=>0
 |.ware=>0
 |.split _ a b=>max a.depth b.depth+1
def CT.small:CT→Prop
 |.broken _=>True
 |.ware=>True
 |.split k a b=>k≤1000∧a.small∧b.small
theorem zfc{ts:List Tie}{il:List Nat}{m:Nat}(hm:m≤1000):∀(f y n:Nat),(zbr ts il m f y n).small
 |f,y,n=>by
  unfold zbr
  cases zbm ts il y n with
  |some t=>trivial
  |none=>
   dsimp only
   cases hl:zbb m y n with
   |nil=>trivial
   |cons k r=>
    cases f with
    |zero=>trivial
    |succ f=>
     have hk:k∈zbb m y n:=by rw[hl];exact List.mem_cons_self
     have:=(mem_open.mp hk).1
     exact⟨by omega,zfc hm f (y|||2^k) n,zfc hm f y (n|||2^k)⟩
theorem zfl:∀(t:CT)(y:Nat),(t.leaves y).length≤2^t.depth
 |.broken _,_=>Nat.zero_le _
 |.ware,_=>Nat.le_refl _
 |.split k a b,y=>by
  rw[CT.leaves,List.length_append,CT.depth,Nat.pow_succ]
  have h1:=zfl a (y|||2^k)
  have h2:=zfl b y
  have h3:2^a.depth≤2^(max a.depth b.depth):=Nat.pow_le_pow_right (by decide) (Nat.le_max_left _ _)
  have h4:2^b.depth≤2^(max a.depth b.depth):=Nat.pow_le_pow_right (by decide) (Nat.le_max_right _ _)
  omega
theorem zfh{ts:List Tie}{il:List Nat}{m:Nat}:∀(f y n:Nat),(zbr ts il m f y n).depth≤f
 |f,y,n=>by
  unfold zbr
  cases zbm ts il y n with
  |some t=>exact Nat.zero_le _
  |none=>
   dsimp only
   cases zbb m y n with
   |nil=>exact Nat.zero_le _
   |cons k r=>
    cases f with
    |zero=>exact Nat.zero_le _
    |succ f=>
     show max _ _+1≤f+1
     have h1:=zfh (ts:=ts) (il:=il) (m:=m) f (y|||2^k) n
     have h2:=zfh (ts:=ts) (il:=il) (m:=m) f y (n|||2^k)
     omega
theorem zd3{m:Nat}{ts:List Tie}{il:List Nat}(ok:∀t∈ts,t.Ok m):∀(f y n:Nat),(zbb m y n).length≤f→Stand m y n→∀s,s∈(zbr ts il m f y n).leaves y↔(s<2^m∧InS y n s∧zl9 ts il s=true)
 |f,y,n,hf,S,s=>by
  unfold zbr
  cases hb:zbm ts il y n with
  |some i=>
   obtain⟨hi,hsb⟩:=zmq hb
   constructor
   ·intro h;cases h
   ·rintro⟨sm,hs,hk⟩
    have:=(List.all_eq_true.mp hk) i hi
    rw[zq8 ok S.dj hsb hs] at this
    cases this
  |none=>
   have hn:=zmg hb
   dsimp only
   cases hl:zbb m y n with
   |nil=>
    show s∈[y]↔_
    rw[List.mem_singleton]
    constructor
    ·rintro rfl
     exact⟨S.ym,zkt S.dj,List.all_eq_true.mpr fun i hi=>zrq ok S.dj hl (hn i hi)⟩
    ·rintro⟨sm,hs,_⟩
     exact zp9 S hl hs sm
   |cons k r=>
    have hk:k∈zbb m y n:=by rw[hl];exact List.mem_cons_self
    cases f with
    |zero=>rw[hl] at hf;simp at hf
    |succ f=>
     have l1:=zfg hk
     have l2:=zfp hk
     show s∈(zbr ts il m f (y|||2^k) n).leaves (y|||2^k)++(zbr ts il m f y (n|||2^k)).leaves y↔_
     rw[List.mem_append,zd3 ok f (y|||2^k) n (by omega) (S.one hk),zd3 ok f y (n|||2^k) (by omega) (S.other hk)]
     constructor
     ·rintro(⟨a,b,c⟩|⟨a,b,c⟩)
      ·exact⟨a,inS_split.mpr (.inl b),c⟩
      ·exact⟨a,inS_split.mpr (.inr b),c⟩
     ·rintro⟨a,b,c⟩
      rcases(inS_split (k:=k)).mp b with b|b
      ·exact .inl ⟨a,b,c⟩
      ·exact .inr ⟨a,b,c⟩
end Wd
namespace L2
open PySem PySem.Spec PyProof.Rows
section
variable {X : Cx}
theorem zun{prog:Program}{w:World}{A:Around}{E:Value→Shared→Prop}{s:Shared}{t b:Addr}{ws:List Value}{Q:Value→Shared→Prop}(ht:IsTup s.heap t ([]:List Value).toArray)(hb:IsTup s.heap b ws.toArray)(h:Q (.ref b) s):
  wpAny (model prog w) A (binaryOp .Add (.ref t) (.ref b)) Q E s:=by
 obtain⟨⟨cls,dd,data,sl⟩,ho,hc,n,hd⟩:=id ht
 obtain⟨⟨ai,aj,ae,ah⟩,af,ag,n2,ad⟩:=id hb
 simp only at hc hd ag ad
 subst hc hd ag ad
 exact concat_meets ⟨_,ho,rfl⟩ ⟨_,af,rfl⟩ noFill_tuple_add seq_tuple_add PySem.F.slot_tuple_add PySem.F.entry_tuple_add (PySem.F.args_tuple_add_2 _ _)
  (tuple_addW0 t b ([]:List Value).toArray ws.toArray n n2 dd aj sl ah (by simp)) ⟨ho,af,h⟩
theorem zod:OpR X (binaryOp .Add) (fun x y H Q=>∃a b xs ys,x=.ref a∧y=.ref b∧H a=some (.tup xs)∧H b=some (.tup ys)∧xs.length+ys.length≤sizeLine∧∀c H',Same H H'→H' c=some (.tup (xs++ys))→Q (.ref c) H'):=by
 intro pins s σ H x y v u Q I rx ry h
 obtain⟨a,b,xs,ys,rfl,rfl,ha,hb,hz,q⟩:=h
 by_cases hx:xs=[]
 ·subst hx
  cases rx
  cases ry
  obtain⟨ae,r1,p1,_⟩:=I.tuple (.inl (.inl ha))
  obtain⟨ad,r2,p2,_⟩:=I.tuple (.inl (.inl hb))
  cases r1
  exact zun p1 p2 ⟨.ref b,H,I,rfl,q b H (Same.refl H) hb⟩
 ·refine zu3 pins s σ H _ _ v u Q I rx ry ⟨a,b,xs,ys,rfl,rfl,.inl (.inl ha),.inl (.inl hb),hx,hz,fun e=>?_,fun _ p hp=>?_⟩
  ·refine q a H (Same.refl H) ?_
   rw[e,List.append_nil]
   exact ha
  ·exact q p _ (zhz fun b o e=>by rw[zam (zaq e hp)];exact e) zac
end
end L2
namespace Wd
open PySem L2 Ow
def CT.toD:CT→PyData
 |.broken t=>.tuple [.str ("broken" : Str),.int (t:Int)]
 |.ware=>.tuple [.str ("ware" : Str)]
 |.split k a b=>.tuple [.str ("split" : Str),.int (k:Int),a.toD,b.toD]
theorem zr3{H:Hp}{t:Nat}{v:V}(h:Dn H (CT.broken t).toD v):∃p,v=.ref p∧H p=some (.tup [.str ("broken" : Str),.int (t:Int)]):=by
 obtain⟨p,xs,rfl,hp,xu,r1,rfl,hu,xl,r2,rfl,ae,ad⟩:=zbw h
 cases(show r2=[] from ad)
 cases(show xu=.str ("broken" : Str) from hu)
 cases zcc ae
 exact⟨p,rfl,hp⟩
theorem zv9{H:Hp}{v:V}(h:Dn H CT.ware.toD v):∃p,v=.ref p∧H p=some (.tup [.str ("ware" : Str)]):=by
 obtain⟨p,xs,rfl,hp,xu,r1,rfl,hu,ad⟩:=zbw h
 cases(show r1=[] from ad)
 cases(show xu=.str ("ware" : Str) from hu)
 exact⟨p,rfl,hp⟩
theorem zud{H:Hp}{k:Nat}{a b:CT}{v:V}(h:Dn H (CT.split k a b).toD v):∃p va vb,v=.ref p∧H p=some (.tup [.str ("split" : Str),.int (k:Int),va,vb])∧Dn H a.toD va∧Dn H b.toD vb:=by
 obtain⟨p,xs,rfl,hp,xu,r1,rfl,hu,xl,r2,rfl,ae,va,r3,rfl,ha,vb,r4,rfl,hb,ad⟩:=zbw h
 cases(show r4=[] from ad)
 cases(show xu=.str ("split" : Str) from hu)
 cases zcc ae
 exact⟨p,va,vb,rfl,hp,ha,hb⟩
theorem zn3:¬V.str ("broken" : Str)=V.str ("ware" : Str):=zlq (by decide +kernel)
theorem zmh:¬V.str ("broken" : Str)=V.str ("split" : Str):=zlq (by decide +kernel)
theorem zps:¬V.str ("split" : Str)=V.str ("ware" : Str):=zlq (by decide +kernel)
abbrev zaj(l:List Nat):List V:=l.map fun k:Nat=>V.int (k:Int)
def zv4:Sp:=fun vs H Q _=>∃n k:Nat,vs=[.int n,.int k]∧k≤1000∧Q (.int ((n|||2^k:Nat):Int)) H
def zxm:Sp:=fun vs H Q _=>∃m y n:Nat,vs=[.int m,.int y,.int n]∧m≤900∧∀(l:Addr)(H':Hp),Same H H'→H l=none→H' l=some (.lst (zaj (zbb m y n)))→Q (.ref l) H'
def zrl:Sp:=fun vs H Q _=>∃(wd:Addr)(m:Nat)(ts:List Tie)(tl:Addr)(il:List Nat)(y n:Nat),vs=[.ref wd,.ref tl,.int y,.int n]∧WoodT H wd m ts∧H tl=some (.lst (zaj il))∧(∀i∈il,i<ts.length)∧∀H',Same H H'→Q (zo4 (zbm ts il y n)) H'
def ztv(f:Nat):Sp:=fun vs H Q _=>∃(wd:Addr)(m:Nat)(ts:List Tie)(tl:Addr)(il:List Nat)(y n:Nat),vs=[.ref wd,.ref tl,.int y,.int n]∧WoodT H wd m ts∧H tl=some (.lst (zaj il))∧(∀i∈il,i<ts.length)∧(zbb m y n).length≤f∧∀(v:V)(H':Hp),Same H H'→Dn H' (zbr ts il m f y n).toD v→Q v H'
def znx(ts:List Tie):List Nat:=List.range ts.length
theorem zne(ts:List Tie)(s:Nat):zl9 ts (znx ts) s=ts.all fun t=>t.keep s:=by
 unfold zl9 znx
 rw[Bool.eq_iff_iff,List.all_eq_true,List.all_eq_true]
 constructor
 ·intro h t ht
  obtain⟨i,hi,rfl⟩:=List.getElem_of_mem ht
  have:=h i (List.mem_range.mpr hi)
  unfold zhr at this
  rw[List.getElem?_eq_getElem hi] at this
  exact this
 ·intro h i hi
  unfold zhr
  rw[List.getElem?_eq_getElem (List.mem_range.mp hi)]
  exact h _ (List.getElem_mem _)
def zv1:Sp:=fun vs H Q _=>∃(wd:Addr)(m:Nat)(ts:List Tie)(y n:Nat),vs=[.ref wd,.int y,.int n]∧WoodT H wd m ts∧m≤9∧∀(v:V)(H':Hp),Same H H'→Dn H' (zbr ts (znx ts) m 9 y n).toD v→Q v H'
def zj0(f:Nat):Sp:=fun vs H Q _=>∃(y:Nat)(t:CT)(v:V),vs=[.int y,v]∧Dn H t.toD v∧t.depth≤f∧f≤9∧CT.small t∧∀(l:Addr)(H':Hp),Same H H'→H l=none→H' l=some (.lst (zaj (t.leaves y)))→Q (.ref l) H'
end Wd
namespace L2
open PySem PySem.Spec PyProof.Rows
theorem zwz{K:PySem.W.Frag}{a:Addr}{xs:List V}{σ0:St}{H:Hp}{g:TG}{tc:TT}{te:TE}{Q:VK}(hq:H a=some (.tup xs)∨H a=some (.lst xs))(Pv:Nat→List V→St→Hp→Prop)(h0:Pv 0 [] σ0 H)(hz:∀i ys σ H,i≤xs.length→Pv i ys σ H→ys.length≤sizeLine)
  (hl:∀i ys σ H2,i≤xs.length→Pv i ys σ H2→H2 a=H a)
  (hs:∀i x ys σ H,xs[i]?=some x→Pv i ys σ H→g x σ H fun σ3 H3=>tc σ3 H3 fun b H4=>if b=true then te σ3 H4 fun v H5=>Pv (i+1) (ys++[v]) σ3 H5 else Pv (i+1) ys σ3 H4)
  (hd:∀ys σ H,Pv xs.length ys σ H→∀p,H p=none→Q (.ref p) (upd H p (.lst ys))):
  ((∃xs,SqL K H a xs)∧znm (Itl K a) g tc te σ0 H Q)∨((∃xs,SqT K H a xs)∧znm (Itt K a) g tc te σ0 H Q):=by
 rcases hq with h|h
 ·exact .inr ⟨⟨_,Wd.sqT h⟩,zey Pv h0 hz (fun i ys σ H2 hi pv=>Wd.sqT ((hl i ys σ H2 hi pv).trans h)) hs hd⟩
 ·exact .inl ⟨⟨_,SqL.of h⟩,zdl Pv h0 hz (fun i ys σ H2 hi pv=>SqL.of ((hl i ys σ H2 hi pv).trans h)) hs hd⟩
end L2
namespace Wd
open PySem L2 Ow
def zsr(f:List (Nat×Int)→Nat→Nat→Int):Sp:=fun vs H Q _=>∃(q:Addr)(xs:List V)(ps:List (Nat×Int))(y n:Nat),vs=[.ref q,.int y,.int n]∧(H q=some (.tup xs)∨H q=some (.lst xs))∧DnL H (ps.map zfv) xs∧ps.length≤1000∧∀H',Same H H'→Q (.int (f ps y n)) H'
theorem zr1{f:List (Nat×Int)→Nat→Nat→Int}{vs:List V}{H:Hp}{Q:VK}{E:XK}(h:zwk f vs H Q E):zsr f vs H Q E:=by
 obtain⟨q,xs,ps,y,n,e,hq,r⟩:=h
 exact⟨q,xs,ps,y,n,e,.inl hq,r⟩
theorem zxz{K:PySem.W.Frag}{H:Hp}{pen a:Addr}{xs:List V}{o:HO}(h:SqL K H a xs)(hp:H pen=none):∀H',SameX pen (L2.upd H pen o) H'→SqL K H' a xs:=fun H' s=>by
 have keep:∀u,H a=some u→KpX pen (L2.upd H pen o) H' a u:=fun u e=>s a u (zaq e hp) (by rw[zam (zaq e hp)];exact e)
 rcases h with(h|⟨u,h⟩)|h
 ·exact .inl (.inl (keep _ h))
 ·exact .inl (.inr ⟨u,keep _ h⟩)
 ·exact .inr h
theorem zv0{K:PySem.W.Frag}{H:Hp}{pen sp:Addr}{ns:List Int}(h:SqL K H sp (ns.map V.int))(hl:ns.length≤63)(hp:H pen=none):Pen K (L2.upd H pen (.lst [.ref sp,.int 0])) pen sp ns 0:=⟨zac,hl,zxz h hp⟩
end Wd
namespace L2
open PySem PySem.Spec PyProof.Rows
theorem zcj:∀(names:List (Str×NameKind))(n:Nat)(acc:List (Str×Addr)),cellsFrom n names acc=cellsFrom n names []++acc
 |[],_,_=>rfl
 |(x,k)::r,n,acc=>by
  unfold cellsFrom
  split
  ·rw[zcj r (n+1) ((x,n)::acc),zcj r (n+1) [(x,n)],List.append_assoc]
   rfl
  ·exact zcj r n acc
theorem zig{x:Str}{c:Addr}:∀{names:List (Str×NameKind)} {n:Nat},(x,c)∈cellsFrom n names []→(x,NameKind.cell)∈names
 |[],_,h=>nomatch h
 |(y,k)::r,n,h=>by
  unfold cellsFrom at h
  split at h
  ·rename_i hk
   rw[zcj] at h
   rcases List.mem_append.mp h with z|z
   ·exact List.mem_cons_of_mem _ (zig z)
   ·have e:=List.mem_singleton.mp z
    cases e
    have hk':k=.cell:=by simpa using hk
    rw[hk']
    exact List.mem_cons_self
  ·exact List.mem_cons_of_mem _ (zig h)
theorem ziu{x:Str}:∀{names:List (Str×NameKind)} {n:Nat},(x,NameKind.cell)∈names→∃c,(x,c)∈cellsFrom n names []
 |[],_,h=>nomatch h
 |(y,k)::r,n,h=>by
  unfold cellsFrom
  rcases List.mem_cons.mp h with e|h
  ·cases e
   rw[if_pos (by decide),zcj]
   exact⟨n,List.mem_append_right _ (List.mem_singleton.mpr rfl)⟩
  ·split
   ·obtain⟨c,hc⟩:=ziu (n:=n+1) h
    rw[zcj]
    exact⟨c,List.mem_append_left _ hc⟩
   ·exact ziu h
theorem zcr{x:Str}{c:Addr}:∀{names:List (Str×NameKind)} {n:Nat},(x,c)∈cellsFrom n names []→n≤c
 |[],_,h=>nomatch h
 |(y,k)::r,n,h=>by
  unfold cellsFrom at h
  split at h
  ·rw[zcj] at h
   rcases List.mem_append.mp h with z|z
   ·exact Nat.le_of_succ_le (zcr z)
   ·have e:=List.mem_singleton.mp z
    cases e
    exact Nat.le_refl _
  ·exact zcr h
theorem zil{x y:Str}{c:Addr}:∀{names:List (Str×NameKind)} {n:Nat},(x,c)∈cellsFrom n names []→(y,c)∈cellsFrom n names []→x=y
 |[],_,h,_=>nomatch h
 |(z,k)::r,n,h1,h2=>by
  unfold cellsFrom at h1 h2
  split at h1
  ·rename_i hk
   rw[if_pos hk] at h2
   rw[zcj] at h1 h2
   rcases List.mem_append.mp h1 with a|a
   ·rcases List.mem_append.mp h2 with b|b
    ·exact zil a b
    ·have e:=List.mem_singleton.mp b
     cases e
     exact absurd (zcr a) (Nat.not_succ_le_self _)
   ·have e:=List.mem_singleton.mp a
    cases e
    rcases List.mem_append.mp h2 with b|b
    ·exact absurd (zcr b) (Nat.not_succ_le_self _)
    ·have e:=List.mem_singleton.mp b
     cases e
     rfl
  ·rename_i hk
   rw[if_neg hk] at h2
   exact zil h1 h2
def lcS:Expr→Scope
 |.ListComp _ _ sc _=>sc
 |_=>{ kind:=.function,names:=[],isGenerator:=false,isCoroutine:=false }
def zx8:Option Stmt→Expr
 |some (Stmt.Return (some e) _)=>e
 |_=>.Constant .none 0 ⟨0,0,0,0⟩
theorem zkz{x:Str}{l r:List (Str×Addr)}:(l++r).lookup x=(l.lookup x).or (r.lookup x):=by
 induction l with
 |nil=>simp
 |cons p t ih=>
  obtain⟨y,c⟩:=p
  rw[List.cons_append,List.lookup_cons,List.lookup_cons]
  cases x==y with
  |true=>rfl
  |false=>exact ih
def zid(sc:Scope)(C:Addr)(env:Env):List (Str×Addr):=cellsFrom (C+1) sc.names []++ze0 sc env
theorem zd4{sc:Scope}{C c:Addr}{env:Env}{x:Str}(h:(zid sc C env).lookup x=some c):(x,c)∈cellsFrom (C+1) sc.names []∨(ze0 sc env).lookup x=some c:=by
 unfold zid at h
 rw[zkz] at h
 cases e:(cellsFrom (C+1) sc.names []).lookup x with
 |some c'=>
  rw[e] at h
  cases h
  exact .inl (PySem.mem_of_lookup e)
 |none=>
  rw[e] at h
  exact .inr h
theorem zqo{sc:Scope}{C:Addr}{env:Env}{x:Str}(h:(x,NameKind.cell)∈sc.names):∃c,(zid sc C env).lookup x=some c∧(x,c)∈cellsFrom (C+1) sc.names []:=by
 obtain⟨c,hc⟩:=ziu (n:=C+1) h
 obtain⟨c',e⟩:=zeu hc
 refine⟨c',?_,PySem.mem_of_lookup e⟩
 unfold zid
 rw[zkz,e]
 rfl
theorem zoy{sc:Scope}{C c:Addr}{env:Env}{x:Str}(hn:¬(x,NameKind.cell)∈sc.names)(h:(ze0 sc env).lookup x=some c):(zid sc C env).lookup x=some c:=by
 unfold zid
 rw[zkz]
 cases e:(cellsFrom (C+1) sc.names []).lookup x with
 |some c'=>exact absurd (zig (PySem.mem_of_lookup e)) hn
 |none=>exact h
def ze3(X:Cx)(N':List Str)(sc:Scope)(C:Addr)(fp:List Addr)(pins:List (Addr×Obj))(s:Shared)(H:Hp):Cx:=
 { X with N:=N',s₀:=s,H₀:=H,env:=compEnvC sc (zid sc C X.env) C X.env,outer:=X.stack,stack:=X.stack,ex:=fp,fn:=fun x=>sc.names.lookup x==some .cell,pn:=X.pn++pins,xe:=NoX }
def zlp(sc0 sc:Scope)(XN N':List Str)(n:Nat)(kp:List Nat):Bool:=
 decide (sc.kind=.function)&&sc.names.all (fun y=>decide (y.2=.local→sc.names.lookup y.1=some .local)) &&
 sc.names.all (fun y=>decide (y.2=.free→sc0.names.lookup y.1=some .cell))&&decide ((sc.names.map (·.1)).Nodup)&&decide (N'.length=n+kp.length) &&
 (List.range kp.length).all (fun i=>match N'[n+i]?,kp[i]? with
  |some x,some j=>decide (XN[j]?=some x∧(x,NameKind.free)∈sc.names∧((zgd sc sc0).names.lookup x=some .cell∨(zgd sc sc0).names.lookup x=some .free))
  |_,_=>false)
theorem zi1{sc0 sc:Scope}{XN N':List Str}{n:Nat}{kp:List Nat}(h:zlp sc0 sc XN N' n kp=true):
  sc.kind=.function∧(∀y∈sc.names,y.2=.local→sc.names.lookup y.1=some .local)∧(∀y∈sc.names,y.2=.free→sc0.names.lookup y.1=some .cell)∧(sc.names.map (·.1)).Nodup∧N'.length=n+kp.length ∧
  ∀(i:Nat)(x:Str),N'[n+i]?=some x→∃j,kp[i]?=some j∧XN[j]?=some x∧(x,NameKind.free)∈sc.names∧((zgd sc sc0).names.lookup x=some .cell∨(zgd sc sc0).names.lookup x=some .free):=by
 unfold zlp at h
 simp only[Bool.and_eq_true,List.all_eq_true,decide_eq_true_eq] at h
 obtain⟨⟨⟨⟨⟨h1,h3⟩,h4⟩,h2⟩,h5⟩,h6⟩:=h
 refine⟨h1,h3,h4,h2,h5,fun i x hx=>?_⟩
 have hi:i<kp.length:=by
  have:=(List.getElem?_eq_some_iff.mp hx).1
  omega
 have q:=h6 i (List.mem_range.mpr hi)
 rw[hx,List.getElem?_eq_getElem hi] at q
 exact⟨kp[i],List.getElem?_eq_getElem hi,of_decide_eq_true q⟩
theorem zll{names:List (Str×NameKind)}(nd:(names.map (·.1)).Nodup){x:Str}{k k':NameKind}(h:(x,k)∈names)(h':(x,k')∈names):k=k':=by
 induction names with
 |nil=>cases h
 |cons p r ih=>
  rw[List.map_cons,List.nodup_cons] at nd
  rcases List.mem_cons.mp h with e|h
  ·rcases List.mem_cons.mp h' with e'|h'
   ·rw[←e] at e'
    cases e'
    rfl
   ·exact absurd (List.mem_map.mpr ⟨(x,k'),h',by rw[←e]⟩) nd.1
  ·rcases List.mem_cons.mp h' with e'|h'
   ·exact absurd (List.mem_map.mpr ⟨(x,k),h,by rw[←e']⟩) nd.1
   ·exact ih nd.2 h h'
theorem zn6{M:Model}{A:Around}{E:Value→Shared→Prop}{s:Shared}{scope:Scope}{globals:Addr}{cl:List (Str×Addr)}{qual:Str}{env:Env}{Q:Env→Shared→Prop}
  (h:Q { scope:=scope,locals:=s.heap.objs.size,globals:=globals,cells:=cellsFrom (s.heap.objs.size+1) scope.names cl,qual:=qual,func:=none,code:=env.code,frame:=env.frame,builtins:=env.builtins } { s with heap:=pushCells (s.heap.push { cls:=.type "dict",data:=.dict #[] }) scope.names }):
  wpAny M A (newFunctionEnv scope globals cl [] qual none .none (some env)) Q E s:=by
 simp only[newFunctionEnv,Option.isSome_some,if_true]
 refine wpAny_bind (wpAny_alloc ?_)
 refine wpAny_bind (wpAny_layCells _ (fun name kind cells=>by cases ad:kind==NameKind.cell<;>simp[ad]) _ _ _ _ ?_)
 rw[show({ s with heap:=s.heap.push { cls:=.type "dict",data:=.dict #[] } }:Shared).heap.objs.size=s.heap.objs.size+1 from Heap.size_push ..]
 refine wpAny_bind ?_
 rw[List.forIn_nil]
 exact wpAny_pure (wpAny_pure h)
section
variable {X : Cx} {tg iter elt : Expr} {cs : List Expr} {sc sc0 : Scope} {pos : Pos} {wi : TI} {g : TG} {tc : TT} {te : TE} {XN N' : List Str} {n : Nat} {kp : List Nat}
theorem zvn{pins:List (Addr×Obj)}{σ:St}{H:Hp}{s:Shared}{fp:List Addr}{C:Addr}(I:Inv X pins σ H s)(hk:sc.kind=.function)(nd:(sc.names.map (·.1)).Nodup)
  (hfr:∀y∈sc.names,y.2=.free→∃c,X.env.cells.lookup y.1=some c) (hf:∀b∈fp,zg1 X pins H b) (hl:∀b∈fp,b<s.heap.objs.size) (hC:s.heap.objs.size≤C):(ze3 X N' sc C fp pins s H).Ok where
 mod:=I.ok.mod
 kind:=hk
 glob:=I.ok.glob
 blt:=I.ok.blt
 above:=hC
 inj:=fun x y c h1 h2=>by
  have old:∀{z:Str},(ze0 sc X.env).lookup z=some c→c<s.heap.objs.size:=fun {z} e=>by
   obtain⟨v,hv⟩:=I.cell z c (zbj hfr e)
   exact hv.lt
  rcases zd4 h1 with a|a
  ·rcases zd4 h2 with b|b
   ·exact zil a b
   ·exact absurd (Nat.lt_of_lt_of_le (old b) (Nat.le_trans hC (Nat.le_of_succ_le (zcr a)))) (Nat.lt_irrefl _)
  ·rcases zd4 h2 with b|b
   ·exact absurd (Nat.lt_of_lt_of_le (old a) (Nat.le_trans hC (Nat.le_of_succ_le (zcr b)))) (Nat.lt_irrefl _)
   ·exact I.ok.inj x y c (zbj hfr a) (zbj hfr b)
 has:=fun x hx=>by
  have hx':(zgd sc X.env.scope).names.lookup x=some .cell∨(zgd sc X.env.scope).names.lookup x=some .free:=hx
  have go:∀k,(zgd sc X.env.scope).names.lookup x=some k→(k=.cell∨k=.free)→(x,NameKind.free)∈sc.names∨(x,NameKind.cell)∈sc.names:=fun k e hk'=>by
   have hm:=PySem.mem_of_lookup e
   obtain⟨⟨y,ky⟩,hy,ey⟩:=List.mem_map.mp hm
   dsimp only at ey
   split at ey
   ·rename_i hc
    cases ey
    have z:ky=.free:=by
     simp only[Bool.and_eq_true] at hc
     simpa using hc.1.1
    subst z
    exact .inl hy
   ·cases ey
    rcases hk' with z|z
    ·subst z
     exact .inr hy
    ·subst z
     exact .inl hy
  have q:(x,NameKind.free)∈sc.names∨(x,NameKind.cell)∈sc.names:=by
   rcases hx' with e|e
   ·exact go _ e (.inl rfl)
   ·exact go _ e (.inr rfl)
  rcases q with hm|hm
  ·obtain⟨c,hc⟩:=hfr _ hm rfl
   exact⟨c,zoy (fun z=>by have:=zll nd hm z;cases this) (zg0 hfr hm hc)⟩
  ·obtain⟨c,hc,_⟩:=zqo (C:=C) (env:=X.env) hm
   exact⟨c,hc⟩
 cab:=fun x c h e=>by
  have h':(sc.names.lookup x==some NameKind.cell)=true:=h
  have hm:=PySem.mem_of_lookup (eq_of_beq h')
  obtain⟨c',e',m'⟩:=zqo (C:=C) (env:=X.env) hm
  have e2:(zid sc C X.env).lookup x=some c:=e
  rw[e'] at e2
  cases e2
  have:=zcr m'
  show s.heap.objs.size≤c
  omega
 hd:=I.ok.hd
 frames:=I.ok.frames
 stk:=.inl rfl
 exf:=fun b hb=>⟨Nat.ne_of_lt (Nat.lt_of_lt_of_le (hl b hb) hC),fun x c e=>by
  rcases zd4 e with z|z
  ·exact fun w=>absurd (Nat.lt_of_lt_of_le (hl b hb) (Nat.le_trans hC (Nat.le_of_succ_le (zcr z)))) (by rw[w];exact Nat.lt_irrefl _)
  ·exact(hf b hb).2.2.2.2.1 x c (zbj hfr z)⟩
 bs:=I.bs
 bsz:=Nat.le_trans I.ok.bsz I.sz
 noex:=fun b o e hb=>by
  rcases(hf b hb).2.2.2.1 with z|z
  ·exact I.ok.noex b o e z
  ·exact absurd (Nat.lt_of_lt_of_le (Heap.lt_size e) (Nat.le_trans I.ok.bsz z)) (Nat.lt_irrefl _)
 exfs:=fun b hb z=>by
  rcases List.mem_cons.mp (I.stkSub b z) with q|q
  ·exact(hf b hb).2.1 q
  ·exact(hf b hb).2.2.1 q
 funs:=I.stack
 frf:=I.stkFree
theorem zp7{pins:List (Addr×Obj)}{σ:St}{H:Hp}{s:Shared}{fp:List Addr}{C:Addr}{h1:Heap}{tk:Nat}{m:Str→Option Value}(I:Inv X pins σ H s)(h0:X.env.scope=sc0)(hN:X.N=XN)(ok:zlp sc0 sc XN N' n kp=true)
  (hf:∀b∈fp,zg1 X pins H b) (hl:∀b∈fp,b<s.heap.objs.size) (hC:s.heap.objs.size≤C) (old:∀b o,s.heap.get? b=some o→h1.get? b=some o) (ns:h1.Ns C m) (own:∀x c,(x,c)∈cellsFrom (C+1) sc.names []→h1.IsCell c none):
  Inv (ze3 X N' sc C fp pins s H) [] (List.replicate n none++kp.map fun j=>(σ[j]?).join) H { s with heap:=h1,toks:=tk }:=by
 obtain⟨o1,o3,o4,o2,o5,o6⟩:=zi1 ok
 subst h0
 subst hN
 have ad:∀y∈sc.names,y.2=.free→∃c,X.env.cells.lookup y.1=some c:=fun y hy e=>I.ok.has y.1 (.inl (o4 y hy e))
 have ae:∀b,b<s.heap.objs.size→b≠C:=fun b hb=>Nat.ne_of_lt (Nat.lt_of_lt_of_le hb hC)
 refine⟨zvn I o1 o2 ad hf hl hC,rfl,I.bare,Un.kept old,⟨m,ns,fun i x v e1 e2 e3=>?_⟩,fun x c e=>?_,I.hok.fresh hC,fun x c e=>?_,fun p hp=>?_,I.hok.kept old,?_⟩
 ·have hi:n≤i:=by
   by_cases z:n≤i
   ·exact z
   ·rw[List.getElem?_append_left (by rw[List.length_replicate];omega),List.getElem?_replicate] at e2
    split at e2<;>cases e2
  obtain⟨j,rfl⟩:∃j,i=n+j:=⟨i-n,by omega⟩
  obtain⟨q,hq,hx,hm,ag⟩:=o6 j x e1
  rw[List.getElem?_append_right (by rw[List.length_replicate];omega),List.length_replicate,Nat.add_sub_cancel_left,List.getElem?_map,hq] at e2
  have e4:(σ[q]?).join=some v:=Option.some.inj e2
  have aj:σ[q]?=some (some v):=by
   cases z:σ[q]? with
   |none=>rw[z] at e4;cases e4
   |some w=>rw[z] at e4;cases e4;rfl
  obtain⟨c,hc⟩:=ad _ hm rfl
  have kx:X.env.kindOf x=some .cell:=o4 _ hm rfl
  obtain⟨m',ak,ah⟩:=I.loc
  obtain⟨u,r,lk⟩:=ah q x v hx aj (.inr (.inl kx))
  refine⟨u,r,.inr ⟨ag,c,zoy (fun z=>by have:=zll o2 hm z;cases this) (zg0 ad hm hc),?_⟩⟩
  rcases lk with⟨k,_⟩|⟨_,c',af,hv⟩
  ·rw[kx] at k
   cases k
  ·rw[hc] at af
   cases af
   exact hv.keeps old
 ·rcases zd4 e with z|z
  ·exact⟨none,own x c z⟩
  ·obtain⟨v,hv⟩:=I.cell x c (zbj ad z)
   exact⟨v,hv.keeps old⟩
 ·rcases zd4 e with z|z
  ·exact I.hok.fresh (Nat.le_trans hC (Nat.le_of_succ_le (zcr z)))
  ·exact I.freeC x c (zbj ad z)
 ·have ai:p∈X.pn++pins:=by
   have:p∈(X.pn++pins)++([]:List (Addr×Obj)):=hp
   rw[List.append_nil] at this
   exact this
  obtain⟨q1,q2,q3,q4,q5⟩:=I.pin p ai
  refine⟨old _ _ q1,q2,ae _ (Heap.lt_size q1),fun z=>?_,q5⟩
  rcases List.mem_cons.mp (I.stkSub _ z) with r|r
  ·exact q3 r
  ·exact q4 r
 ·show(List.replicate n none++kp.map fun j=>(σ[j]?).join).length=N'.length
  rw[List.length_append,List.length_replicate,List.length_map,o5]
theorem zqz{pins:List (Addr×Obj)}{s:Shared}{σ:St}{H:Hp}{Q:VK}{use:Option (Value→Sem Unit)}{Qf:Value→Shared→Prop}(hc:X.calm=true)(hi:PI X tg iter wi)(h0:X.env.scope=sc0)(hN:X.N=XN)(ok:zlp sc0 sc XN N' n kp=true)
  (hg:∀C fp pins s H,PG (ze3 X N' sc C fp pins s H) tg g) (ht:∀C fp pins s H,PTs (ze3 X N' sc C fp pins s H) cs tc) (he:∀C fp pins s H,PE (ze3 X N' sc C fp pins s H) elt te) (hs:∀x,foldedSetIterable iter X.env x=pure x)
  (I:Inv X pins σ H s) (h:tLc n kp wi g tc te σ H Q)
  (fin:∀D C ys H' s',Inv X pins σ (upd H' D (.lst ys)) s'→(∃m,s'.heap.Ns C m)→zg1 X pins (upd H' D (.lst ys)) C→Q (.ref D) (upd H' D (.lst ys))→compPost (model X.prog X.w) X.A X.xe use Qf (.ref D) C (.ok .next) s') {pos':Pos}:
  wpAny (model X.prog X.w) X.A (comprehension (.ListComp elt [⟨tg,iter,cs,0⟩] sc pos) sc X.env pos' (newList []) false (firstIter [⟨tg,iter,cs,0⟩] X.env) use) Qf X.xe s:=by
 obtain⟨o1,o3,o4,o2,o5,o6⟩:=zi1 ok
 have az:∀y∈sc.names,y.2=.free→∃c,X.env.cells.lookup y.1=some c:=fun y hy e=>I.ok.has y.1 (.inl (by rw[Env.kindOf,h0];exact o4 y hy e))
 refine wpAny_comprehension_free (use:=use) rfl hs (zmn az) o1 o3 (thn (hi pins s σ H _ I h) fun v s1 h1=>thn h1 fun aP s2 h2=>?_)
 obtain⟨it,fp,tn,J,H2,rfl,I2,T,am,f2,W,⟨m0,w0⟩,aw⟩:=h2
 have hl:∀b∈fp,b<s2.heap.objs.size:=fun b hb=>by
  obtain⟨o,e,_⟩:=T.obj 0 _ am b hb
  exact Heap.lt_size e
 refine wpAny_newObj_type (zn6 ?_)
 dsimp only
 generalize hG:s2.heap.push { cls:=.type "list",dict:=none,data:=.seq ([]:List Value).toArray }=G
 have aQ:G.objs.size=s2.heap.objs.size+1:=by rw[←hG,Heap.size_push]
 have ag:s2.heap.objs.size≤G.objs.size:=by omega
 have ar:s2.heap.objs.size≠G.objs.size:=by omega
 generalize aC:pushCells (G.push { cls:=.type "dict",data:=.dict #[] }) sc.names=h1
 have ad:∀b o,(G.push { cls:=.type "dict",data:=.dict #[] }).get? b=some o→h1.get? b=some o:=fun b o e=>by
  rw[←aC]
  exact pushCells_keeps _ _ b o e
 have aF:h1.Ns G.objs.size (fun _=>none):=(Heap.Ns.new G (.type "dict")).keeps ad
 have al:∀b o,s2.heap.get? b=some o→h1.get? b=some o:=fun b o e=>ad b o (Heap.get?_push_of_some _ (hG▸Heap.get?_push_of_some _ e))
 have aL:h1.get? s2.heap.objs.size=some { cls:=.type "list",data:=.seq ([]:List Value).toArray 0 }:=ad _ _ (Heap.get?_push_of_some _ (hG▸Heap.get?_push_size _ rfl))
 have aN:∀x c,(x,c)∈cellsFrom (G.objs.size+1) sc.names []→h1.IsCell c none:=fun x c hm=>by
  have aE:=cellsFrom_ok sc.names (G.push { cls:=.type "dict",data:=.dict #[] }) (G.objs.size+1) [] ⟨fun _ _ hm=>(nomatch hm),List.Pairwise.nil⟩ (by rw[Heap.size_push];exact Nat.le_refl _)
  rw[Heap.size_push,aC] at aE
  exact(aE.empty x c hm).1
 rw[zcj]
 have ak:H2 s2.heap.objs.size=none:=I2.hok.fresh (Nat.le_refl _)
 have aR:H2 G.objs.size=none:=I2.hok.fresh ag
 have aj:∀s3:Shared,s3={ s2 with heap:=h1,toks:=s2.toks } →
   codeAny (model X.prog X.w) X.A (.compLoop (.ListComp elt [⟨tg,iter,cs,0⟩] sc pos) 0 (.ref it) (.ref s2.heap.objs.size) (compEnvC sc (zid sc G.objs.size X.env) G.objs.size X.env))
    (compPost (model X.prog X.w) X.A X.xe use Qf (.ref s2.heap.objs.size) G.objs.size) s3:=by
  rintro s3 rfl
  have I3:=zp7 (fp:=fp) (C:=G.objs.size) (h1:=h1) (tk:=s2.toks) I2 h0 hN ok f2 hl ag al aF aN
  have af:∀{H':Hp} {o:Obj},(∀b∈fp,H' b=none)→∀b∈fp,zg1 (ze3 X N' sc G.objs.size fp pins s2 H2) [(s2.heap.objs.size,o)] H' b:=fun hn b hb=>by
   have lt:=hl b hb
   refine⟨hn b hb,Nat.ne_of_lt (Nat.lt_of_lt_of_le lt ag),I3.ok.exfs b hb,.inl hb,(I3.ok.exf b hb).2,fun p hp=>?_⟩
   rcases List.mem_append.mp hp with z|z
   ·exact(f2 b hb).2.2.2.2.2 p z
   ·have e:p.1=s2.heap.objs.size:=by rw[List.mem_singleton.mp z]
    rw[e]
    exact Nat.ne_of_gt lt
  have au:∀{σ':St} {H':Hp} {s':Shared} {o:Obj},Inv (ze3 X N' sc G.objs.size fp pins s2 H2) [] σ' H' s'→s'.heap.get? s2.heap.objs.size=some o→(∀v,o.data≠.cell v)→H' s2.heap.objs.size=none →
    Inv (ze3 X N' sc G.objs.size fp pins s2 H2) [(s2.heap.objs.size,o)] σ' H' s':=fun {σ' H' s' o} J' e hd hn=>J'.pins_of fun p hp=>by
   rw[List.mem_singleton.mp hp]
   exact⟨e,hn,ar,fun z=>by
    rcases List.mem_cons.mp (I2.stkSub _ z) with r|r
    ·exact absurd I2.lt (by rw[←r];exact Nat.lt_irrefl _)
    ·exact I2.nofs (Nat.le_refl _) r,hd⟩
  refine zq0 (fun k s'=>∃(i:Nat)(ys:List V)(ae:List Value)(c:Nat)(σ':St)(H':Hp),Inv (ze3 X N' sc G.objs.size fp pins s2 H2) [] σ' H' s'∧tn i s'.heap∧(∀b∈fp,H' b=none) ∧
   s'.heap.get? s2.heap.objs.size=some { cls:=.type "list",data:=.seq ae.toArray c }∧Vals ys ae∧H' s2.heap.objs.size=none∧W i k ys σ' H') ?_ m0 _
   ⟨0,[],[],0,_,H2,I3,T.keep _ _ _ am fun b _ o e=>al b o e,fun b hb=>(f2 b hb).1,aL,.nil,ak,w0⟩
  rintro k s' ⟨i,ys,ae,c,σ',H',I',aA,ay,aK,hv,nD,w'⟩
  obtain⟨hz,cases⟩:=aw i k ys σ' H' w'
  have aB:=au I' aK (fun v=>by intro z;cases z) nD
  rcases cases with⟨av,q⟩|⟨go,N,aD,step⟩
  ·refine thn (T.done (ze3 X N' sc G.objs.size fp pins s2 H2) rfl rfl rfl hc i _ s' σ' H' NoX aB (af ay) aA av) fun r s4 ⟨hr,I4⟩=>?_
   subst hr
   obtain⟨e4,n4,_⟩:=I4.pin (s2.heap.objs.size,{ cls:=.type "list",data:=.seq ae.toArray c }) (List.mem_append_right _ (List.mem_singleton.mpr rfl))
   have u4:Un (frs X.stack) fp H2 H' s2.heap s4.heap:=I4.base
   have aH:H' G.objs.size=none:=I4.free
   obtain⟨m4,aG,_⟩:=I4.loc
   have aM:∀b o,s2.heap.get? b=some o→b≠s2.heap.objs.size:=fun b o e=>Nat.ne_of_lt (Heap.lt_size e)
   have u5:Un (frs X.stack) fp H2 (upd H' s2.heap.objs.size (.lst ys)) s2.heap s4.heap:=
    ⟨u4.keep,u4.slot,fun b o e nb hx=>by rw[zam (aM b o e)];exact u4.free b o e nb hx,u4.there,fun b xs e=>by rw[zam (zaq e ak)];exact u4.tups b xs e,
     fun b o u e=>by rw[zam (zaq e ak)];exact u4.frzs b o u e,fun b ps e=>by rw[zam (zaq e ak)];exact u4.tbls b ps e⟩
   have ap:HOk X.prog X.w (upd H' s2.heap.objs.size (.lst ys)) s4.heap:=fun a o e=>by
    by_cases ea:a=s2.heap.objs.size
    ·subst ea
     rw[zac] at e
     cases e
     exact⟨hz,ae,c,hv,e4⟩
    ·rw[zam ea] at e
     exact(I4.hok a o e).stay (fun _ _ _ q=>q) (fun b q=>by rw[zam (zaq q nD)];exact q) fun b xs q=>by rw[zam (zaq q nD)];exact q
   have I5:Inv X pins σ (upd H' s2.heap.objs.size (.lst ys)) s4:=I2.call' I4.os u5 ap I4.bare fun b hb=>⟨(f2 b hb).2.2.2.1,(f2 b hb).2.1,(f2 b hb).2.2.2.2.1,(f2 b hb).2.2.2.2.2⟩
   refine fin _ _ ys H' s4 I5 ⟨m4,aG⟩ (I2.fpOk ag ?_) (q _ nD)
   rw[zam (Ne.symm ar)]
   exact aH
  ·refine thn (T.item (ze3 X N' sc G.objs.size fp pins s2 H2) rfl rfl rfl hc i _ s' σ' H' NoX aB (af ay) aA go) fun r s4 ⟨u,hr,h4⟩=>?_
   subst hr
   refine thn h4 fun _ s5 ⟨x,H5,I5,r5,y5,ao,aI⟩=>?_
   have aO:=I5.pinned (af aI) (T.obj _ _ ao)
   refine thn (hg _ _ _ _ _ _ s5 σ' H5 x u _ aO r5 (step x H5 y5)) fun _ s6 ⟨σ6,H6,I6,q6⟩=>?_
   refine thn (ht _ _ _ _ _ _ s6 σ6 H6 _ I6 q6) fun b s7 ⟨H7,I7,q7⟩=>?_
   have ah:∀{s8:Shared} {H8:Hp} (m':Nat),Inv (ze3 X N' sc G.objs.size fp pins s2 H2) ([(s2.heap.objs.size,{ cls:=.type "list",data:=.seq ae.toArray c })]++zgn fp s5.heap) σ6 H8 s8 →
     tn (i+1) s8.heap∧(∀b∈fp,H8 b=none)∧s8.heap.get? s2.heap.objs.size=some { cls:=.type "list",data:=.seq ae.toArray c }∧H8 s2.heap.objs.size=none:=fun {s8 H8} m' I8=>by
    have pn:∀p∈[(s2.heap.objs.size,({ cls:=.type "list",data:=.seq ae.toArray c }:Obj))]++zgn fp s5.heap,s8.heap.get? p.1=some p.2∧H8 p.1=none:=fun p hp=>
     let ⟨a,b,_⟩:=I8.pin p (List.mem_append_right _ hp);⟨a,b⟩
    refine⟨T.keep _ _ _ ao fun b hb o e=>(pn (b,o) (List.mem_append_right _ (zdh hb e))).1,fun b hb=>?_,pn _ (List.mem_append_left _ (List.mem_singleton.mpr rfl))⟩
    obtain⟨o,e,_⟩:=T.obj _ _ ao b hb
    exact(pn (b,o) (List.mem_append_right _ (zdh hb e))).2
   have ai:∀{s8:Shared} {H8:Hp} {pl:List (Addr×Obj)},Inv (ze3 X N' sc G.objs.size fp pins s2 H2) pl σ6 H8 s8→Inv (ze3 X N' sc G.objs.size fp pins s2 H2) [] σ6 H8 s8:=fun I8=>I8.pins_of fun p hp=>nomatch hp
   cases b with
   |false=>
    rw[if_neg Bool.false_ne_true] at q7 ⊢
    obtain⟨m',lt,w7⟩:=aD _ _ _ q7
    obtain⟨b1,b2,b3,b4⟩:=ah m' I7
    exact⟨m',lt,i+1,ys,ae,c,σ6,H7,ai I7,b1,b2,b3,hv,b4,w7⟩
   |true=>
    rw[if_pos rfl] at q7 ⊢
    refine thn (he _ _ _ _ _ _ s7 σ6 H7 _ I7 q7) fun y s8 ⟨yv,H8,I8,r8,q8⟩=>?_
    obtain⟨m',lt,w8⟩:=aD _ _ _ q8
    obtain⟨b1,b2,b3,b4⟩:=ah m' I8
    have aq:=hv.length
    refine append_at (hsz:=by rw[List.size_toArray,←aq];exact hz) b3 fun h9 ax e9=>?_
    have I9:Inv (ze3 X N' sc G.objs.size fp pins s2 H2) [] σ6 H8 { s8 with heap:=h9 }:=(ai I8).turned (t':=s8.toks) (it:=s2.heap.objs.size) (fun b o hb e=>ax.extBut b o hb e) b4 ar (.inr (Nat.le_refl _))
     (fun x c e z=>by
      rcases zd4 e with y|y
      ·exact absurd (Nat.lt_of_lt_of_le (Nat.lt_succ_self _) (Nat.le_trans (Nat.succ_le_succ ag) (zcr y))) (by rw[z];exact Nat.lt_irrefl _)
      ·obtain⟨v,hv⟩:=I2.cell x c (zbj az y)
       exact absurd hv.lt (by rw[z];exact Nat.lt_irrefl _))
     fun p hp z=>by
      have aJ:p∈X.pn++pins:=by
       have:p∈(X.pn++pins)++([]:List (Addr×Obj)):=hp
       rw[List.append_nil] at this
       exact this
      exact absurd (Heap.lt_size (I2.pin p aJ).1) (by rw[z];exact Nat.lt_irrefl _)
    refine⟨m',lt,i+1,ys++[yv],ae++[y],c+1,σ6,H8,I9,T.keep _ _ _ b1 fun b hb o e=>ax.extBut b o (Nat.ne_of_lt (hl b hb)) e,b2,?_,hv.append (.cons r8 .nil),b4,w8⟩
    rw[e9]
    simp
 exact codeAny_compStart_list (aj _ rfl) (T.self _ 0 _ _ _ (T.keep _ _ _ am fun b _ o e=>al b o e) (aj _ rfl))
theorem piL{K:PySem.W.Frag}{l:Expr}{tl:TE}(hl:PE X l tl)(h:X.K=K:=by rfl):PI X tg l (zwl K tl):=h▸zvi hl
theorem piT{K:PySem.W.Frag}{l:Expr}{tl:TE}(hl:PE X l tl)(h:X.K=K:=by rfl):PI X tg l (zy3 K tl):=h▸zx6 hl
theorem zw3(hc:X.calm=true)(hi:PI X tg iter wi)(h0:X.env.scope=sc0)(hN:X.N=XN)(ok:zlp sc0 sc XN N' n kp=true)
  (hg:∀C fp pins s H,PG (ze3 X N' sc C fp pins s H) tg g) (ht:∀C fp pins s H,PTs (ze3 X N' sc C fp pins s H) cs tc) (he:∀C fp pins s H,PE (ze3 X N' sc C fp pins s H) elt te)
  (hs:∀x,foldedSetIterable iter X.env x=pure x:=by intro _;rfl):PE X (.ListComp elt [⟨tg,iter,cs,0⟩] sc pos) (tLc n kp wi g tc te):=by
 intro pins s σ H Q I h
 rw[eval_ListComp]
 refine zqz hc hi h0 hN ok hg ht he hs I h fun D C ys H' s' I' ns fp q=>?_
 obtain⟨m,hm⟩:=ns
 refine⟨m,hm,fun h' sb=>⟨.ref D,_,?_,rfl,q⟩⟩
 obtain⟨f1,f2,f3,f4,f5,f6⟩:=fp
 exact I'.turned (t':=s'.toks) (it:=C) (fun b o hb e=>sb.extBut b o hb e) f1 f2 f4 f5 f6
end
end L2
namespace Wd
open PySem L2 Ow
theorem za7(k:Nat)(op:List Nat):inV (.int (k:Int)) (zaj op)=decide (k∈op):=by
 induction op with
 |nil=>rfl
 |cons a r ih=>
  have e:inV (.int (k:Int)) (zaj (a::r))=(eqV (.int (a:Int)) (.int (k:Int))||inV (.int (k:Int)) (zaj r)):=rfl
  rw[e,ih]
  have e2:eqV (.int (a:Int)) (.int (k:Int))=decide (k=a):=by
   show((a:Int)==(k:Int))=_
   by_cases z:k=a
   ·subst z;simp
   ·rw[decide_eq_false z]
    simpa using fun h=>z (by omega)
  rw[e2]
  simp[List.mem_cons,Bool.decide_or]
theorem za0(op:List Nat):(zaj op).all zgh=true:=by
 rw[List.all_eq_true]
 intro x hx
 obtain⟨i,_,rfl⟩:=List.mem_map.mp hx
 rfl
end Wd
namespace L2
open PySem PySem.Spec PyProof.Rows
def zoi(f:Addr)(qual:Str)(params:Arguments)(body:Expr)(scope:Scope)(cl:List (Str×Addr))(c:Addr):Heap→Prop:=
 fun h=>∃(pm ctv:Value),h.get? f=some (PySem.W.kla_obj "<lambda>" qual params body scope cl pm c ctv)
structure zhn(mg:Str→Option Value)(base:Heap)(c P:Addr):Prop where
 code:PySem.W.CodeHd base c P
 blt:∃bm ob,mg "__builtins__" = some (.ref bm)∧bm≠builtinsNs∧base.get? bm=some ob∧ob.cls=.type "module" ∧ ob.dict=some builtinsNs∧ob.data=.plain
theorem zqe{P:Program}{w:World}{H:Hp}{h:Heap}{a:Addr}{φ:Heap→Prop}(hH:H a=some (.ext φ))(ok:HOk P w H h):φ h:=(ok a _ hH).1
section
variable {X : Cx} {params : Arguments} {body : Expr} {scope : Scope} {pos : Pos} {c P : Addr}
theorem zxn(hc:X.env.code=.ref c)(B:zhn X.mg X.base c P)(hdef:defaultsOf params X.env=([],[]))(hfr:∀y∈scope.names,y.2=.free→∃c,X.env.cells.lookup y.1=some c):
  PE X (.Lambda params body scope pos) (fun σ H Q=>zdt H P∧∀(f c':Addr)(H1:Hp),H f=none→Same H H1 →
   H1 f=some (.ext (zoi f (X.env.qual ++ "<lambda>") params body scope (ze0 scope X.env) c'))→H1 c'=some (.ext (zhb c'))→Q (.ref f) H1):=by
 intro pins s σ H Q I hq
 obtain⟨⟨ps,hP,tr,av⟩,q⟩:=hq
 refine PySem.W.kla_eval hdef ?_
 have al:s.heap.get? P=some (PySem.W.tabObj ps):=I.hok P _ hP
 have hg:s.heap.Ns mainGlobals X.mg:=I.mod.glob.keeps I.bk
 have C:PySem.W.CodeHd s.heap c P:=B.code.keeps I.bk
 have aD:mainGlobals≠P:=fun z=>by
  obtain⟨o,es,ep,e,hd,_⟩:=hg
  rw[z,al] at e;cases e;cases hd
 have hb:s.heap.BuiltinsAt X.mg P:=by
  obtain⟨bm,ob,b1,b2,b3,b4,b5,b6⟩:=B.blt
  have aj:=I.bk _ _ b3
  refine⟨bm,ob,b1,b2,fun z=>?_,fun z=>?_,aj,b4,b5,b6⟩
  ·obtain⟨o,es,ep,e,hd,_⟩:=hg
   rw[z,e] at aj;cases aj;rw[hd] at b6;cases b6
  ·rw[z,al] at aj;cases aj;cases b4
 have ax:closureFor scope X.env=pure (ze0 scope X.env):=zmn hfr
 rcases av pos with aC|⟨c',hf,az⟩
 ·refine PySem.W.kla_makeFunction ax I.ok.glob hg hc C al tr aC aD hb fun c' ai h' tk hx ah am aq ar=>?_
  have aw:P<s.heap.objs.size:=Heap.lt_size al
  have aE:H c'=none:=I.hok.fresh ah
  have ag:H h'.objs.size=none:=I.hok.fresh (Nat.le_trans ah (Nat.le_of_lt am))
  have cf:c'≠h'.objs.size:=Nat.ne_of_lt am
  have cP:c'≠P:=Nat.ne_of_gt (Nat.lt_of_lt_of_le aw ah)
  have fP:h'.objs.size≠P:=Nat.ne_of_gt (Nat.lt_of_lt_of_le aw (Nat.le_trans ah (Nat.le_of_lt am)))
  have keep:∀b o,b≠P→s.heap.get? b=some o→(h'.push (PySem.W.kla_obj "<lambda>" (X.env.qual ++ "<lambda>") params body scope (ze0 scope X.env) ((X.mg "__name__").getD .none) c' ai)).get? b=some o:=fun b o hb e=>Heap.get?_push_of_some _ (hx b o hb e)
  obtain⟨c2,oc,vs,t,e2,ay,hd,hv⟩:=aq
  cases e2
  let H1:Hp:=upd (upd (upd H P (.tbl (ps++#[rawInt pos.line,rawInt pos.col,.ref c']))) c' (.ext (zhb c'))) h'.objs.size (.ext (zoi h'.objs.size (X.env.qual ++ "<lambda>") params body scope (ze0 scope X.env) c'))
  have au:H1 h'.objs.size=some (.ext (zoi h'.objs.size (X.env.qual ++ "<lambda>") params body scope (ze0 scope X.env) c')):=zac
  have ap:H1 c'=some (.ext (zhb c')):=by show upd _ _ _ c'=_;rw[zam cf,zac]
  have ao:H1 P=some (.tbl (ps++#[rawInt pos.line,rawInt pos.col,.ref c'])):=by show upd _ _ _ P=_;rw[zam (Ne.symm fP),zam (Ne.symm cP),zac]
  have ae:∀b,b≠h'.objs.size→b≠c'→b≠P→H1 b=H b:=fun b n1 n2 n3=>by show upd _ _ _ b=_;rw[zam n1,zam n2,zam n3]
  have ad:∀b u,H b=some u→b≠h'.objs.size∧b≠c':=fun b u e=>⟨zaq e ag,zaq e aE⟩
  have ak:∀b,H b=some (.ext (zhb b))→H1 b=some (.ext (zhb b)):=fun b e=>by rw[ae b (ad b _ e).1 (ad b _ e).2 (fun z=>by rw[z,hP] at e;cases e)];exact e
  have tabs:zdt H1 P:=⟨_,ao,by rw[Array.toList_append];exact TriplesOk_snoc _ _ _ _ tr,fun p'=>by
   rw[Array.toList_append]
   rcases zju (pos:=p') (pos':=pos) (c:=.ref c') ps.toList tr with z|z
   ·rcases av p' with y|⟨d,y1,y2⟩
    ·exact .inl (z.trans y)
    ·exact .inr ⟨d,z.trans y1,ak d y2⟩
   ·exact .inr ⟨c',z,ap⟩⟩
  have same:Same H H1:=fun b o e=>by
   by_cases af:b=P
   ·subst af
    rw[hP] at e
    cases e
    exact⟨⟨_,ao⟩,fun _=>tabs⟩
   ·exact Kp.of e (by rw[ae b (ad b _ e).1 (ad b _ e).2 af];exact e) ak
  have un:Un X.fs [] H H1 s.heap (h'.push (PySem.W.kla_obj "<lambda>" (X.env.qual ++ "<lambda>") params body scope (ze0 scope X.env) ((X.mg "__name__").getD .none) c' ai)):=by
   have np:∀b,H b=none→b≠P:=fun b n z=>by rw[z,hP] at n;cases n
   refine⟨fun b o e n _ _=>keep b o (np b n) e,fun b o e n _ _=>⟨o.slots,keep b o (np b n) e⟩,fun b o e n _=>?_,fun b o e _=>?_,fun b xs e=>?_,fun b o u e=>?_,fun b qs e=>?_⟩
   ·have l:=Heap.lt_size e
    rw[ae b (Nat.ne_of_lt (Nat.lt_trans (Nat.lt_of_lt_of_le l ah) am)) (Nat.ne_of_lt (Nat.lt_of_lt_of_le l ah)) (np b n)]
    exact n
   ·by_cases af:b=P
    ·subst af
     exact⟨_,Heap.get?_push_of_some _ ar⟩
    ·exact⟨o,keep b o af e⟩
   ·rw[ae b (ad b _ e).1 (ad b _ e).2 (fun z=>by rw[z,hP] at e;cases e)]
    exact e
   ·rw[ae b (ad b _ e).1 (ad b _ e).2 (fun z=>by rw[z,hP] at e;cases e)]
    exact e
   ·by_cases af:b=P
    ·subst af
     rw[hP] at e
     cases e
     exact⟨_,ao⟩
    ·exact⟨#[],by rw[ae b (ad b _ e).1 (ad b _ e).2 af,e];simp⟩
  have aA:HOk X.prog X.w H1 (h'.push (PySem.W.kla_obj "<lambda>" (X.env.qual ++ "<lambda>") params body scope (ze0 scope X.env) ((X.mg "__name__").getD .none) c' ai)):=fun b u e=>by
   by_cases h1:b=h'.objs.size
   ·subst h1
    rw[au] at e
    cases e
    exact⟨⟨_,_,Heap.get?_push_size _ rfl⟩,⟨_,Heap.get?_push_size _ rfl⟩,fun h1 h2 ⟨pm,cv,z⟩ k=>⟨pm,cv,k _ z⟩⟩
   ·by_cases h2:b=c'
    ·subst h2
     rw[ap] at e
     cases e
     exact⟨⟨oc,vs,_,t,Heap.get?_push_of_some _ ay,hd,hv⟩,⟨_,Heap.get?_push_of_some _ ay⟩,fun h1 h2 ⟨o,v,qq,tt,z1,z2,z3⟩ k=>⟨o,v,qq,tt,k _ z1,z2,z3⟩⟩
    ·by_cases h3:b=P
     ·subst h3
      rw[ao] at e
      cases e
      exact Heap.get?_push_of_some _ ar
     ·rw[ae b h1 h2 h3] at e
      refine(I.hok b u e).stay (fun b' o' aB e'=>?_) (fun b' e'=>?_) fun b' xs e'=>?_
      ·refine keep b' o' ?_ e'
       rcases aB with z|z
       ·rw[z];exact h3
       ·intro z2;rw[z2,hP] at z;cases z
      ·rw[ae b' (ad b' _ e').1 (ad b' _ e').2 (fun z=>by rw[z,hP] at e';cases e')];exact e'
      ·rw[ae b' (ad b' _ e').1 (ad b' _ e').2 (fun z=>by rw[z,hP] at e';cases e')];exact e'
  exact⟨.ref h'.objs.size,H1,I.un un aA,rfl,q _ c' H1 ag same au ap⟩
 ·refine PySem.W.kla_makeFunctionHit ax I.ok.glob hg hc C al tr hf hb fun ai h' tk hk hsz=>?_
  have ag:H h'.objs.size=none:=I.hok.fresh hsz
  have keep:∀b o,s.heap.get? b=some o→(h'.push { cls:=.type "function",data:=.func (PySem.W.kla_fn "<lambda>" (X.env.qual ++ "<lambda>") params body scope (ze0 scope X.env) ((X.mg "__name__").getD .none) (.ref c') ai) }).get? b=some o:=fun b o e=>Heap.get?_push_of_some _ (hk b o e)
  have same:Same H (upd H h'.objs.size (.ext (zoi h'.objs.size (X.env.qual ++ "<lambda>") params body scope (ze0 scope X.env) c'))):=zhz fun b u e=>by rw[zam (zaq e ag)];exact e
  refine⟨.ref h'.objs.size,_,I.un (Un.laid keep hsz ag) (I.hok.laid keep hsz ?_),rfl,q _ c' _ ag same zac (same c' _ az)⟩
  exact⟨⟨_,_,Heap.get?_push_size _ rfl⟩,⟨_,Heap.get?_push_size _ rfl⟩,fun h1 h2 ⟨pm,cv,z⟩ k=>⟨pm,cv,k _ z⟩⟩
end
def zdv(h:Heap)(H:Hp)(st:List Env):Heap:=PySem.W.hideAll h (trk h H++frs st)
section
variable {X : Cx} {pins : List (Addr × Obj)} {σ : St} {H : Hp} {s : Shared}
theorem zkm{h:Heap}{H:Hp}{st:List Env}{b:Addr}{o:Obj}(e:(zdv h H st).get? b=some o):h.get? b=some o∧H b=none∧b∉frs st:=by
 have e':h.get? b=some o:=PySem.W.of_hideAll _ e
 refine⟨e',?_,fun z=>?_⟩
 ·cases q:H b with
  |none=>rfl
  |some x=>
   have hm:b∈trk h H:=List.mem_filter.mpr ⟨List.mem_range.mpr (Heap.lt_size e'),by simp[q]⟩
   have z:(zdv h H st).get? b=none:=PySem.W.hideAll_none _ (List.mem_append_left _ hm)
   rw[z] at e;cases e
 ·have y:(zdv h H st).get? b=none:=PySem.W.hideAll_none _ (List.mem_append_right _ z)
  rw[y] at e;cases e
theorem zi0{h:Heap}{H:Hp}{st:List Env}{b:Addr}{o:Obj}(e:h.get? b=some o)(n:H b=none)(hf:b∉frs st):(zdv h H st).get? b=some o:=
 PySem.W.hideAll_get _ e fun hm=>by
  rcases List.mem_append.mp hm with z|z
  ·have q:(H b).isSome=true:=(List.mem_filter.mp z).2
   rw[n] at q;simp at q
  ·exact hf z
theorem Inv.noStk(I:Inv X pins σ H s){b:Addr}{o:Obj}(e:X.base.get? b=some o):b∉frs X.stack:=fun hb=>by
 have:=(I.stack.mem hb).1
 rw[e] at this;cases this
theorem Inv.now(I:Inv X pins σ H s):zs0 X.prog X.w X.K X.mg (zdv s.heap H X.stack) X.A X.stack s H:=by
 have up:∀b o,X.base.get? b=some o→(zdv s.heap H X.stack).get? b=some o:=fun b o e=>zi0 (I.bs b o e).1 (I.bs b o e).2 (I.noStk e)
 obtain⟨mb,h1,h2⟩:=I.mod.blt
 refine⟨I.ok.frames,⟨I.mod.kin.keeps up,I.mod.glob.keeps up,⟨mb,h1.keeps up,h2⟩,I.mod.nolimit.keeps up⟩,fun b o e=>⟨(zkm e).1,(zkm e).2.1⟩,Nat.le_of_eq (PySem.W.hideAll_size _ _),?_,I.stkFree,I.hok,I.bare⟩
 have go:∀l:List Env,(∀b∈frs l,b∈frs X.stack)→s.heap.FunFrames X.base l→s.heap.FunFrames (zdv s.heap H X.stack) l:=by
  intro l
  induction l with
  |nil=>intro _ _;trivial
  |cons env r ih=>
   intro hs hl
   obtain⟨hk,⟨L,o,hf,hn,ho,hd⟩,hr⟩:=hl
   have hL:L∈frs X.stack:=hs L (by unfold frs;rw[List.filterMap_cons,hf];exact List.mem_cons_self)
   refine⟨hk,⟨L,o,hf,?_,ho,hd⟩,ih (fun b hb=>hs b (by unfold frs;rw[List.filterMap_cons,hf];exact List.mem_cons_of_mem _ hb)) hr⟩
   exact PySem.W.hideAll_none _ (List.mem_append_right _ hL)
 exact go X.stack (fun _ h=>h) I.stack
theorem Inv.nowCell(I:Inv X pins σ H s){x:Str}{c:Addr}{v:Option Value}(hf:X.fn x=true)(hc:X.env.cells.lookup x=some c)(h:s.heap.IsCell c v):(zdv s.heap H X.stack).IsCell c v:=by
 obtain⟨o,ho,hd⟩:=h
 refine⟨o,zi0 ho (I.freeC x c hc) fun z=>?_,hd⟩
 rcases List.mem_cons.mp (I.stkSub c z) with e|e
 ·exact I.cne x c hc e
 ·obtain⟨_,ob,e2,_⟩:=I.ok.funs.mem e
  exact absurd (Nat.lt_of_lt_of_le (Heap.lt_size e2) (I.ok.cab x c hf hc)) (Nat.lt_irrefl _)
end
section
variable {X : Cx} {k : Nat} {f : Addr} {fd : FuncData} {ps : List Str} {x : Str} {p pos : Pos} {e : Expr} {es : List Expr} {t : TA}
def zqp(X:Cx)(σ:St)(base:Heap):Prop:=∀(i:Nat)(y:Str)(v:V),X.N[i]?=some y→σ[i]?=some (some v)→X.env.kindOf y=some .cell→∃c u,X.env.cells.lookup y=some c∧RelV v u∧base.IsCell c (some u)
theorem zt0(hr:Room k X.A)(hg:Gl X x)(hm:X.mg x=some (.ref f))(hk:PySem.W.keepIn X.K (.ref f)=true)(hb:Binds X.K fd ps [])(hfn:∀y,X.fn y=true)
  (ha:PA X (e::es) t) (hdb:(x==("__debug__" : Str))=false:=by decide) (he:starEach (e::es) X.env=(false,eval e X.env)::starEach es X.env:=by rfl) (hpl:(backTo pos (starEach es X.env)).any (·.1)=false:=by rfl):
  PE X (.Call (.Name x p) (e::es) [] pos) (fun σ H Q=>t σ H fun vs H1=>∀base:Heap,zqp X σ base→X.K.In base→base.Ns mainGlobals X.mg→∃sp:Sp,FnOk X.prog X.w X.K X.mg base CX0 k f fd ps sp∧sp vs H1 Q E0):=by
 intro pins s σ H Q I h
 refine wpAny_Call_Name_kw (zh8 I hg hm ?_ hdb)
 refine PySem.W.callWith_K (h₀:=X.base) I.ok.mod.kin hk (thn (ha pos pins s σ H _ I h) fun us s1 ⟨vs,H1,I1,r,q⟩=>⟨I1.kIn,?_⟩) he hpl
 have e0:=I1.now
 have ci:zqp X σ (zdv s1.heap H1 X.stack):=fun i y v hN hv hk=>by
  obtain⟨m,hn,hl⟩:=I1.loc
  obtain⟨u,ru,l⟩:=hl i y v hN hv (.inr (.inl hk))
  rcases l with⟨ae,_⟩|⟨_,c,hc,ad⟩
  ·rw[hk] at ae;cases ae
  ·exact⟨c,u,hc,ru,I1.nowCell (hfn y) hc ad⟩
 obtain⟨sp,F,hs⟩:=q _ ci e0.mod.kin e0.mod.glob
 have hl:us.length=ps.length:=by rw[←r.length];exact F.len _ _ _ _ hs
 have af:=hb s1 us I1.kIn (by rw[List.append_nil];exact hl)
 rw[List.append_nil] at af
 refine wpAny_call (codeAny_mono (F.run X.A X.stack s1 H1 ⟨us,[]⟩ us vs Q E0 hr e0 af r hs) fun r s' hq=>?_)
 cases r with
 |error e=>exact hq.elim
 |ok fl=>
  cases fl with
  |ret u=>exact I1.after hq
  |next=>exact False.elim hq
  |brk=>exact False.elim hq
  |cont=>exact False.elim hq
theorem zt2{i:Nat}{φ:Heap→Prop}{sp:Sp}(F:FnOk X.prog X.w X.K X.mg X.base CX0 k f fd ps sp)(hr:Room k X.A)(hN:X.N[i]?=some x)(hv:Vis X.env.scope x)(hb:Binds X.K fd ps [])
  (hφ:∀h:Heap,φ h→∃o fd',h.get? f=some o∧o.data=.func fd') (ha:PA X (e::es) t)
  (hdb:(x==("__debug__" : Str))=false:=by decide) (hcd:(x==("__classdict__" : Str))=false:=by decide) (he:starEach (e::es) X.env=(false,eval e X.env)::starEach es X.env:=by rfl) (hpl:(backTo pos (starEach es X.env)).any (·.1)=false:=by rfl):
  PE X (.Call (.Name x p) (e::es) [] pos) (fun σ H Q=>σ[i]?=some (some (.ref f))∧t σ H fun vs H1=>H1 f=some (.ext φ)∧sp vs H1 Q E0):=by
 intro pins s σ H Q I h
 obtain⟨hσ,h⟩:=h
 refine wpAny_Call_Name_kw (wpAny_mono (ztj hN hv hdb hcd pins s σ H (fun v H'=>v=.ref f∧H'=H) I ⟨_,hσ,rfl,rfl⟩) (fun u s1 hu=>?_) fun _ _ z=>z)
 obtain⟨v,H',I',rv,e1,e2⟩:=hu
 subst e1
 subst e2
 obtain rfl:u=Value.ref f:=rv
 have h2:wpAny (model X.prog X.w) X.A (spliced (backTo pos (starEach (e::es) X.env))) (fun vs s₁=>(∃o fd',s₁.heap.get? f=some o∧o.data=.func fd')∧wpAny (model X.prog X.w) X.A (call (.ref f) ([]++vs)) (EP X pins σ Q) X.xe s₁) X.xe s1:=by
  refine thn (ha pos pins s1 σ _ _ I' h) fun us s2 ⟨vs,H1,I1,r,e3,q⟩=>⟨hφ _ (zqe e3 I1.hok),?_⟩
  have hq:=zt9 (ds:=[]) (dvs:=[]) (E:=E0) F hr hb .nil zta I1 r (by rw[List.append_nil];exact q)
  exact hq
 rw[he] at h2
 show wpAny _ _ (callWith pos (.ref f) [] (backTo pos (starEach (e::es) X.env)) []) _ _ s1
 rw[he]
 refine PySem.W.callWith_of (by show((false||(backTo pos (starEach es X.env)).any (·.1))||false)=false;rw[hpl];rfl) (P:=fun h=>∃o fd',h.get? f=some o∧o.data=.func fd') (fun h ⟨o,fd',e1,e2⟩=>?_) (Calls.evalArgs_plain h2)
 obtain⟨oc,od,ad,os⟩:=o
 cases e2
 exact⟨.frame,.inl rfl,(PySem.W.Looks.ld (part:=none) e1).andThen .now⟩
end
structure znr(ps fr:List Str)(sc:Scope):Prop where
 kind:sc.kind=.function
 co:sc.isCoroutine=false
 gen:sc.isGenerator=false
 nd:ps.Nodup
 par:∀x∈ps,sc.names.lookup x=some .local
 fre:∀x∈fr,sc.names.lookup x=some .free
 nocell:∀y∈sc.names,y.2≠.cell
theorem zkr{ps:List Str}{us:List Value}{i:Nat}{x:Str}{u:Value}(nd:ps.Nodup)(h1:ps[i]?=some x)(h2:us[i]?=some u):(ps.zip us).reverse.lookup x=some u:=by
 have hm:(x,u)∈(ps.zip us).reverse:=List.mem_reverse.mpr (List.mem_of_getElem? (i:=i) (by rw[List.getElem?_zip_eq_some];exact⟨h1,h2⟩))
 obtain⟨c,hc⟩:=zeu hm
 have h3:=List.mem_reverse.mp (PySem.mem_of_lookup hc)
 obtain⟨j,hj⟩:=List.getElem?_of_mem h3
 rw[List.getElem?_zip_eq_some] at hj
 have ad:j=i:=by
  obtain⟨l1,e1⟩:=List.getElem?_eq_some_iff.mp h1
  obtain⟨l2,e2⟩:=List.getElem?_eq_some_iff.mp hj.1
  rw[List.nodup_iff_pairwise_ne,List.pairwise_iff_getElem] at nd
  rcases Nat.lt_trichotomy j i with z|z|z
  ·exact absurd (e2.trans e1.symm) (nd j i l2 l1 z)
  ·exact z
  ·exact absurd (e1.trans e2.symm) (nd i j l1 l2 z)
 rw[ad,h2] at hj
 rw[hc,hj.2]
def ztk(P:Program)(w:World)(K:PySem.W.Frag)(mg:Str→Option Value)(base:Heap)(N:List Str)(q:Str)(scope:Scope)(f c:Addr)(cl:List (Str×Addr))(A:Around)(outer:List Env)(s:Shared)(H:Hp):Cx where
 prog:=P
 w:=w
 K:=K
 mg:=mg
 base:=base
 A:=A.deeper (PySem.W.envX q scope s.heap.objs.size f (.ref c) cl)
 N:=N
 s₀:=s
 H₀:=H
 env:=PySem.W.envX q scope s.heap.objs.size f (.ref c) cl
 outer:=outer
 stack:=PySem.W.envX q scope s.heap.objs.size f (.ref c) cl::outer
 ex:=[]
 calm:=true
 fn:=fun _=>false
 pn:=[]
 xe:=fun _ _=>False
theorem zto{prog:Program}{w:World}{A:Around}{R:Result→Shared→Prop}{s:Shared}{a:Addr}{args:Args}{o:Obj}{fd:FuncData}{body:Expr}{q:Str}(hroom:A.depth<recursionLimit)
  (ho:s.heap.get? a=some o)
  (hd':o.data=.func fd) (hco:fd.scope.isCoroutine=false) (hgen:fd.scope.isGenerator=false) (hbody:fd.body=.expr body) (hcd:∃c oc vs t,fd.code=.ref c∧s.heap.get? c=some oc∧oc.data=.fields vs∧vs[1]?=some (.str q t))
  (h:wpAny (model prog w) A.in1 (bindArgs fd args) (fun binds s₁=>
   wpAny (model prog w) A.in1 (newFunctionEnv fd.scope fd.globals fd.closure binds (q ++ ".<locals>.") (some a) fd.code none fd.builtins)
    (fun env s₂=>s₂.heap.NoLimit∧codeAny (model prog w) A (.expr body env) R s₂) (fun e s'=>R (.error e) s') s₁) (fun e s'=>R (.error e) s') s):
  codeAny (model prog w) A (.call (.ref a) args) R s:=by
 refine codeAny_of_tree ?_
 show wpAny _ A.in1 (callAny (.ref a) args) _ _ s
 simp only[callAny]
 refine wpAny_bind (wpAny_load ho ?_)
 obtain⟨c,oc,vs,tq,hc,ae,ad,hq⟩:=hcd
 simp only[hd',callFunction,hco,hgen,hbody,hc]
 rw[hc] at h
 refine wpAny_bind (m:=field (.ref c) 1) (wpAny_field ae ad hq (wpAny_bind (wpAny_pure ?_)))
 exact wpAny_bind (wpAny_mono h (fun binds s₁ h₁=>wpAny_bind (wpAny_mono h₁ (fun env s₂ h₂=>wpAny_bind (wpAny_enterFrame h₂.1 hroom
  (wpAny_pure (And.intro rfl h₂.2)))) fun _ _ h'=>h')) fun _ _ h'=>h')
theorem zxd{P:Program}{w:World}{K:PySem.W.Frag}{mg:Str→Option Value}{base:Heap}{f c:Addr}{qual:Str}{params:Arguments}{body:Expr}{scope:Scope}{cl:List (Str×Addr)}{ps fr:List Str}{fv:List V}{k:Nat}{sp:Sp}
  (S:znr ps fr scope) (hcl:∀x cc,cl.lookup x=some cc→∃v,base.IsCell cc v) (inj:∀x y cc,cl.lookup x=some cc→cl.lookup y=some cc→x=y) (has:∀y∈scope.names,y.2=.free→∃cc,cl.lookup y.1=some cc)
  (hfv:∀(i:Nat)(x:Str)(v:V),fr[i]?=some x→fv[i]?=some v→∃cc u,cl.lookup x=some cc∧RelV v u∧base.IsCell cc (some u)) (hlen:fv.length=fr.length)
  (hsame:∀pm ctv args,bindArgs (PySem.W.kla_fn "<lambda>" qual params body scope cl pm (.ref c) ctv) args=bindArgs (PySem.W.kla_fn "<lambda>" qual params body scope cl .none (.ref c) .none) args)
  (len:∀vs H Q E,sp vs H Q E→vs.length=ps.length)
  (lam:∀vs H Q E,sp vs H Q E→H f=some (.ext (zoi f qual params body scope cl c))∧H c=some (.ext (zhb c)))
  (hbody:∀(q:Str)(A:Around)(outer:List Env)(s:Shared)(H:Hp)(vs:List V)(Q:VK)(E:XK),Room k (A.deeper (PySem.W.envX q scope s.heap.objs.size f (.ref c) cl))→sp vs H Q E →
   ∃t,PE (ztk P w K mg base (ps++fr) q scope f c cl A outer s H) body t∧t (vs.map some++fv.map some) H Q):
  FnOk P w K mg base CX0 (k+1) f (PySem.W.kla_fn "<lambda>" qual params body scope cl .none (.ref c) .none) ps sp:=by
 refine⟨len,fun A outer s H args us vs Q E hr e0 hb r ag=>?_⟩
 have hl:=len _ _ _ _ ag
 obtain⟨hf,hc⟩:=lam _ _ _ _ ag
 obtain⟨pm,ctv,ho⟩:=zqe hf e0.hok
 obtain⟨oc,ak,q,t,al,ap,ao⟩:=zqe hc e0.hok
 have ar:s.heap.NoLimit:=e0.mod.nolimit.keeps fun b o e=>(e0.bs b o e).1
 have aj:∀{cc v},base.IsCell cc v→s.heap.IsCell cc v∧H cc=none:=fun {cc v} ⟨o,e,d⟩=>⟨⟨o,(e0.bs _ _ e).1,d⟩,(e0.bs _ _ e).2⟩
 refine zto hr.depth ho rfl S.co S.gen rfl ⟨c,oc,ak,t,rfl,al,ap,ao⟩ ?_
 rw[hsame]
 refine hb _ _ _ _ ?_
 have ah:∀y∈ps.zip us,scope.names.lookup y.1=some .local:=fun⟨n,v⟩ hy=>S.par n (List.of_mem_zip hy).1
 refine wpAny_newFunctionEnv S.nocell ah (fun h₁ aq am=>?_) S.kind
 have af:∀b o,s.heap.get? b=some o→h₁.get? b=some o:=fun b o e=>am.extBut b o (Nat.ne_of_lt (Heap.lt_size e)) (Heap.get?_push_of_some _ e)
 refine⟨ar.keeps af,?_⟩
 obtain⟨tt,ht,hq⟩:=hbody q A outer s H vs Q E (hr.deeper _) ag
 have ai:∀b:Addr,b∉([]:List Addr):=fun b z=>by simp at z
 have ae:∀x,(scope.names.lookup x=some .cell∨scope.names.lookup x=some .free)→∃cc,cl.lookup x=some cc:=fun x hx=>by
  rcases hx with z|z
  ·exact absurd rfl (S.nocell _ (PySem.mem_of_lookup z))
  ·exact has _ (PySem.mem_of_lookup z) rfl
 have I:Inv (ztk P w K mg base (ps++fr) q scope f c cl A outer s H) [] (vs.map some++fv.map some) H { s with heap:=h₁,toks:=s.toks+(ps.zip us).length }:=by
  refine⟨⟨e0.mod,S.kind,rfl,rfl,Nat.le_refl _,inj,ae,fun x cc z=>(by cases z),fun _=>hr.hd,Around.frames_deeper e0.frames,.inr ⟨rfl,rfl⟩,fun b z=>absurd z (ai b),e0.bs,e0.bsz,fun b _ _=>ai b,fun b z=>absurd z (ai b),e0.funs,e0.frf⟩,
   rfl,e0.bare,Un.kept af,⟨_,aq,fun i x v h1 h2 h3=>?_⟩,fun x cc e=>?_,e0.hok.fresh (Nat.le_refl _),fun x cc e=>?_,fun p hp=>absurd (show p∈([]:List (Addr×Obj)) from hp) (by simp),e0.hok.kept af,?_⟩
  ·have ad:(ps++fr)[i]?=some x:=h1
   by_cases hi:i<ps.length
   ·rw[List.getElem?_append_left hi] at ad
    rw[List.getElem?_append_left (by rw[List.length_map,hl];exact hi),List.getElem?_map] at h2
    obtain⟨v',hv,e⟩:=Option.map_eq_some_iff.mp h2
    cases e
    obtain⟨u,hu,rv⟩:=r.get hv
    exact⟨u,rv,.inl ⟨S.par x (List.mem_of_getElem? ad),zkr S.nd ad hu⟩⟩
   ·rw[List.getElem?_append_right (by omega)] at ad
    rw[List.getElem?_append_right (by rw[List.length_map,hl];omega),List.getElem?_map,List.length_map,hl] at h2
    obtain⟨v',hv,e⟩:=Option.map_eq_some_iff.mp h2
    cases e
    obtain⟨cc,u,e1,ru,ic⟩:=hfv _ _ _ ad hv
    exact⟨u,ru,.inr ⟨.inr (S.fre x (List.mem_of_getElem? ad)),cc,e1,(aj ic).1.keeps af⟩⟩
  ·obtain⟨v,ic⟩:=hcl x cc e
   exact⟨v,(aj ic).1.keeps af⟩
  ·obtain⟨v,ic⟩:=hcl x cc e
   exact(aj ic).2
  ·show(vs.map some++fv.map some).length=(ps++fr).length
   rw[List.length_append,List.length_append,List.length_map,List.length_map,hl,hlen]
 refine PySem.W.kla_codeExpr (wpAny_mono (ht [] _ _ H _ I hq) (fun u s' hs=>?_) fun e s' hs=>hs.elim)
 obtain⟨v,H',J,rv,qq⟩:=hs
 exact⟨v,H',J.os,J.bare,J.base,J.hok,rv,qq⟩
theorem Fun.okC{P:Program}{w:World}{K:PySem.W.Frag}{mg:Str→Option Value}{base:Heap}{x qual:Str}{st:Stmt}{f:Addr}{fd:FuncData}{N ps:List Str}{k:Nat}{sp:Sp}(F:Fun K x qual st f fd)(S:zau N ps (zai st))(len:∀vs H Q E,sp vs H Q E→vs.length=ps.length)
  (hbody:∀(cdv:Value)(A:Around)(outer:List Env)(s:Shared)(H:Hp)(vs:List V)(Q:VK)(E:XK),fd.code=cdv→Room k (A.deeper (envOfC qual (zai st) s.heap.objs.size f cdv))→sp vs H Q E →
   ∃t,PSs (zdw CX0 P w K mg base N qual (zai st) f cdv A outer s H E).nox (zbe st) t∧t { nx:=fun _ H'=>Q .non H',rt:=Q } (zhc N vs) H):FnOk P w K mg base CX0 (k+1) f fd ps sp:=by
 obtain⟨oc,od,kV,doc,pm,an,cdv,ct,osl,rfl,lk,ae⟩:=F.ex
 refine zur lk ae S len fun A outer s H vs Q E hr ad=>?_
 obtain⟨t,h,q⟩:=hbody cdv A outer s H vs Q E rfl hr ad
 exact⟨t,h.nox,q⟩
theorem zrg{P:Program}{w:World}{K:PySem.W.Frag}{mg mb:Str→Option Value}{k:Nat}{fa a:Addr}{fd:FuncData}{x:Str}{sp:Sp}{s₁:Shared}{vs:List Value}{ns:List Int}{tabs:List (Addr×Addr)}
  (KX:K.In s₁.heap) (hns:s₁.heap.Ns mainGlobals mg) (hb:s₁.heap.Ns builtinsNs mb) (hbb:∀x:Str,x ≠ "__name__" → mb x=bootBuiltins x) (hlim:s₁.heap.NoLimit) (hg:s₁.gens=#[])
  (hT:PySem.W.TabsAt tabs s₁.heap) (hK0:PySem.W.noTabs K=true)
  (hbm:∃bm ob,mg "__builtins__" = some (.ref bm)∧bm≠builtinsNs∧s₁.heap.get? bm=some ob∧ob.cls=.type "module" ∧ ob.dict=some builtinsNs∧ob.data=.plain)
  (ha:s₁.heap.get? a=some { cls:=.type "list",data:=.seq vs.toArray }) (hi:IntsAre vs ns) (hl:ns.length≤sizeLine) (hr:Room k callerA)
  (F:∀base:Heap,K.In base→base.Ns mainGlobals mg→(∀q∈tabs,zhn mg base q.1 q.2)→FnOk P w K mg base CX0 k fa fd [x] sp) (hbind:∀(s:Shared)(u:Value),BindsTo s fd ⟨[u],[]⟩ [(x,u)])
  (hsp:∀H:Hp,(∀q∈tabs,zdt H q.2)→SqL K H a (ns.map V.int)→sp [.ref a] H (fun v _=>v=.bl true) fun _ _ _=>False):
  codeAny (model P w) callerA (.call (.ref fa) ⟨[.ref a],[]⟩) (fun r s'=>r=.ok (.ret (.bool true))∧OldK s₁.heap s'.heap∧s'.os=s₁.os∧AllBare s'.gens) s₁:=by
 have rv:=zgr hi
 have al:=hi.length
 have aw:∀q∈tabs,q.2≠a:=fun q hq z=>by
  have e:=(hT q hq).2
  rw[z,ha] at e;cases e
 have ax:∀q∈tabs,K.lookup q.2=none:=fun q hq=>by
  cases e:K.lookup q.2 with
  |none=>rfl
  |some o=>
   have e1:=KX _ _ e
   rw[(hT q hq).2] at e1
   cases e1
   have h2:=List.all_eq_true.mp hK0 (q.2,_) (PySem.W.mem_of_lookupK e)
   exact absurd (show false=true from h2) Bool.false_ne_true
 have ah:∀H:Hp,(∀b,H b=none∨(∃o xs,H b=some (.frz o (.lst xs))∧b=a∧K.lookup a=none)∨(H b=some (.tbl #[])∧b∈tabs.map (·.2)))→(∀q∈tabs,H q.2=some (.tbl #[]))→SqL K H a (ns.map V.int)→HOk P w H s₁.heap →
   codeAny (model P w) callerA (.call (.ref fa) ⟨[.ref a],[]⟩) (fun r s'=>r=.ok (.ret (.bool true))∧OldK s₁.heap s'.heap∧s'.os=s₁.os∧AllBare s'.gens) s₁:=by
  intro H hO ay hS ar
  have ap:∀{b:Addr} {o:Obj},s₁.heap.get? b=some o→o≠PySem.W.tabObj #[]→b≠a→H b=none:=fun {b o} e hne hba=>by
   rcases hO b with z|⟨_,_,_,z,_⟩|⟨_,z⟩
   ·exact z
   ·exact absurd z hba
   ·obtain⟨q,hq,rfl⟩:=List.mem_map.mp z
    rw[(hT q hq).2] at e
    exact absurd (Option.some.inj e).symm hne
  have ad:∀{b:Addr} {o:Obj},s₁.heap.get? b=some o→H b=none→(zlc s₁.heap H).get? b=some o:=fun e n=>ztq e n
  have az:∀{b:Addr} {o:Obj} {es:Array DictEntry} {ep:Nat},s₁.heap.get? b=some o→o.data=.dict es ep→H b=none:=fun {b o es ep} e d=>by
   refine ap e (fun z=>by rw[z] at d;cases d) fun z=>?_
   subst z
   rw[ha] at e;cases e;cases d
  have ak:∀{b:Addr} {m:Str→Option Value},s₁.heap.Ns b m→(zlc s₁.heap H).Ns b m:=fun {b m} ⟨o,es,ep,e,d,r⟩=>⟨o,es,ep,ad e (az e d),d,r⟩
  have au:K.In (zlc s₁.heap H):=fun b o e=>ad (KX b o e) (by
   rcases hO b with z|⟨_,_,_,z,y⟩|⟨_,z⟩
   ·exact z
   ·rw[z,y] at e;cases e
   ·obtain⟨q,hq,rfl⟩:=List.mem_map.mp z
    rw[ax q hq] at e;cases e)
  have hM:Mod K mg (zlc s₁.heap H):=⟨au,ak hns,⟨mb,ak hb,hbb⟩,let ⟨mc,h1,h2⟩:=hlim;⟨mc,ak h1,h2⟩⟩
  have hL:∀q∈tabs,zhn mg (zlc s₁.heap H) q.1 q.2:=fun q hq=>by
   refine⟨?_,?_⟩
   ·obtain⟨o,ws,ao,tf,ag,tg,av,aq,tt,e,e1,r⟩:=(hT q hq).1
    refine⟨o,ws,ao,tf,ag,tg,av,aq,tt,ad e (ap e (fun z=>by rw[z] at e1;cases e1) fun z=>?_),e1,r⟩
    rw[z,ha] at e;cases e;exact absurd e1 (by simp)
   ·obtain⟨bm,ob,b1,b2,b3,b4,b5⟩:=hbm
    refine⟨bm,ob,b1,b2,ad b3 (ap b3 (fun z=>by rw[z] at b4;cases b4) fun z=>?_),b4,b5⟩
    rw[z,ha] at b3;cases b3;exact absurd b4 (by simp)
  have e0:zs0 P w K mg (zlc s₁.heap H) callerA [] s₁ H:=⟨rfl,hM,fun b o e=>zvj e,Nat.le_of_eq (zrr _ _),trivial,fun b hb=>absurd (show b∈([]:List Addr) from hb) (by simp),ar,.of_eq hg⟩
  have tk:∀q∈tabs,zdt H q.2:=fun q hq=>⟨#[],ay q hq,trivial,fun _=>.inl rfl⟩
  refine codeAny_mono ((F _ au (ak hns) hL).run callerA [] s₁ H ⟨[.ref a],[]⟩ [.ref a] [.ref a] _ _ hr e0 (hbind s₁ (.ref a)) (.cons rfl .nil) (hsp H tk hS)) fun r s' h=>?_
  cases r with
  |error e=>exact h.elim
  |ok fl=>
   cases fl with
   |next=>exact False.elim h
   |brk=>exact False.elim h
   |cont=>exact False.elim h
   |ret u=>
    obtain⟨v,H',os,am,un,ai,r',q⟩:=h
    have q':v=.bl true:=q
    subst q'
    obtain rfl:u=Value.bool true:=r'
    have ae:∀b o,s₁.heap.get? b=some o→s'.heap.get? b=some o∨(∃q∈tabs,b=q.2∧∃ps,s'.heap.get? b=some (PySem.W.tabObj ps)):=fun b o e=>by
     rcases hO b with z|⟨ob,xs,z,_⟩|⟨z,y⟩
     ·exact .inl (un.keep b o e z (by intro z;exact absurd (show b∈([]:List Addr) from z) (by simp)) (by simp))
     ·have z2:=un.frzs b ob _ z
      obtain⟨e1,_⟩:=ar b _ z
      obtain⟨e2,_⟩:=ai b _ z2
      rw[e] at e1;cases e1
      exact .inl e2
     ·obtain⟨q,hq,rfl⟩:=List.mem_map.mp y
      obtain⟨more,z2⟩:=un.tbls _ _ z
      exact .inr ⟨q,hq,rfl,_,ai _ _ z2⟩
    refine⟨rfl,⟨fun b o e=>?_,fun b o e=>?_⟩,os,am⟩
    ·rcases ae b o e with z|⟨q,hq,rfl,ps,z⟩
     ·exact .inl z
     ·have e2:=(hT q hq).2
      rw[e] at e2
      cases e2
      exact .inr (.inl ⟨((hT q hq).1.tab (hT q hq).2).isCodeTable,rfl,#[],ps,rfl,by rw[Array.empty_append];exact z⟩)
    ·rcases ae b o e with z|⟨q,hq,rfl,ps,z⟩
     ·exact⟨_,z⟩
     ·exact⟨_,z⟩
 have aj:∀b,b∈tabs.map (·.2)→s₁.heap.get? b=some (PySem.W.tabObj #[]):=fun b hb=>by
  obtain⟨q,hq,rfl⟩:=List.mem_map.mp hb
  exact(hT q hq).2
 cases hk:K.lookup a with
 |some o=>
  have e:=KX a o hk
  rw[ha] at e
  cases e
  refine ah (fun b=>if b∈tabs.map (·.2) then some (.tbl #[]) else none) (fun b=>?_) (fun q hq=>if_pos (List.mem_map_of_mem hq)) (.inr ⟨_,vs.toArray,_,hk,rfl,rfl,rfl,by rw[List.size_toArray,al];exact hl,by simpa using rv⟩) (fun b u z=>?_)
  ·by_cases hb:b∈tabs.map (·.2)
   ·exact .inr (.inr ⟨if_pos hb,hb⟩)
   ·exact .inl (if_neg hb)
  ·by_cases hb:b∈tabs.map (·.2)
   ·have z':=(if_pos hb).symm.trans z
    cases z'
    exact aj b hb
   ·have z':=(if_neg hb).symm.trans z
    cases z'
 |none=>
  refine ah (fun b=>if b=a then some (.frz { cls:=.type "list",data:=.seq vs.toArray } (.lst (ns.map V.int))) else if b∈tabs.map (·.2) then some (.tbl #[]) else none) (fun b=>?_) (fun q hq=>?_) (.inl (.inr ⟨{ cls:=.type "list",data:=.seq vs.toArray },if_pos rfl⟩)) (fun b u z=>?_)
  ·by_cases hb:b=a
   ·exact .inr (.inl ⟨_,_,if_pos hb,hb,hk⟩)
   ·by_cases af:b∈tabs.map (·.2)
    ·exact .inr (.inr ⟨(if_neg hb).trans (if_pos af),af⟩)
    ·exact .inl ((if_neg hb).trans (if_neg af))
  ·exact(if_neg (aw q hq)).trans (if_pos (List.mem_map_of_mem hq))
  ·by_cases hb:b=a
   ·have z':=(if_pos hb).symm.trans z
    cases z'
    subst hb
    exact⟨ha,by rw[List.length_map];exact hl,vs,_,rv,ha⟩
   ·have z1:=(if_neg hb).symm.trans z
    by_cases af:b∈tabs.map (·.2)
    ·have z':=(if_pos af).symm.trans z1
     cases z'
     exact aj b af
    ·have z':=(if_neg af).symm.trans z1
     cases z'
theorem walk_ofT{l:PySem.W.OpenLaw}{n k:Nat}{q:Program}{loose:List Str}{XP:(Str→Option Value)→Heap→Prop}{YP:World→Heap→Prop}{d:DefRec}{K:Params→PySem.W.Frag}{sp:World→Sp}{x:Str}{tabs:World→List (Addr×Addr)}
  (hn:l.most=some n) (hn2:n≤sizeLine) (hdf:d.params.defaults=[]) (hr:Room k callerA)
  (hY:∀(w:World)(h:Heap),YP w h→(K w.params).In h) (hK0:∀w:World,PySem.W.noTabs (K w.params)=true)
  (hT:∀(w:World)(h:Heap),YP w h→PySem.W.TabsAt (tabs w) h)
  (F:∀(w:World)(mg:Str→Option Value)(fa:Addr)(h:Heap),(K w.params).In h→h.Ns mainGlobals mg→mg d.name=some (.ref fa) →
   ∃fd:FuncData,(∀(s:Shared)(u:Value),BindsTo s fd ⟨[u],[]⟩ [(x,u)]) ∧
    ∀base:Heap,(K w.params).In base→base.Ns mainGlobals mg→(∀p∈tabs w,zhn mg base p.1 p.2)→FnOk l.prog w (K w.params) mg base CX0 k fa fd [x] (sp w))
  (hsp:∀(w:World)(H:Hp)(a:Addr)(ns:List Int),ns.length≤n→(∀p∈tabs w,zdt H p.2)→SqL (K w.params) H a (ns.map V.int)→sp w [.ref a] H (fun v _=>v=.bl true) fun _ _ _=>False):
  PySem.W.WalkO q loose XP YP l.row.toRowW d [] (fun f vs=>PySem.call f vs):=by
 refine Att.attach_call hn hdf fun w s₀ s₁ mg mb fa o pm cd doc a vs ns G Y ho hd ai ah af ae ad hg=>?_
 have KX:=hY w _ Y
 obtain⟨fd,hb,hF⟩:=F w mg fa _ KX G.T.g ah
 have ag:=hT w _ Y
 exact zrg KX G.T.g G.T.b G.T.builtins G.T.nolimit hg ag (hK0 w) G.T.bmain af ae (Nat.le_trans ad hn2) hr hF hb fun H hO hS=>hsp w H a ns ad hO hS
def zqi:Expr→Expr
 |.Call _ args _ _=>args.getLastD (.Constant .none 0 ⟨0,0,0,0⟩)
 |e=>e
def zo3:Expr→Scope
 |.Lambda _ _ sc _=>sc
 |_=>{ kind:=.function,names:=[],isGenerator:=false,isCoroutine:=false }
theorem zhg{x y:Str}{c cc:Addr}(h:[(y,c)].lookup x=some cc):x=y∧cc=c:=by
 have m:=PySem.mem_of_lookup h
 rw[List.mem_singleton] at m
 cases m
 exact⟨rfl,rfl⟩
end L2
namespace Wd
open PySem L2 Ow
theorem zf0{b:Bool}{A B:Prop}(hb:b=true)(h:A):if b=true then A else B:=by
 rw[if_pos hb]
 exact h
theorem zdc{b:Bool}{A B:Prop}(hb:b=false)(h:B):if b=true then A else B:=by
 rw[if_neg (by rw[hb];simp)]
 exact h
def spT(P0:Addr)(sp:Sp):Sp:=fun vs H Q E=>zdt H P0∧sp vs H Q E
def zfw(ts:List Tie)(il:List Nat)(m:Nat)(leaf:Nat→Nat→Option PyData):Nat→Nat→Nat→PyData
 |f,y,n=>match zbm ts il y n with
  |some t=>.tuple [.str ("broken" : Str),.int (t:Int)]
  |none=>match leaf y n with
   |some d=>d
   |none=>match zbb m y n,f with
    |k::_,f+1=>.tuple [.str ("split" : Str),.int (k:Int),zfw ts il m leaf f (y|||2^k) n,zfw ts il m leaf f y (n|||2^k)]
    |_,_=>.tuple []
section
variable {ts : List Tie} {il : List Nat} {m f y n : Nat} {leaf : Nat → Nat → Option PyData}
theorem zhw{i:Nat}(hb:zbm ts il y n=some i):zfw ts il m leaf f y n=.tuple [.str ("broken" : Str),.int (i:Int)]:=by
 unfold zfw
 simp[hb]
theorem zk0{d:PyData}(hb:zbm ts il y n=none)(hl:leaf y n=some d):zfw ts il m leaf f y n=d:=by
 unfold zfw
 simp[hb,hl]
theorem zi4{k:Nat}{r:List Nat}(hb:zbm ts il y n=none)(hl:leaf y n=none)(ho:zbb m y n=k::r):zfw ts il m leaf (f+1) y n=.tuple [.str ("split" : Str),.int (k:Int),zfw ts il m leaf f (y|||2^k) n,zfw ts il m leaf f y (n|||2^k)]:=by
 conv=>lhs;unfold zfw
 simp only[hb,hl,ho]
end
def zlm(leaf:Nat→Nat→Option PyData)(y n:Nat)(H:Hp)(v:V):Prop:=match leaf y n with
 |none=>v=.non
 |some d=>Dn H d v∧∃p,v=.ref p
def zxo(C:Hp→Prop)(leaf:Nat→Nat→Option PyData):Sp:=fun vs H Q _=>∃y n:Nat,vs=[.int y,.int n]∧C H∧∀(v:V)(H':Hp),Same H H'→zlm leaf y n H' v→Q v H'
def EndsR(ts:List Tie)(il:List Nat)(m:Nat)(leaf:Nat→Nat→Option PyData)(y n:Nat):Prop:=∃R:Nat→Nat→Prop,R y n∧(∀y n k,R y n→k∈zbb m y n→R (y|||2^k) n∧R y (n|||2^k))∧∀y n,R y n→zbm ts il y n=none→zbb m y n=[]→leaf y n≠none
theorem EndsR.all{ts:List Tie}{il:List Nat}{m:Nat}{leaf:Nat→Nat→Option PyData}(h:∀y n,zbm ts il y n=none→zbb m y n=[]→leaf y n≠none)(y n:Nat):EndsR ts il m leaf y n:=⟨fun _ _=>True,trivial,fun _ _ _ _ _=>⟨trivial,trivial⟩,fun y n _=>h y n⟩
def zl8(f:Nat)(p:Addr)(C:Hp→Prop)(m:Nat)(leaf:Nat→Nat→Option PyData):Sp:=fun vs H Q _=>∃(wd:Addr)(ts:List Tie)(tl:Addr)(il:List Nat)(y n:Nat),vs=[.ref wd,.ref tl,.int y,.int n,.ref p]∧WoodT H wd m ts∧H tl=some (.lst (zaj il))∧(∀i∈il,i<ts.length)∧(zbb m y n).length≤f∧C H∧EndsR ts il m leaf y n∧∀(v:V)(H':Hp),Same H H'→Dn H' (zfw ts il m leaf f y n) v→Q v H'
theorem zw8{P:Program}{w:World}{K:PySem.W.Frag}{mg:Str→Option Value}{base:Heap}{p c:Addr}{qual:Str}{params:Arguments}{body:Expr}{scope:Scope}{cl:List (Str×Addr)}{H1:Hp}{ps fr:List Str}{fv:List V}{k:Nat}{leaf:Nat→Nat→Option PyData}(C0:Hp→Prop)
  (hp:H1 p=some (.ext (zoi p qual params body scope cl c)))
  (S:znr ps fr scope) (hcl:∀x cc,cl.lookup x=some cc→∃v,base.IsCell cc v) (inj:∀x y cc,cl.lookup x=some cc→cl.lookup y=some cc→x=y) (has:∀y∈scope.names,y.2=.free→∃cc,cl.lookup y.1=some cc)
  (hfv:∀(i:Nat)(x:Str)(v:V),fr[i]?=some x→fv[i]?=some v→∃cc u,cl.lookup x=some cc∧RelV v u∧base.IsCell cc (some u)) (hlen:fv.length=fr.length)
  (hsame:∀pm ctv args,bindArgs (PySem.W.kla_fn "<lambda>" qual params body scope cl pm (.ref c) ctv) args=bindArgs (PySem.W.kla_fn "<lambda>" qual params body scope cl .none (.ref c) .none) args)
  (len2:ps.length=2)
  (hbody:∀(q:Str)(A:Around)(outer:List Env)(s:Shared)(H:Hp)(y n:Nat)(Q:VK),Room k (A.deeper (PySem.W.envX q scope s.heap.objs.size p (.ref c) cl))→C0 H→(∀(v:V)(H':Hp),Same H H'→zlm leaf y n H' v→Q v H') →
   ∃t,PE (ztk P w K mg base (ps++fr) q scope p c cl A outer s H) body t∧t ([some (.int y),some (.int n)]++fv.map some) H Q):
  FnOk P w K mg base CX0 (k+1) p (PySem.W.kla_fn "<lambda>" qual params body scope cl .none (.ref c) .none) ps (zxo (fun H=>C0 H∧H p=some (.ext (zoi p qual params body scope cl c))∧H c=some (.ext (zhb c))) leaf):=by
 refine zxd S hcl inj has hfv hlen hsame (fun vs H Q E h=>?_) (fun vs H Q E h=>?_) (fun q A outer s H vs Q E hr h=>?_)
 ·obtain⟨y,n,rfl,_⟩:=h
  exact len2.symm
 ·obtain⟨y,n,rfl,⟨_,h1,h2⟩,_⟩:=h
  exact⟨h1,h2⟩
 ·obtain⟨y,n,rfl,⟨h0,_,_⟩,q'⟩:=h
  exact hbody q A outer s H y n Q hr h0 q'
theorem zvm{p:Addr}{qual:Str}{params:Arguments}{body:Expr}{scope:Scope}{cl:List (Str×Addr)}{c:Addr}(h:Heap)(x:zoi p qual params body scope cl c h):∃o fd',h.get? p=some o∧o.data=.func fd':=by
 obtain⟨pm,ad,e⟩:=x
 exact⟨_,_,e,rfl⟩
def zdn(m:Nat)(y n:Nat):Option PyData:=if zbb m y n=[] then some (.tuple [.str ("ware" : Str)]) else none
theorem zhp{ts:List Tie}{il:List Nat}{m:Nat}:∀(f y n:Nat),(zbb m y n).length≤f→zfw ts il m (zdn m) f y n=(zbr ts il m f y n).toD
 |f,y,n,hf=>by
  cases hb:zbm ts il y n with
  |some i=>rw[zhw hb,zha hb];rfl
  |none=>
   cases ho:zbb m y n with
   |nil=>rw[zk0 hb (by unfold zdn;rw[if_pos ho]),zix hb ho];rfl
   |cons k r=>
    cases f with
    |zero=>rw[ho] at hf;simp at hf
    |succ f=>
     have hk:k∈zbb m y n:=by rw[ho];exact List.mem_cons_self
     have l1:=zfg hk
     have l2:=zfp hk
     rw[zi4 hb (by unfold zdn;rw[if_neg (by rw[ho];simp)]) ho,zie hb ho,zhp f _ _ (by omega),zhp f _ _ (by omega)]
     rfl
def za1(m:Nat)(ts:List Tie):List Nat:=(List.range (2^m)).filter fun s=>zbs ts s
theorem mem_wareL{m:Nat}{ts:List Tie}{s:Nat}:s∈za1 m ts↔s<2^m∧zbs ts s=true:=by
 unfold za1
 rw[List.mem_filter,List.mem_range]
theorem zib(m:Nat)(ts:List Tie):(za1 m ts).Pairwise (·<·):=List.Pairwise.filter _ List.pairwise_lt_range
theorem zgz{m:Nat}{ts:List Tie}(m9:m≤9):(za1 m ts).length≤512:=by
 have h1:(za1 m ts).length≤2^m:=by
  have:=List.length_filter_le (fun s=>zbs ts s) (List.range (2^m))
  rwa [List.length_range] at this
 exact Nat.le_trans h1 (Nat.pow_le_pow_right (by decide) m9:2^m≤2^9)
theorem zfd{m:Nat}{ts:List Tie}{il:List Nat}(ok:∀t∈ts,t.Ok m):∀(f y n:Nat),(zbb m y n).length≤f→Stand m y n→((zbr ts il m f y n).leaves y).Nodup
 |f,y,n,hf,S=>by
  cases hb:zbm ts il y n with
  |some i=>rw[zha hb];exact List.nodup_nil
  |none=>
   cases ho:zbb m y n with
   |nil=>rw[zix hb ho];exact List.nodup_cons.mpr ⟨List.not_mem_nil,List.nodup_nil⟩
   |cons k r=>
    have hk:k∈zbb m y n:=by rw[ho];exact List.mem_cons_self
    cases f with
    |zero=>rw[ho] at hf;simp at hf
    |succ f=>
     have l1:=zfg hk
     have l2:=zfp hk
     rw[zie hb ho]
     show((zbr ts il m f (y|||2^k) n).leaves (y|||2^k)++(zbr ts il m f y (n|||2^k)).leaves y).Nodup
     refine List.nodup_append.mpr ⟨zfd ok f _ _ (by omega) (S.one hk),zfd ok f _ _ (by omega) (S.other hk),fun a ha b ad e=>?_⟩
     subst e
     have h1:=((zd3 ok f _ _ (by omega) (S.one hk) a).mp ha).2.1.1 k (by rw[Nat.testBit_or,Nat.testBit_two_pow_self,Bool.or_true])
     have h2:=((zd3 ok f _ _ (by omega) (S.other hk) a).mp ad).2.1.2 k (by rw[Nat.testBit_or,Nat.testBit_two_pow_self,Bool.or_true])
     rw[h1] at h2
     cases h2
theorem zss{m:Nat}(m1:1≤m):Stand m 1 0:=⟨fun _ _=>Nat.zero_testBit _,Nat.lt_of_lt_of_le (by decide) (Nat.pow_le_pow_right (by decide) m1:2^1≤2^m),Nat.two_pow_pos m⟩
theorem zpn{m:Nat}{ts:List Tie}(ok:∀t∈ts,t.Ok m)(m1:1≤m)(f:Nat)(hf:(zbb m 1 0).length≤f):((zbr ts (znx ts) m f 1 0).leaves 1).Perm (za1 m ts):=by
 refine(List.perm_ext_iff_of_nodup (zfd ok f 1 0 hf (zss m1)) ((zib m ts).imp fun h=>Nat.ne_of_lt h)).mpr fun s=>?_
 rw[zd3 ok f 1 0 hf (zss m1),mem_wareL,zne]
 unfold zbs
 rw[Bool.and_eq_true]
 constructor
 ·rintro⟨h1,h2,h3⟩
  exact⟨h1,h2.1 0 rfl,h3⟩
 ·rintro⟨h1,h2,h3⟩
  refine⟨h1,⟨fun k hk=>?_,fun k hk=>?_⟩,h3⟩
  ·have:k=0:=by
    rcases Nat.eq_zero_or_pos k with z|z
    ·exact z
    ·have e:(1:Nat).testBit k=false:=Nat.testBit_lt_two_pow (Nat.lt_of_lt_of_le (by decide:1<2^1) (Nat.pow_le_pow_right (by decide) z))
     rw[e] at hk;cases hk
   rw[this];exact h2
  ·rw[Nat.zero_testBit] at hk;cases hk
theorem zpd{ms:List Int}{L M:List Nat}(p:ms.Perm (L.map fun k:Nat=>(k:Int)))(so:ms.Pairwise (·≤·))(q:L.Perm M)(pw:M.Pairwise (·<·)):ms=M.map fun k:Nat=>(k:Int):=by
 refine List.Perm.eq_of_pairwise (le:=(·≤·)) (fun a b _ _ h1 h2=>Int.le_antisymm h1 h2) so ?_ (p.trans (q.map _))
 rw[List.pairwise_map]
 exact pw.imp fun h=>by omega
def zu1:Sp:=fun vs H Q _=>∃(wd:Addr)(m:Nat)(ts:List Tie),vs=[.ref wd]∧WoodT H wd m ts∧1≤m∧m≤9∧∀(l:Addr)(H':Hp),Same H H'→H l=none→H' l=some (.lst (zaj (za1 m ts)))→Q (.ref l) H'
end Wd
namespace Srt
open PySem PyProof PyProof.Rows
def zv6:Bool→Keyed→Array Keyed→Nat→Nat→Nat→StateT SortSt Sem (Option Nat):=sortPriv% PySem.Builtin.gallop
def zsk:Array Keyed→Array Keyed→StateT SortSt Sem (Array Keyed):=sortPriv% PySem.Builtin.mergeLo
def ztl:Array Keyed→Array Keyed→StateT SortSt Sem (Array Keyed):=sortPriv% PySem.Builtin.mergeHi
def kn(p:Keyed):Int:=numOf p.1
def zg5(p:Keyed):Prop:=∃n t,p.1=.int n t
theorem zc2{arr:Array Keyed}{i:Nat}{p:Keyed}(h:arr[i]?=some p):K arr i=kn p:=by unfold K;rw[h];rfl
def gp(left:Bool)(key:Keyed)(arr:Array Keyed)(base i:Nat):Bool:=if left then decide (K arr (base+i)<kn key) else !decide (kn key<K arr (base+i))
section
variable {prog : Program} {w : World} {A : Around} {E : Value → Shared → Prop} {s : Shared}
theorem zkq{st:SortSt}{x y:Keyed}{Q:Option Bool→SortSt→Prop}(hk:kindOf st=oneType')(hx:zg5 x)(hy:zg5 y)(h:Q (some (decide (kn x<kn y))) st):
  wpS (model prog w) A E s (lt' x y) Q st:=by
 obtain⟨a,t,e1⟩:=hx
 obtain⟨b,u,e2⟩:=hy
 obtain⟨x1,x2⟩:=x
 obtain⟨y1,y2⟩:=y
 cases e1;cases e2
 rw[lt'_eq]
 refine wpS_bind (wpS_get ?_)
 rw[hk,keyLt'_oneType]
 refine wpS_bind (wpS_lift (wpAny_attempt (oneLt_int ⟨rfl,?_⟩)))
 exact wpS_pure h
theorem zbd{st:SortSt}{arr:Array Keyed}{i:Nat}{p:Keyed}{Q:Keyed→SortSt→Prop}(hp:arr[i]?=some p)(h:Q p st):wpS (model prog w) A E s (elem' arr i) Q st:=by
 rw[elem'_eq,hp];exact wpS_pure h
theorem zdf{st:SortSt}{left:Bool}{key:Keyed}{arr:Array Keyed}{base n hint:Nat}{Q:Option Nat→SortSt→Prop}(hk:kindOf st=oneType')(hkey:zg5 key)
  (hall:∀i,i<n→∃p,arr[base+i]?=some p∧zg5 p) (hs:∀i j,i≤j→j<n→K arr (base+i)≤K arr (base+j)) (hn:hint<n)
  (h:∀k,k≤n→(∀i,i<k→gp left key arr base i=true)→(∀i,k≤i→i<n→gp left key arr base i=false)→Q (some k) st):
  wpS (model prog w) A E s (zv6 left key arr base n hint) Q st:=by
 have hb:∀(i:Nat)(R:Option Bool→SortSt→Prop),i<n→R (some (gp left key arr base i)) st →
   wpS (model prog w) A E s (elem' arr (base+i)>>=fun x=>if left=true then lt' x key else lt' key x>>=fun b=>pure (b.map (!·))) R st:=by
  intro i R hi hR
  obtain⟨p,hp,ip⟩:=hall i hi
  refine wpS_bind (zbd hp ?_)
  unfold gp at hR
  rw[zc2 hp] at hR
  cases left with
  |true=>exact zkq hk ip hkey hR
  |false=>exact wpS_bind (zkq hk hkey ip (wpS_pure hR))
 have mono:∀i j,i≤j→j<n→gp left key arr base j=true→gp left key arr base i=true:=by
  intro i j ag hj hg
  have:=hs i j ag hj
  unfold gp at hg ⊢
  cases left<;>simp at hg ⊢ <;> omega
 have af:∀i j,i≤j→j<n→gp left key arr base i=false→gp left key arr base j=false:=by
  intro i j ag hj hg
  cases ah:gp left key arr base j with
  |false=>rfl
  |true=>rw[mono i j ag hj ah] at hg;cases hg
 refine wpS_bind (hb hint _ hn ?_)
 dsimp only
 cases hr:gp left key arr base hint with
 |true=>
  rw[if_pos rfl]
  refine wpS_bind (wpS_mono (wpS_forRange
   (I:=fun x c ad=>st=ad∧∃la of,c=(none,la,of)∧la<of∧hint+la<n∧x+1≤of∧gp left key arr base (hint+la)=true)
   (Q:=fun c ad=>st=ad∧∃la of,c=(none,la,of)∧la<of∧hint+la<n∧gp left key arr base (hint+la)=true∧(of≥n-hint∨(hint+of<n∧gp left key arr base (hint+of)=false)))
   ?_ ?_ ⟨rfl,0,1,rfl,by omega,by omega,by omega,hr⟩) ?_)
  ·rintro x c ad _ hx ⟨rfl,la,of,rfl,k1,k2,k3,k4⟩
   dsimp only
   by_cases ae:of≥n-hint
   ·rw[if_pos ae]
    exact wpS_pure ⟨rfl,la,of,rfl,k1,k2,k4,.inl ae⟩
   ·rw[if_neg ae]
    refine wpS_bind (hb _ _ (by omega) ?_)
    dsimp only
    cases hm:gp left key arr base (hint+of) with
    |true=>exact wpS_pure ⟨rfl,of,2*of+1,rfl,by omega,by omega,by omega,hm⟩
    |false=>exact wpS_pure ⟨rfl,la,of,rfl,k1,k2,k4,.inr ⟨by omega,hm⟩⟩
  ·rintro c ad ⟨rfl,la,of,rfl,k1,k2,k3,k4⟩
   exact⟨rfl,la,of,rfl,k1,k2,k4,.inl (by omega)⟩
  ·rintro c ad ⟨rfl,la,of,rfl,k1,k2,k4,k5⟩
   dsimp only
   have g1:hint+la+1≤hint+min of (n-hint):=by omega
   have g2:hint+min of (n-hint)≤n:=by omega
   have g3:∀i,i<hint+la+1→gp left key arr base i=true:=fun i hi=>mono i _ (by omega) k2 k4
   have g4:∀i,hint+min of (n-hint)≤i→i<n→gp left key arr base i=false:=fun i h1 h2=>by
    rcases k5 with z|⟨z,hz⟩
    ·omega
    ·exact af _ i (by omega) h2 hz
   refine wpS_bind (wpS_mono (wpS_forRange
    (I:=fun x c ad=>st=ad∧∃lo hi,c=(none,lo,hi)∧lo≤hi∧hi≤n∧hi-lo≤n-x∧(∀i,i<lo→gp left key arr base i=true)∧(∀i,hi≤i→i<n→gp left key arr base i=false))
    (Q:=fun c ad=>st=ad∧∃hi,c=(none,hi,hi)∧hi≤n∧(∀i,i<hi→gp left key arr base i=true)∧(∀i,hi≤i→i<n→gp left key arr base i=false))
    ?_ ?_ ⟨rfl,_,_,rfl,g1,g2,by omega,g3,g4⟩) ?_)
   ·rintro x c ad _ hx ⟨rfl,lo,hi,rfl,k1,k2,k3,k4,k5⟩
    dsimp only
    by_cases ae:lo≥hi
    ·rw[if_pos ae]
     have:lo=hi:=by omega
     subst this
     exact wpS_pure ⟨rfl,lo,rfl,k2,k4,k5⟩
    ·rw[if_neg ae]
     refine wpS_bind (hb _ _ (by omega) ?_)
     dsimp only
     by_cases hm:gp left key arr base (lo+(hi-lo)/2)=true
     ·rw[if_pos hm]
      exact wpS_pure ⟨rfl,_,_,rfl,by omega,k2,by omega,fun i ai=>mono i _ (by omega) (by omega) hm,k5⟩
     ·rw[if_neg hm]
      exact wpS_pure ⟨rfl,_,_,rfl,by omega,by omega,by omega,k4,fun i h1 h2=>af _ i h1 h2 (by simpa using hm)⟩
   ·rintro c ad ⟨rfl,lo,hi,rfl,k1,k2,k3,k4,k5⟩
    have:lo=hi:=by omega
    subst this
    exact⟨rfl,lo,rfl,k2,k4,k5⟩
   ·rintro c ad ⟨rfl,hi,rfl,k2,k4,k5⟩
    exact wpS_pure (h hi k2 k4 k5)
 |false=>
  rw[if_neg (by decide)]
  refine wpS_bind (wpS_mono (wpS_forRange
   (I:=fun x c ad=>st=ad∧∃la of,c=(none,la,of)∧la<of∧la≤hint∧x+1≤of∧gp left key arr base (hint-la)=false)
   (Q:=fun c ad=>st=ad∧∃la of,c=(none,la,of)∧la<of∧la≤hint∧gp left key arr base (hint-la)=false∧(of≥hint+1∨(of≤hint∧gp left key arr base (hint-of)=true)))
   ?_ ?_ ⟨rfl,0,1,rfl,by omega,by omega,by omega,hr⟩) ?_)
  ·rintro x c ad _ hx ⟨rfl,la,of,rfl,k1,k2,k3,k4⟩
   dsimp only
   by_cases ae:of≥hint+1
   ·rw[if_pos ae]
    exact wpS_pure ⟨rfl,la,of,rfl,k1,k2,k4,.inl ae⟩
   ·rw[if_neg ae]
    refine wpS_bind (hb _ _ (by omega) ?_)
    dsimp only
    cases hm:gp left key arr base (hint-of) with
    |false=>exact wpS_pure ⟨rfl,of,2*of+1,rfl,by omega,by omega,by omega,hm⟩
    |true=>exact wpS_pure ⟨rfl,la,of,rfl,k1,k2,k4,.inr ⟨by omega,hm⟩⟩
  ·rintro c ad ⟨rfl,la,of,rfl,k1,k2,k3,k4⟩
   exact⟨rfl,la,of,rfl,k1,k2,k4,.inl (by omega)⟩
  ·rintro c ad ⟨rfl,la,of,rfl,k1,k2,k4,k5⟩
   dsimp only
   have g1:hint+1-min of (hint+1)≤hint-la:=by omega
   have g2:hint-la≤n:=by omega
   have g3:∀i,i<hint+1-min of (hint+1)→gp left key arr base i=true:=fun i hi=>by
    rcases k5 with z|⟨z,hz⟩
    ·omega
    ·exact mono i _ (by omega) (by omega) hz
   have g4:∀i,hint-la≤i→i<n→gp left key arr base i=false:=fun i h1 h2=>af _ i h1 h2 k4
   refine wpS_bind (wpS_mono (wpS_forRange
    (I:=fun x c ad=>st=ad∧∃lo hi,c=(none,lo,hi)∧lo≤hi∧hi≤n∧hi-lo≤n-x∧(∀i,i<lo→gp left key arr base i=true)∧(∀i,hi≤i→i<n→gp left key arr base i=false))
    (Q:=fun c ad=>st=ad∧∃hi,c=(none,hi,hi)∧hi≤n∧(∀i,i<hi→gp left key arr base i=true)∧(∀i,hi≤i→i<n→gp left key arr base i=false))
    ?_ ?_ ⟨rfl,_,_,rfl,g1,g2,by omega,g3,g4⟩) ?_)
   ·rintro x c ad _ hx ⟨rfl,lo,hi,rfl,k1,k2,k3,k4,k5⟩
    dsimp only
    by_cases ae:lo≥hi
    ·rw[if_pos ae]
     have:lo=hi:=by omega
     subst this
     exact wpS_pure ⟨rfl,lo,rfl,k2,k4,k5⟩
    ·rw[if_neg ae]
     refine wpS_bind (hb _ _ (by omega) ?_)
     dsimp only
     by_cases hm:gp left key arr base (lo+(hi-lo)/2)=true
     ·rw[if_pos hm]
      exact wpS_pure ⟨rfl,_,_,rfl,by omega,k2,by omega,fun i ai=>mono i _ (by omega) (by omega) hm,k5⟩
     ·rw[if_neg hm]
      exact wpS_pure ⟨rfl,_,_,rfl,by omega,by omega,by omega,k4,fun i h1 h2=>af _ i h1 h2 (by simpa using hm)⟩
   ·rintro c ad ⟨rfl,lo,hi,rfl,k1,k2,k3,k4,k5⟩
    have:lo=hi:=by omega
    subst this
    exact⟨rfl,lo,rfl,k2,k4,k5⟩
   ·rintro c ad ⟨rfl,hi,rfl,k2,k4,k5⟩
    exact wpS_pure (h hi k2 k4 k5)
end
def kle(x y:Keyed):Prop:=kn x≤kn y
theorem zli{x y z:Keyed}(h:kle x y)(g:kle y z):kle x z:=Int.le_trans h g
structure MI(A B out:List Keyed)(ia ib:Nat):Prop where
 perm:out.Perm (A.take ia++B.take ib)
 srt:out.Pairwise kle
 la:∀x∈out,∀y∈A.drop ia,kle x y
 lb:∀x∈out,∀y∈B.drop ib,kle x y
def SP(A B R:List Keyed):Prop:=R.Perm (A++B)∧R.Pairwise kle
theorem MI.swap{A B out:List Keyed}{ia ib:Nat}(m:MI A B out ia ib):MI B A out ib ia:=
 ⟨m.perm.trans List.perm_append_comm,m.srt,m.lb,m.la⟩
theorem MI.more{A B out:List Keyed}{ia ib:Nat}(hA:A.Pairwise kle)(m:MI A B out ia ib)(k:Nat)(hx:∀x∈(A.drop ia).take k,∀y∈B.drop ib,kle x y):
  MI A B (out++(A.drop ia).take k) (ia+k) ib:=by
 have hd:(A.drop ia).Pairwise kle:=hA.sublist (List.drop_sublist _ _)
 have hs:((A.drop ia).take k++(A.drop ia).drop k).Pairwise kle:=by rw[List.take_append_drop];exact hd
 obtain⟨p1,p2,p3⟩:=List.pairwise_append.mp hs
 refine⟨?_,List.pairwise_append.mpr ⟨m.srt,p1,fun x h y g=>m.la x h y (List.mem_of_mem_take g)⟩,fun x h y g=>?_,fun x h y g=>?_⟩
 ·rw[List.take_add]
  refine(List.Perm.append_right _ m.perm).trans ?_
  rw[List.append_assoc,List.append_assoc]
  exact List.Perm.append_left _ List.perm_append_comm
 ·rw[←List.drop_drop] at g
  rcases List.mem_append.mp h with z|z
  ·exact m.la x z y (List.mem_of_mem_drop g)
  ·exact p3 x z y g
 ·rcases List.mem_append.mp h with z|z
  ·exact m.lb x z y g
  ·exact hx x z y g
theorem MI.fin{A B out:List Keyed}{ia ib:Nat}(m:MI A B out ia ib)(ha:A.length≤ia)(hb:B.length≤ib):SP A B out:=by
 have:=m.perm
 rw[List.take_of_length_le ha,List.take_of_length_le hb] at this
 exact⟨this,m.srt⟩
theorem MI.done{A B out:List Keyed}{ia ib:Nat}(hA:A.Pairwise kle)(m:MI A B out ia ib)(hb:B.length≤ib):SP A B (out++A.drop ia++B.drop ib):=by
 have h:=m.more hA A.length (fun x _ y g=>by rw[List.drop_of_length_le hb] at g;cases g)
 rw[List.take_of_length_le (by rw[List.length_drop];omega)] at h
 rw[List.drop_of_length_le hb,List.append_nil]
 exact h.fin (by omega) hb
theorem MI.last{A B out:List Keyed}{ia ib:Nat}(hA:A.Pairwise kle)(hB:B.Pairwise kle)(m:MI A B out ia ib)(hx:∀x∈B.drop ib,∀y∈A.drop ia,kle x y):
  SP A B (out++B.drop ib++A.drop ia):=by
 have h:=(m.swap.more hB B.length (fun x g y g2=>hx x (List.mem_of_mem_take g) y g2)).swap
 rw[List.take_of_length_le (by rw[List.length_drop];omega)] at h
 have:=h.done hA (Nat.le_add_left _ _)
 rwa [List.drop_of_length_le (l:=B) (Nat.le_add_left _ _),List.append_nil] at this
theorem zgw{a:Array Keyed}{i:Nat}:(a.extract i a.size).toList=a.toList.drop i:=by
 rw[Array.toList_extract,List.extract_eq_drop_take]
 rw[List.take_of_length_le]
 rw[List.length_drop,Array.length_toList]
 exact Nat.le_refl _
theorem zyd{a:Array Keyed}{i k:Nat}:(a.extract i (i+k)).toList=(a.toList.drop i).take k:=by
 rw[Array.toList_extract,List.extract_eq_drop_take,Nat.add_sub_cancel_left]
theorem ze5{a:Array Keyed}{i:Nat}{p:Keyed}(h:a[i]?=some p):(a.toList.drop i).take 1=[p]:=by
 have hi:i<a.toList.length:=by
  rw[Array.length_toList];exact(Array.getElem?_eq_some_iff.mp h).1
 have e:a.toList[i]=p:=by
  obtain⟨h1,h2⟩:=Array.getElem?_eq_some_iff.mp h
  rw[←h2];exact Array.getElem_toList h1
 rw[List.drop_eq_getElem_cons hi,e];rfl
theorem zsc{a:Array Keyed}{i:Nat}{p:Keyed}(h:a[i]?=some p):p∈a.toList:=by
 obtain⟨h1,h2⟩:=Array.getElem?_eq_some_iff.mp h
 rw[←h2];exact Array.getElem_mem_toList h1
theorem MI.one{a b out:Array Keyed}{ia ib:Nat}{p:Keyed}(hA:a.toList.Pairwise kle)(m:MI a.toList b.toList out.toList ia ib)(hp:a[ia]?=some p)(hx:∀y∈b.toList.drop ib,kle p y):
  MI a.toList b.toList (out.push p).toList (ia+1) ib:=by
 have:=m.more hA 1 (by rw[ze5 hp];intro x ad y hy;rw[List.mem_singleton.mp ad];exact hx y hy)
 rw[ze5 hp] at this
 rwa [Array.toList_push]
theorem MI.blk{a b out:Array Keyed}{ia ib k:Nat}(hA:a.toList.Pairwise kle)(m:MI a.toList b.toList out.toList ia ib)(hx:∀x∈(a.toList.drop ia).take k,∀y∈b.toList.drop ib,kle x y):
  MI a.toList b.toList (out++a.extract ia (ia+k)).toList (ia+k) ib:=by
 rw[Array.toList_append,zyd]
 exact m.more hA k hx
theorem MI.doneA{a b out:Array Keyed}{ia ib:Nat}(hA:a.toList.Pairwise kle)(m:MI a.toList b.toList out.toList ia ib)(hb:b.size≤ib):
  SP a.toList b.toList (out++a.extract ia a.size++b.extract ib b.size).toList:=by
 rw[Array.toList_append,Array.toList_append,zgw,zgw]
 exact m.done hA hb
theorem MI.doneB{a b out:Array Keyed}{ia ib:Nat}(hB:b.toList.Pairwise kle)(m:MI a.toList b.toList out.toList ia ib)(ha:a.size≤ia):
  SP a.toList b.toList (out++a.extract ia a.size++b.extract ib b.size).toList:=by
 rw[Array.toList_append,Array.toList_append,zgw,zgw,List.drop_of_length_le (l:=a.toList) (by rw[Array.length_toList];exact ha),List.append_nil]
 have h:=m.swap.done hB (by rw[Array.length_toList];exact ha)
 rw[List.drop_of_length_le (l:=a.toList) (by rw[Array.length_toList];exact ha),List.append_nil] at h
 exact⟨h.1.trans List.perm_append_comm,h.2⟩
theorem MI.lastA{a b out:Array Keyed}{ia ib:Nat}(hA:a.toList.Pairwise kle)(hB:b.toList.Pairwise kle)(m:MI a.toList b.toList out.toList ia ib)(hx:∀x∈b.toList,∀y∈a.toList.drop ia,kle x y):
  SP a.toList b.toList (out++b.extract ib b.size++a.extract ia a.size).toList:=by
 rw[Array.toList_append,Array.toList_append,zgw,zgw]
 exact m.last hA hB fun x h=>hx x (List.mem_of_mem_drop h)
theorem MI.lastE{a b out:Array Keyed}{ia ib:Nat}(hA:a.toList.Pairwise kle)(hB:b.toList.Pairwise kle)(m:MI a.toList b.toList out.toList ia ib)(e:ia+1=a.size)
  (hx:∀x∈b.toList,∀y∈a.toList.drop (a.size-1),kle x y):SP a.toList b.toList (out++b.extract ib b.size++a.extract ia a.size).toList:=
 m.lastA hA hB (by rw[show ia=a.size-1 by omega];exact hx)
section
variable {prog : Program} {w : World} {A : Around} {E : Value → Shared → Prop} {s : Shared}
theorem zat{α:Type}{c:Prop}[Decidable c]{t e:StateT SortSt Sem α}{Q:α→SortSt→Prop}{st:SortSt}(h1:c→wpS (model prog w) A E s t Q st)(h2:¬c→wpS (model prog w) A E s e Q st):
  wpS (model prog w) A E s (if c then t else e) Q st:=by
 by_cases hc:c
 ·rw[if_pos hc];exact h1 hc
 ·rw[if_neg hc];exact h2 hc
abbrev ze9(st:SortSt)(g:Nat):SortSt:=SortSt.mk' (kindOf st) (arrOf st) (pendingOf st) g (failedOf st)
theorem zmt{a b:Array Keyed}{i j:Nat}{p q:Keyed}(hB:b.toList.Pairwise kle)(hq:b[j]?=some q)(h:kle p q):∀y∈b.toList.drop j,kle p y:=by
 intro y hy
 obtain⟨h1,h2⟩:=Array.getElem?_eq_some_iff.mp hq
 have hi:j<b.toList.length:=by rw[Array.length_toList];exact h1
 have e:b.toList[j]=q:=by rw[←h2];exact Array.getElem_toList h1
 have hd:=hB.sublist (List.drop_sublist j b.toList)
 rw[List.drop_eq_getElem_cons hi,e] at hy hd
 rcases List.mem_cons.mp hy with z|z
 ·rw[z];exact h
 ·exact zli h ((List.pairwise_cons.mp hd).1 y z)
theorem zsy{a:Array Keyed}(hA:a.toList.Pairwise kle){i j:Nat}(hij:i≤j)(hj:j<a.size):K a i≤K a j:=by
 have hi:i<a.size:=by omega
 rw[zc2 (Array.getElem?_eq_getElem hi),zc2 (Array.getElem?_eq_getElem hj)]
 by_cases e:i=j
 ·subst e;exact Int.le_refl _
 ·have:=List.pairwise_iff_getElem.mp hA i j (by rw[Array.length_toList];exact hi) (by rw[Array.length_toList];exact hj) (by omega)
  rw[Array.getElem_toList,Array.getElem_toList] at this
  exact this
theorem zf3{a:Array Keyed}{i:Nat}{x:Keyed}(h:x∈a.toList.drop i):∃j,i≤j∧j<a.size∧a[j]?=some x:=by
 obtain⟨j,hj,e⟩:=List.mem_iff_getElem.mp h
 rw[List.length_drop,Array.length_toList] at hj
 rw[List.getElem_drop,Array.getElem_toList] at e
 exact⟨i+j,by omega,by omega,by rw[Array.getElem?_eq_getElem (by omega),e]⟩
theorem zen{a:Array Keyed}{i k:Nat}{x:Keyed}(h:x∈(a.toList.drop i).take k):∃j,j<k∧i+j<a.size∧a[i+j]?=some x:=by
 obtain⟨j,hj,e⟩:=List.mem_iff_getElem.mp h
 rw[List.length_take,List.length_drop,Array.length_toList] at hj
 rw[List.getElem_take,List.getElem_drop,Array.getElem_toList] at e
 exact⟨j,by omega,by omega,by rw[Array.getElem?_eq_getElem (by omega),e]⟩
theorem zkj{q:Keyed}{a:Array Keyed}{i j:Nat}{x:Keyed}(h:gp false q a i j=true)(hx:a[i+j]?=some x):kle x q:=by
 unfold gp at h;rw[zc2 hx] at h
 simp at h;exact h
theorem zio{q:Keyed}{a:Array Keyed}{i j:Nat}{x:Keyed}(h:gp false q a i j=false)(hx:a[i+j]?=some x):kle q x:=by
 unfold gp at h;rw[zc2 hx] at h
 simp at h;exact Int.le_of_lt h
theorem zml{q:Keyed}{a:Array Keyed}{i j:Nat}{x:Keyed}(h:gp true q a i j=true)(hx:a[i+j]?=some x):kle x q:=by
 unfold gp at h;rw[zc2 hx] at h
 simp at h;exact Int.le_of_lt h
theorem zks{q:Keyed}{a:Array Keyed}{i j:Nat}{x:Keyed}(h:gp true q a i j=false)(hx:a[i+j]?=some x):kle q x:=by
 unfold gp at h;rw[zc2 hx] at h
 simp at h;exact h
structure MV(a b out:Array Keyed)(ia ib:Nat):Prop where
 m:MI a.toList b.toList out.toList ia ib
 ha:ia+2≤a.size
 hb:ib<b.size
theorem zo8{st:SortSt}{a b:Array Keyed}{Q:Array Keyed→SortSt→Prop}(hk:kindOf st=oneType')(iA:∀x∈a.toList,zg5 x)(iB:∀x∈b.toList,zg5 x)
  (hA:a.toList.Pairwise kle) (hB:b.toList.Pairwise kle) (na:0<a.size) (nb:0<b.size)
  (hb0:∀x∈b.toList.take 1,∀y∈a.toList,kle x y) (hla:∀x∈b.toList,∀y∈a.toList.drop (a.size-1),kle x y)
  (h:∀r g,SP a.toList b.toList r.toList→Q r (ze9 st g)):
  wpS (model prog w) A E s (zsk a b) Q st:=by
 refine wpS_bind (wpS_lift (wpAny_rule ⟨rfl,?_⟩))
 refine wpS_bind (zbd (Array.getElem?_eq_getElem nb) ?_)
 have m0:MI a.toList b.toList (#[b[0]]:Array Keyed).toList 0 1:=by
  have z:MI b.toList a.toList (#[]:Array Keyed).toList 0 0:=⟨List.Perm.refl _,List.Pairwise.nil,nofun,nofun⟩
  exact(z.one hB (Array.getElem?_eq_getElem nb) (fun y hy=>hb0 _ (by have:=ze5 (Array.getElem?_eq_getElem nb);rw[List.drop_zero] at this;rw[this];exact List.mem_singleton.mpr rfl) y hy)).swap
 have pA:∀{i},i<a.size→∃p,a[i]?=some p∧zg5 p:=fun hi=>⟨_,Array.getElem?_eq_getElem hi,iA _ (Array.getElem_mem_toList hi)⟩
 have pB:∀{i},i<b.size→∃p,b[i]?=some p∧zg5 p:=fun hi=>⟨_,Array.getElem?_eq_getElem hi,iB _ (Array.getElem_mem_toList hi)⟩
 refine zat (fun c1=>wpS_pure (h _ (gallopOf st) (m0.doneA hA (Nat.le_of_eq (beq_iff_eq.mp c1).symm)))) (fun c1=>?_)
 refine zat (fun c2=>wpS_pure (h _ (gallopOf st) (m0.lastE hA hB (beq_iff_eq.mp c2) hla))) (fun c2=>?_)
 replace c1:1≠b.size:=fun z=>c1 (beq_iff_eq.mpr z)
 replace c2:0+1≠a.size:=fun z=>c2 (beq_iff_eq.mpr z)
 refine wpS_bind (wpS_get ?_)
 refine wpS_bind (wpS_mono (wpS_forRange
  (I:=fun x c ae=>(∃g,ze9 st g=ae)∧∃ad ia ib mg,c=(none,ad,ia,ib,mg)∧MV a b ad ia ib∧x+1≤ia+ib)
  (Q:=fun c ae=>(∃g,ze9 st g=ae)∧∃r rest,c=(some r,rest)∧SP a.toList b.toList r.toList)
  ?_ ?_ ⟨⟨gallopOf st,rfl⟩,_,0,1,_,rfl,⟨m0,by omega,by omega⟩,by omega⟩) ?_)
 ·rintro x0 c ae _ az ⟨⟨g,rfl⟩,ad,ia,ib,mg,rfl,v,hx⟩
  refine wpS_bind (wpS_mono (wpS_forRange
   (I:=fun x c ae=>ze9 st g=ae∧∃ad ia ib ac bc,c=(none,ad,ia,ib,ac,bc)∧MV a b ad ia ib∧x0+1+x≤ia+ib)
   (Q:=fun c ae=>ze9 st g=ae∧((∃r rest,c=(some r,rest)∧SP a.toList b.toList r.toList)∨∃ad ia ib ac bc,c=(none,ad,ia,ib,ac,bc)∧MV a b ad ia ib∧x0+2≤ia+ib))
   ?_ ?_ ⟨rfl,ad,ia,ib,0,0,rfl,v,by omega⟩) ?_)
  ·rintro x c ae _ aw ⟨rfl,ad,ia,ib,ac,bc,rfl,v,hx⟩
   obtain⟨p,hp,ip⟩:=pA (show ia<a.size by have:=v.ha;omega)
   obtain⟨q,hq,iq⟩:=pB v.hb
   refine wpS_bind (zbd hq (wpS_bind (zbd hp (wpS_bind (zkq hk iq ip ?_)))))
   dsimp only
   have va:=v.ha
   have vb:=v.hb
   refine zat (fun c3=>?_) (fun c3=>?_)
   ·have ah:kle q p:=Int.le_of_lt (of_decide_eq_true c3)
    have m2:=(v.m.swap.one hB hq (zmt (a:=b) (i:=ib) hA hp ah)).swap
    refine wpS_bind (zbd hq ?_)
    refine zat (fun c4=>wpS_pure ⟨rfl,.inl ⟨_,_,rfl,m2.doneA hA (Nat.le_of_eq (beq_iff_eq.mp c4).symm)⟩⟩) (fun c4=>?_)
    have ag:ib+1≠b.size:=fun z=>c4 (beq_iff_eq.mpr z)
    exact zat (fun c5=>wpS_pure ⟨rfl,.inr ⟨_,_,_,_,_,rfl,⟨m2,va,by omega⟩,by omega⟩⟩) (fun c5=>wpS_pure ⟨rfl,_,_,_,_,_,rfl,⟨m2,va,by omega⟩,by omega⟩)
   ·have ah:kle p q:=Int.not_lt.mp (fun z=>c3 (decide_eq_true z))
    have m2:=v.m.one hA hp (zmt (a:=a) (i:=ia) hB hq ah)
    refine wpS_bind (zbd hp ?_)
    refine zat (fun c4=>wpS_pure ⟨rfl,.inl ⟨_,_,rfl,m2.lastE hA hB (beq_iff_eq.mp c4) hla⟩⟩) (fun c4=>?_)
    have ag:ia+1+1≠a.size:=fun z=>c4 (beq_iff_eq.mpr z)
    exact zat (fun c5=>wpS_pure ⟨rfl,.inr ⟨_,_,_,_,_,rfl,⟨m2,by omega,vb⟩,by omega⟩⟩) (fun c5=>wpS_pure ⟨rfl,_,_,_,_,_,rfl,⟨m2,by omega,vb⟩,by omega⟩)
  ·rintro c ae ⟨rfl,ad,ia,ib,ac,bc,rfl,v,hx⟩
   have va:=v.ha
   have vb:=v.hb
   omega
  ·rintro c ae ⟨rfl,⟨r,rest,rfl,hr⟩|⟨ad,ia,ib,ac,bc,rfl,v,hx⟩⟩
   ·exact wpS_pure ⟨⟨g,rfl⟩,r,_,rfl,hr⟩
   refine wpS_bind (wpS_lift (wpAny_rule ⟨rfl,?_⟩))
   refine wpS_bind (wpS_mono (wpS_forRange
    (I:=fun x c ae=>(∃g,ze9 st g=ae)∧∃ad ia ib mg ac bc,c=(none,ad,ia,ib,mg,ac,bc)∧MV a b ad ia ib∧x0+2+x≤ia+ib)
    (Q:=fun c ae=>(∃g,ze9 st g=ae)∧((∃r rest,c=(some r,rest)∧SP a.toList b.toList r.toList)∨∃ad ia ib mg ac bc,c=(none,ad,ia,ib,mg,ac,bc)∧MV a b ad ia ib∧x0+2≤ia+ib))
    ?_ ?_ ⟨⟨g,rfl⟩,ad,ia,ib,_,ac,bc,rfl,v,by omega⟩) ?_)
   ·rintro x c ae _ aw ⟨⟨g,rfl⟩,ad,ia,ib,mg,ac,bc,rfl,v,hx⟩
    have va:=v.ha
    have vb:=v.hb
    obtain⟨q,hq,iq⟩:=pB vb
    dsimp (config:={ zeta:=false,zetaHave:=false,zetaUnused:=false }) only
    extract_lets _ _ _ _ _ _ _ _ _ _ _ _ jp
    suffices hj:∀af,wpS (model prog w) A E s (jp () af) _ (ze9 st g) from zat (fun _=>hj _) (fun _=>hj _)
    intro af
    refine wpS_bind (wpS_modify ?_)
    refine wpS_bind (zbd hq ?_)
    refine wpS_bind (zdf (left:=false) (arr:=a) (base:=ia) (n:=a.size-ia) (hint:=0) hk iq (fun i hi=>pA (i:=ia+i) (by omega)) (fun i j au hj=>zsy hA (by omega) (by omega)) (by omega) fun k k1 k2 k3=>?_)
    have ar:∀x∈(a.toList.drop ia).take k,∀y∈b.toList.drop ib,kle x y:=fun x hx y hy=>by
     obtain⟨j,h1,h2,h3⟩:=zen hx
     exact zmt (a:=a) (i:=0) hB hq (zkj (k2 j h1) h3) y hy
    have ak:∀y∈a.toList.drop (ia+k),kle q y:=fun y hy=>by
     obtain⟨j,h1,h2,h3⟩:=zf3 hy
     exact zio (k3 (j-ia) (by omega) (by omega)) (by rw[show ia+(j-ia)=j by omega];exact h3)
    dsimp (config:={ zeta:=false,zetaHave:=false,zetaUnused:=false }) only
    extract_lets _ jp2
    suffices al:∀(o2:Array Keyed)(i2:Nat),MI a.toList b.toList o2.toList i2 ib→i2+2≤a.size→ia≤i2→(∀y∈a.toList.drop i2,kle q y)→wpS (model prog w) A E s (jp2 () o2 i2) _ (ze9 st af) by
     refine zat (fun c3=>?_) (fun c3=>al ad ia v.m va (Nat.le_refl _) (by rw[show ia=ia+k by omega];exact ak))
     have m2:=v.m.blk hA ar
     refine zat (fun c4=>wpS_pure ⟨⟨af,rfl⟩,.inl ⟨_,_,rfl,m2.lastE hA hB (beq_iff_eq.mp c4) hla⟩⟩) (fun c4=>?_)
     refine zat (fun c5=>wpS_pure ⟨⟨af,rfl⟩,.inl ⟨_,_,rfl,m2.doneB hB (Nat.le_of_eq (beq_iff_eq.mp c5).symm)⟩⟩) (fun c5=>?_)
     have ag:ia+k+1≠a.size:=fun z=>c4 (beq_iff_eq.mpr z)
     have aj:ia+k≠a.size:=fun z=>c5 (beq_iff_eq.mpr z)
     exact al _ (ia+k) m2 (by omega) (by omega) ak
    intro o2 i2 m2 ay aA ax
    obtain⟨p,hp,ip⟩:=pA (show i2<a.size by omega)
    refine wpS_bind (zbd hq ?_)
    have m3:=(m2.swap.one hB hq ax).swap
    refine zat (fun c4=>wpS_pure ⟨⟨af,rfl⟩,.inl ⟨_,_,rfl,m3.doneA hA (Nat.le_of_eq (beq_iff_eq.mp c4).symm)⟩⟩) (fun c4=>?_)
    have ag:ib+1≠b.size:=fun z=>c4 (beq_iff_eq.mpr z)
    refine wpS_bind (zbd hp ?_)
    refine wpS_bind (zdf (left:=true) (arr:=b) (base:=ib+1) (n:=b.size-(ib+1)) (hint:=0) hk ip (fun i hi=>pB (i:=ib+1+i) (by omega)) (fun i j au hj=>zsy hB (by omega) (by omega)) (by omega) fun k' l1 l2 l3=>?_)
    have aq:∀x∈(b.toList.drop (ib+1)).take k',∀y∈a.toList.drop i2,kle x y:=fun x hx y hy=>by
     obtain⟨j,h1,h2,h3⟩:=zen hx
     exact zmt (a:=a) (i:=0) hA hp (zml (l2 j h1) h3) y hy
    have am:∀y∈b.toList.drop (ib+1+k'),kle p y:=fun y hy=>by
     obtain⟨j,h1,h2,h3⟩:=zf3 hy
     exact zks (l3 (j-(ib+1)) (by omega) (by omega)) (by rw[show ib+1+(j-(ib+1))=j by omega];exact h3)
    dsimp (config:={ zeta:=false,zetaHave:=false,zetaUnused:=false }) only
    extract_lets _ _ jp3
    suffices ao:∀(o3:Array Keyed)(i3:Nat),MI a.toList b.toList o3.toList i2 i3→i3<b.size→ib+1≤i3→(∀y∈b.toList.drop i3,kle p y)→wpS (model prog w) A E s (jp3 () o3 i3) _ (ze9 st af) by
     refine zat (fun c3=>?_) (fun c3=>ao _ (ib+1) m3 (by omega) (Nat.le_refl _) (by rw[show ib+1=ib+1+k' by omega];exact am))
     have m4:=(m3.swap.blk hB aq).swap
     refine zat (fun c5=>wpS_pure ⟨⟨af,rfl⟩,.inl ⟨_,_,rfl,m4.doneA hA (Nat.le_of_eq (beq_iff_eq.mp c5).symm)⟩⟩) (fun c5=>?_)
     have aj:ib+1+k'≠b.size:=fun z=>c5 (beq_iff_eq.mpr z)
     exact ao _ (ib+1+k') m4 (by omega) (by omega) am
    intro o3 i3 m4 ai ap av
    refine wpS_bind (zbd hp ?_)
    have m5:=m4.one hA hp av
    refine zat (fun c5=>wpS_pure ⟨⟨af,rfl⟩,.inl ⟨_,_,rfl,m5.lastE hA hB (beq_iff_eq.mp c5) hla⟩⟩) (fun c5=>?_)
    have aj:i2+1+1≠a.size:=fun z=>c5 (beq_iff_eq.mpr z)
    exact zat (fun c6=>wpS_pure ⟨⟨af,rfl⟩,.inr ⟨_,_,_,_,_,_,rfl,⟨m5,by omega,ai⟩,by omega⟩⟩) (fun c6=>wpS_pure ⟨⟨af,rfl⟩,_,_,_,_,_,_,rfl,⟨m5,by omega,ai⟩,by omega⟩)
   ·rintro c ae ⟨⟨g,rfl⟩,ad,ia,ib,mg,ac,bc,rfl,v,hx⟩
    have va:=v.ha
    have vb:=v.hb
    omega
   ·rintro c ae ⟨⟨g,rfl⟩,⟨r,rest,rfl,hr⟩|⟨ad,ia,ib,mg,ac,bc,rfl,v,hx⟩⟩
    ·exact wpS_pure ⟨⟨g,rfl⟩,r,_,rfl,hr⟩
    ·exact wpS_bind (wpS_modify (wpS_pure ⟨⟨_,rfl⟩,_,_,_,_,rfl,v,by omega⟩))
 ·rintro c ae ⟨⟨g,rfl⟩,ad,ia,ib,mg,rfl,v,hx⟩
  have va:=v.ha
  have vb:=v.hb
  omega
 ·rintro c ae ⟨⟨g,rfl⟩,r,rest,rfl,hr⟩
  exact wpS_pure (h r g hr)
end
structure MH(A B out:List Keyed)(na nb:Nat):Prop where
 perm:out.Perm (A.drop na++B.drop nb)
 srt:out.Pairwise fun x y=>kle y x
 la:∀x∈out,∀y∈A.take na,kle y x
 lb:∀x∈out,∀y∈B.take nb,kle y x
theorem MH.swap{A B out:List Keyed}{na nb:Nat}(m:MH A B out na nb):MH B A out nb na:=
 ⟨m.perm.trans List.perm_append_comm,m.srt,m.lb,m.la⟩
theorem MH.more{A B out:List Keyed}{na nb:Nat}(hA:A.Pairwise kle)(m:MH A B out na nb){k:Nat}(hk:k≤na)(hn:na≤A.length)(hx:∀x∈(A.take na).drop k,∀y∈B.take nb,kle y x):
    MH A B (out++((A.take na).drop k).reverse) k nb:=by
  have hd:(A.take na).Pairwise kle:=hA.sublist (List.take_sublist _ _)
  have hs:((A.take na).take k++(A.take na).drop k).Pairwise kle:=by rw[List.take_append_drop];exact hd
  obtain⟨p1,p2,p3⟩:=List.pairwise_append.mp hs
  rw[List.take_take,Nat.min_eq_left hk] at p3
  have ed:A.drop k=(A.take na).drop k++A.drop na:=by
    conv=>lhs;rw[←List.take_append_drop na A]
    rw[List.drop_append_of_le_length (by rw[List.length_take];omega)]
  refine⟨?_,List.pairwise_append.mpr ⟨m.srt,List.pairwise_reverse.mpr p2,fun x h y g=>m.la x h y (List.mem_of_mem_drop (List.mem_reverse.mp g))⟩,fun x h y g=>?_,fun x h y g=>?_⟩
  · rw[ed]
    refine(List.Perm.append m.perm (List.reverse_perm _)).trans ?_
    refine List.perm_append_comm.trans ?_
    rw[List.append_assoc]
  · rcases List.mem_append.mp h with z|z
    · exact m.la x z y (by have:A.take k=(A.take na).take k:=by rw[List.take_take,Nat.min_eq_left hk]
                           rw[this] at g;exact List.mem_of_mem_take g)
    · exact p3 y g x (List.mem_reverse.mp z)
  · rcases List.mem_append.mp h with z|z
    · exact m.lb x z y g
    · exact hx x (List.mem_reverse.mp z) y g
theorem MH.fin{A B out:List Keyed}(m:MH A B out 0 0):SP A B out.reverse:=
 ⟨(List.reverse_perm _).trans m.perm,List.pairwise_reverse.mpr m.srt⟩
theorem MH.allA{A B out:List Keyed}{na:Nat}(hA:A.Pairwise kle)(m:MH A B out na 0)(hn:na≤A.length):SP A B (A.take na++out.reverse):=by
 have h:=(m.more hA (Nat.zero_le _) hn (fun x _ y g=>by rw[List.take_zero] at g;cases g)).fin
 rwa [List.drop_zero,List.reverse_append,List.reverse_reverse] at h
theorem MH.allB{A B out:List Keyed}{nb:Nat}(hB:B.Pairwise kle)(m:MH A B out 0 nb)(hn:nb≤B.length):SP A B (B.take nb++out.reverse):=by
 have h:=m.swap.allA hB hn
 exact⟨h.1.trans List.perm_append_comm,h.2⟩
theorem MH.first{A B out:List Keyed}{na nb:Nat}(hA:A.Pairwise kle)(hB:B.Pairwise kle)(m:MH A B out na nb)(ha:na≤A.length)(hb:nb≤B.length)(hx:∀x∈B.take nb,∀y∈A.take na,kle x y):
  SP A B (B.take nb++A.take na++out.reverse):=by
 have h:=(m.more hA (Nat.zero_le _) ha (fun x g y g2=>hx y g2 x (by rwa [List.drop_zero] at g))).allB hB hb
 rwa [List.drop_zero,List.reverse_append,List.reverse_reverse,←List.append_assoc] at h
theorem zru{a:Array Keyed}{k:Nat}:(a.extract 0 k).toList=a.toList.take k:=by
 rw[Array.toList_extract,List.extract_eq_drop_take,List.drop_zero,Nat.sub_zero]
theorem zme{a:Array Keyed}{i k:Nat}:(a.extract i k).toList=(a.toList.take k).drop i:=by
 rw[Array.toList_extract,List.extract_eq_drop_take,List.drop_take]
theorem zlg{a:Array Keyed}{n:Nat}{p:Keyed}(h:a[n-1]?=some p)(hn:0<n)(hs:n≤a.size):(a.toList.take n).drop (n-1)=[p]:=by
 have:=ze5 h
 rw[List.drop_take,show n-(n-1)=1 by omega]
 exact this
theorem MH.one{a b out:Array Keyed}{na nb:Nat}{p:Keyed}(hA:a.toList.Pairwise kle)(m:MH a.toList b.toList out.toList na nb)(hp:a[na-1]?=some p)(hn:0<na)(hs:na≤a.size)(hx:∀y∈b.toList.take nb,kle y p):
  MH a.toList b.toList (out.push p).toList (na-1) nb:=by
 have:=m.more hA (k:=na-1) (by omega) (by rw[Array.length_toList];exact hs) (by rw[zlg hp hn hs];intro x ad y hy;rw[List.mem_singleton.mp ad];exact hx y hy)
 rw[zlg hp hn hs] at this
 rwa [Array.toList_push]
theorem MH.blk{a b out:Array Keyed}{na nb k:Nat}(hA:a.toList.Pairwise kle)(m:MH a.toList b.toList out.toList na nb)(hk:k≤na)(hs:na≤a.size)(hx:∀x∈(a.toList.take na).drop k,∀y∈b.toList.take nb,kle y x):
  MH a.toList b.toList (out++(a.extract k na).reverse).toList k nb:=by
 rw[Array.toList_append,Array.toList_reverse,zme]
 exact m.more hA hk (by rw[Array.length_toList];exact hs) hx
theorem MH.done0{a b out:Array Keyed}{na nb:Nat}(hA:a.toList.Pairwise kle)(m:MH a.toList b.toList out.toList na nb)(e:nb=0)(hs:na≤a.size):
  SP a.toList b.toList (a.extract 0 na++b.extract 0 nb++out.reverse).toList:=by
 subst e
 rw[Array.toList_append,Array.toList_append,Array.toList_reverse,zru,zru,List.take_zero,List.append_nil]
 exact m.allA hA (by rw[Array.length_toList];exact hs)
theorem MH.doneZ{a b out:Array Keyed}{na nb:Nat}(hB:b.toList.Pairwise kle)(m:MH a.toList b.toList out.toList na nb)(e:na=0)(hs:nb≤b.size):
  SP a.toList b.toList (a.extract 0 na++b.extract 0 nb++out.reverse).toList:=by
 subst e
 rw[Array.toList_append,Array.toList_append,Array.toList_reverse,zru,zru,List.take_zero,List.nil_append]
 exact m.allB hB (by rw[Array.length_toList];exact hs)
theorem MH.firstB{a b out:Array Keyed}{na nb:Nat}(hA:a.toList.Pairwise kle)(hB:b.toList.Pairwise kle)(m:MH a.toList b.toList out.toList na nb)(e:nb=1)(ha:na≤a.size)(hb:0<b.size)
  (hx:∀x∈b.toList.take 1,∀y∈a.toList,kle x y):SP a.toList b.toList (b.extract 0 nb++a.extract 0 na++out.reverse).toList:=by
 subst e
 rw[Array.toList_append,Array.toList_append,Array.toList_reverse,zru,zru]
 exact m.first hA hB (by rw[Array.length_toList];exact ha) (by rw[Array.length_toList];exact hb) fun x h y g=>hx x h y (List.mem_of_mem_take g)
theorem zff{a:Array Keyed}{n:Nat}{x:Keyed}(h:x∈a.toList.take n):∃j,j<n∧j<a.size∧a[j]?=some x:=by
 obtain⟨j,h1,h2,h3⟩:=zen (i:=0) (k:=n) (by rw[List.drop_zero];exact h)
 rw[Nat.zero_add] at h2 h3
 exact⟨j,h1,h2,h3⟩
theorem zft{a:Array Keyed}{n k:Nat}{x:Keyed}(h:x∈(a.toList.take n).drop k):∃j,k≤j∧j<n∧j<a.size∧a[j]?=some x:=by
 rw[List.drop_take] at h
 obtain⟨j,h1,h2,h3⟩:=zen h
 exact⟨k+j,by omega,by omega,h2,h3⟩
theorem zl6{b:Array Keyed}{n:Nat}{p q:Keyed}(hB:b.toList.Pairwise kle)(hq:b[n-1]?=some q)(h:kle q p)(hn:n≤b.size)(h0:0<n):∀y∈b.toList.take n,kle y p:=by
 intro y hy
 obtain⟨j,h1,h2,h3⟩:=zff hy
 have:=zsy hB (i:=j) (j:=n-1) (by omega) (by omega)
 rw[zc2 h3,zc2 hq] at this
 exact zli this h
structure MW(a b out:Array Keyed)(na nb:Nat):Prop where
 m:MH a.toList b.toList out.toList na nb
 a1:1≤na
 a2:na≤a.size
 b1:2≤nb
 b2:nb≤b.size
section
variable {prog : Program} {w : World} {A : Around} {E : Value → Shared → Prop} {s : Shared}
theorem zn7{st:SortSt}{a b:Array Keyed}{Q:Array Keyed→SortSt→Prop}(hk:kindOf st=oneType')(iA:∀x∈a.toList,zg5 x)(iB:∀x∈b.toList,zg5 x)
  (hA:a.toList.Pairwise kle) (hB:b.toList.Pairwise kle) (na0:0<a.size) (nb0:0<b.size)
  (hb0:∀x∈b.toList.take 1,∀y∈a.toList,kle x y) (hla:∀x∈b.toList,∀y∈a.toList.drop (a.size-1),kle x y)
  (h:∀r g,SP a.toList b.toList r.toList→Q r (ze9 st g)):
  wpS (model prog w) A E s (ztl a b) Q st:=by
 have pA:∀{i},i<a.size→∃p,a[i]?=some p∧zg5 p:=fun hi=>⟨_,Array.getElem?_eq_getElem hi,iA _ (Array.getElem_mem_toList hi)⟩
 have pB:∀{i},i<b.size→∃p,b[i]?=some p∧zg5 p:=fun hi=>⟨_,Array.getElem?_eq_getElem hi,iB _ (Array.getElem_mem_toList hi)⟩
 obtain⟨z,hz,iz⟩:=pA (show a.size-1<a.size by omega)
 refine wpS_bind (wpS_lift (wpAny_rule ⟨rfl,?_⟩))
 refine wpS_bind (zbd hz ?_)
 have m0:MH a.toList b.toList (#[z]:Array Keyed).toList (a.size-1) b.size:=by
  have e:MH a.toList b.toList (#[]:Array Keyed).toList a.size b.size:=⟨by rw[List.drop_of_length_le (Nat.le_of_eq Array.length_toList),List.drop_of_length_le (Nat.le_of_eq Array.length_toList)];exact List.Perm.refl _,List.Pairwise.nil,nofun,nofun⟩
  exact e.one hA hz na0 (Nat.le_refl _) fun y hy=>hla y (List.mem_of_mem_take hy) z (List.mem_of_mem_take (i:=1) (by rw[ze5 hz];exact List.mem_singleton.mpr rfl))
 refine zat (fun c1=>wpS_pure (h _ (gallopOf st) (m0.doneZ hB (beq_iff_eq.mp c1) (Nat.le_refl _)))) (fun c1=>?_)
 refine zat (fun c2=>wpS_pure (h _ (gallopOf st) (m0.firstB hA hB (beq_iff_eq.mp c2) (by omega) nb0 hb0))) (fun c2=>?_)
 replace c1:a.size-1≠0:=fun z=>c1 (beq_iff_eq.mpr z)
 replace c2:b.size≠1:=fun z=>c2 (beq_iff_eq.mpr z)
 refine wpS_bind (wpS_get ?_)
 refine wpS_bind (wpS_mono (wpS_forRange
  (I:=fun x c ae=>(∃g,ze9 st g=ae)∧∃na nb ad mg,c=(none,na,nb,ad,mg)∧MW a b ad na nb∧x+1+na+nb≤a.size+b.size)
  (Q:=fun c ae=>(∃g,ze9 st g=ae)∧∃r rest,c=(some r,rest)∧SP a.toList b.toList r.toList)
  ?_ ?_ ⟨⟨gallopOf st,rfl⟩,_,_,_,_,rfl,⟨m0,by omega,by omega,by omega,by omega⟩,by omega⟩) ?_)
 ·rintro x0 c ae _ az ⟨⟨g,rfl⟩,na,nb,ad,mg,rfl,v,hx⟩
  refine wpS_bind (wpS_mono (wpS_forRange
   (I:=fun x c ae=>ze9 st g=ae∧∃na nb ad ac bc,c=(none,na,nb,ad,ac,bc)∧MW a b ad na nb∧x0+1+x+na+nb≤a.size+b.size)
   (Q:=fun c ae=>ze9 st g=ae∧((∃r rest,c=(some r,rest)∧SP a.toList b.toList r.toList)∨∃na nb ad ac bc,c=(none,na,nb,ad,ac,bc)∧MW a b ad na nb∧x0+2+na+nb≤a.size+b.size))
   ?_ ?_ ⟨rfl,na,nb,ad,0,0,rfl,v,by omega⟩) ?_)
  ·rintro x c ae _ ax ⟨rfl,na,nb,ad,ac,bc,rfl,v,hx⟩
   obtain⟨vm,a1,a2,b1,b2⟩:=v
   obtain⟨p,hp,ip⟩:=pA (show na-1<a.size by omega)
   obtain⟨q,hq,iq⟩:=pB (show nb-1<b.size by omega)
   refine wpS_bind (zbd hq (wpS_bind (zbd hp (wpS_bind (zkq hk iq ip ?_)))))
   dsimp only
   refine zat (fun c3=>?_) (fun c3=>?_)
   ·have ag:kle q p:=Int.le_of_lt (of_decide_eq_true c3)
    have m2:=vm.one hA hp a1 a2 (zl6 hB hq ag b2 (by omega))
    refine wpS_bind (zbd hp ?_)
    refine zat (fun c4=>wpS_pure ⟨rfl,.inl ⟨_,_,rfl,m2.doneZ hB (beq_iff_eq.mp c4) b2⟩⟩) (fun c4=>?_)
    have ai:na-1≠0:=fun z=>c4 (beq_iff_eq.mpr z)
    exact zat (fun c5=>wpS_pure ⟨rfl,.inr ⟨_,_,_,_,_,rfl,⟨m2,by omega,by omega,b1,b2⟩,by omega⟩⟩) (fun c5=>wpS_pure ⟨rfl,_,_,_,_,_,rfl,⟨m2,by omega,by omega,b1,b2⟩,by omega⟩)
   ·have ag:kle p q:=Int.not_lt.mp (fun z=>c3 (decide_eq_true z))
    have m2:=(vm.swap.one hB hq (by omega) b2 (zl6 hA hp ag a2 a1)).swap
    refine wpS_bind (zbd hq ?_)
    refine zat (fun c4=>wpS_pure ⟨rfl,.inl ⟨_,_,rfl,m2.firstB hA hB (beq_iff_eq.mp c4) a2 nb0 hb0⟩⟩) (fun c4=>?_)
    have ai:nb-1≠1:=fun z=>c4 (beq_iff_eq.mpr z)
    exact zat (fun c5=>wpS_pure ⟨rfl,.inr ⟨_,_,_,_,_,rfl,⟨m2,a1,a2,by omega,by omega⟩,by omega⟩⟩) (fun c5=>wpS_pure ⟨rfl,_,_,_,_,_,rfl,⟨m2,a1,a2,by omega,by omega⟩,by omega⟩)
  ·rintro c ae ⟨rfl,na,nb,ad,ac,bc,rfl,⟨vm,a1,a2,b1,b2⟩,hx⟩
   omega
  ·rintro c ae ⟨rfl,⟨r,rest,rfl,hr⟩|⟨na,nb,ad,ac,bc,rfl,v,hx⟩⟩
   ·exact wpS_pure ⟨⟨g,rfl⟩,r,_,rfl,hr⟩
   refine wpS_bind (wpS_lift (wpAny_rule ⟨rfl,?_⟩))
   refine wpS_bind (wpS_mono (wpS_forRange
    (I:=fun x c ae=>(∃g,ze9 st g=ae)∧∃na nb ad mg ac bc,c=(none,na,nb,ad,mg,ac,bc)∧MW a b ad na nb∧x0+2+x+na+nb≤a.size+b.size)
    (Q:=fun c ae=>(∃g,ze9 st g=ae)∧((∃r rest,c=(some r,rest)∧SP a.toList b.toList r.toList)∨∃na nb ad mg ac bc,c=(none,na,nb,ad,mg,ac,bc)∧MW a b ad na nb∧x0+2+na+nb≤a.size+b.size))
    ?_ ?_ ⟨⟨g,rfl⟩,na,nb,ad,_,ac,bc,rfl,v,by omega⟩) ?_)
   ·rintro x c ae _ ax ⟨⟨g,rfl⟩,na,nb,ad,mg,ac,bc,rfl,⟨vm,a1,a2,b1,b2⟩,hx⟩
    obtain⟨q,hq,iq⟩:=pB (show nb-1<b.size by omega)
    dsimp (config:={ zeta:=false,zetaHave:=false,zetaUnused:=false }) only
    extract_lets _ _ _ _ _ _ _ _ _ _ _ _ jp
    suffices hj:∀af,wpS (model prog w) A E s (jp () af) _ (ze9 st g) from zat (fun _=>hj _) (fun _=>hj _)
    intro af
    refine wpS_bind (wpS_modify ?_)
    refine wpS_bind (zbd hq ?_)
    refine wpS_bind (zdf (left:=false) (arr:=a) (base:=0) (n:=na) (hint:=na-1) hk iq (fun i hi=>by rw[Nat.zero_add];exact pA (i:=i) (by omega)) (fun i j ah hj=>by rw[Nat.zero_add,Nat.zero_add];exact zsy hA ah (by omega)) (by omega) fun k k1 k2 k3=>?_)
    have av:∀x∈(a.toList.take na).drop k,∀y∈b.toList.take nb,kle y x:=fun x hx y hy=>by
     obtain⟨j,h1,h2,h3,h4⟩:=zft hx
     exact zl6 hB hq (zio (k3 j h1 h2) (by rw[Nat.zero_add];exact h4)) b2 (by omega) y hy
    have al:∀y∈a.toList.take k,kle y q:=fun y hy=>by
     obtain⟨j,h1,h2,h3⟩:=zff hy
     exact zkj (k2 j h1) (by rw[Nat.zero_add];exact h3)
    dsimp (config:={ zeta:=false,zetaHave:=false,zetaUnused:=false }) only
    extract_lets _ _ jp2
    suffices am:∀(n2:Nat)(o2:Array Keyed),MH a.toList b.toList o2.toList n2 nb→1≤n2→n2≤na→(∀y∈a.toList.take n2,kle y q)→wpS (model prog w) A E s (jp2 () n2 o2) _ (ze9 st af) by
     refine zat (fun c3=>?_) (fun c3=>am na ad vm a1 (Nat.le_refl _) (by have ag:¬(na-k>0):=c3;rw[show na=k by omega];exact al))
     have m2:=vm.blk hA k1 a2 av
     refine zat (fun c4=>wpS_pure ⟨⟨af,rfl⟩,.inl ⟨_,_,rfl,m2.doneZ hB (beq_iff_eq.mp c4) b2⟩⟩) (fun c4=>?_)
     have ai:k≠0:=fun z=>c4 (beq_iff_eq.mpr z)
     exact am k _ m2 (by omega) k1 al
    intro n2 o2 m2 ak aB ay
    obtain⟨p,hp,ip⟩:=pA (show n2-1<a.size by omega)
    refine wpS_bind (zbd hq ?_)
    have m3:=(m2.swap.one hB hq (by omega) b2 ay).swap
    refine zat (fun c4=>wpS_pure ⟨⟨af,rfl⟩,.inl ⟨_,_,rfl,m3.firstB hA hB (beq_iff_eq.mp c4) (by omega) nb0 hb0⟩⟩) (fun c4=>?_)
    have ai:nb-1≠1:=fun z=>c4 (beq_iff_eq.mpr z)
    refine wpS_bind (zbd hp ?_)
    refine wpS_bind (zdf (left:=true) (arr:=b) (base:=0) (n:=nb-1) (hint:=nb-1-1) hk ip (fun i hi=>by rw[Nat.zero_add];exact pB (i:=i) (by omega)) (fun i j ah hj=>by rw[Nat.zero_add,Nat.zero_add];exact zsy hB ah (by omega)) (by omega) fun k' l1 l2 l3=>?_)
    have ar:∀x∈(b.toList.take (nb-1)).drop k',∀y∈a.toList.take n2,kle y x:=fun x hx y hy=>by
     obtain⟨j,h1,h2,h3,h4⟩:=zft hx
     exact zl6 hA hp (zks (l3 j h1 h2) (by rw[Nat.zero_add];exact h4)) (by omega) ak y hy
    have ao:∀y∈b.toList.take k',kle y p:=fun y hy=>by
     obtain⟨j,h1,h2,h3⟩:=zff hy
     exact zml (l2 j h1) (by rw[Nat.zero_add];exact h3)
    dsimp (config:={ zeta:=false,zetaHave:=false,zetaUnused:=false }) only
    extract_lets _ _ _ jp3
    suffices ap:∀(n3:Nat)(o3:Array Keyed),MH a.toList b.toList o3.toList n2 n3→2≤n3→n3≤nb-1→(∀y∈b.toList.take n3,kle y p)→wpS (model prog w) A E s (jp3 () n3 o3) _ (ze9 st af) by
     refine zat (fun c3=>?_) (fun c3=>ap (nb-1) _ m3 (by omega) (Nat.le_refl _) (by have ag:¬(nb-1-k'>0):=c3;rw[show nb-1=k' by omega];exact ao))
     have m4:=(m3.swap.blk hB l1 (by omega) ar).swap
     refine zat (fun c5=>wpS_pure ⟨⟨af,rfl⟩,.inl ⟨_,_,rfl,m4.firstB hA hB (beq_iff_eq.mp c5) (by omega) nb0 hb0⟩⟩) (fun c5=>?_)
     refine zat (fun c6=>wpS_pure ⟨⟨af,rfl⟩,.inl ⟨_,_,rfl,m4.done0 hA (beq_iff_eq.mp c6) (by omega)⟩⟩) (fun c6=>?_)
     have au:k'≠1:=fun z=>c5 (beq_iff_eq.mpr z)
     have aA:k'≠0:=fun z=>c6 (beq_iff_eq.mpr z)
     exact ap k' _ m4 (by omega) l1 ao
    intro n3 o3 m4 aj aq aw
    refine wpS_bind (zbd hp ?_)
    have m5:=m4.one hA hp ak (by omega) aw
    refine zat (fun c5=>wpS_pure ⟨⟨af,rfl⟩,.inl ⟨_,_,rfl,m5.doneZ hB (beq_iff_eq.mp c5) (by omega)⟩⟩) (fun c5=>?_)
    have au:n2-1≠0:=fun z=>c5 (beq_iff_eq.mpr z)
    exact zat (fun c6=>wpS_pure ⟨⟨af,rfl⟩,.inr ⟨_,_,_,_,_,_,rfl,⟨m5,by omega,by omega,aj,by omega⟩,by omega⟩⟩) (fun c6=>wpS_pure ⟨⟨af,rfl⟩,_,_,_,_,_,_,rfl,⟨m5,by omega,by omega,aj,by omega⟩,by omega⟩)
   ·rintro c ae ⟨⟨g,rfl⟩,na,nb,ad,mg,ac,bc,rfl,⟨vm,a1,a2,b1,b2⟩,hx⟩
    omega
   ·rintro c ae ⟨⟨g,rfl⟩,⟨r,rest,rfl,hr⟩|⟨na,nb,ad,mg,ac,bc,rfl,v,hx⟩⟩
    ·exact wpS_pure ⟨⟨g,rfl⟩,r,_,rfl,hr⟩
    ·exact wpS_bind (wpS_modify (wpS_pure ⟨⟨_,rfl⟩,_,_,_,_,rfl,v,by omega⟩))
 ·rintro c ae ⟨⟨g,rfl⟩,na,nb,ad,mg,rfl,⟨vm,a1,a2,b1,b2⟩,hx⟩
  omega
 ·rintro c ae ⟨⟨g,rfl⟩,r,rest,rfl,hr⟩
  exact wpS_pure (h r g hr)
end
def AllI(xs:Array Keyed):Prop:=∀p∈xs.toList,zg5 p
theorem AllI.perm{xs ys:Array Keyed}(h:AllI xs)(hp:ys.Perm xs):AllI ys:=fun p hm=>h p ((Array.perm_iff_toList_perm.mp hp).mem_iff.mp hm)
def zba(xs:Array Keyed)(i j:Nat):Prop:=∀p q,i≤p→p≤q→q<j→K xs p≤K xs q
def zf9(xs:Array Keyed)(at' n:Nat)(l:List Keyed):Array Keyed:=(l.zipIdx n).foldl (fun a (p:Keyed×Nat)=>a.setIfInBounds (at'+p.2) p.1) xs
theorem zhi:∀(l:List Keyed)(xs:Array Keyed)(at' n:Nat),at'+n+l.length≤xs.size→∀k:Nat,
  (zf9 xs at' n l)[k]?=if at'+n≤k∧k<at'+n+l.length then l[k-(at'+n)]? else xs[k]?
 |[],xs,at',n,_,k=>by
  show xs[k]?=_
  rw[if_neg (by rw[List.length_nil];omega)]
 |p::l,xs,at',n,h,k=>by
  rw[List.length_cons] at h ⊢
  show(zf9 (xs.setIfInBounds (at'+n) p) at' (n+1) l)[k]?=_
  rw[zhi l _ at' (n+1) (by rw[Array.size_setIfInBounds];omega) k]
  by_cases e:k=at'+n
  ·subst e
   rw[if_neg (by omega),if_pos (by omega),Nat.sub_self,List.getElem?_cons_zero,Array.getElem?_setIfInBounds_self_of_lt (by omega)]
  ·by_cases g:at'+n≤k∧k<at'+n+(l.length+1)
   ·rw[if_pos g,if_pos (by omega),show k-(at'+n)=(k-(at'+(n+1)))+1 by omega,List.getElem?_cons_succ]
   ·rw[if_neg g,if_neg (by omega),Array.getElem?_setIfInBounds_ne (by omega)]
theorem znh{xs:Array Keyed}{at':Nat}{l:List Keyed}(h:at'+l.length≤xs.size):
  (zf9 xs at' 0 l).toList=xs.toList.take at'++(l++xs.toList.drop (at'+l.length)):=by
 have ad:(xs.toList.take at').length=at':=by rw[List.length_take,Array.length_toList];omega
 apply List.ext_getElem?
 intro k
 have e:=zhi l xs at' 0 (by omega) k
 rw[Nat.add_zero] at e
 rw[Array.getElem?_toList,e]
 by_cases h1:k<at'
 ·rw[if_neg (by omega),List.getElem?_append_left (by omega),List.getElem?_take,if_pos h1,Array.getElem?_toList]
 ·rw[List.getElem?_append_right (by omega),ad]
  by_cases h2:k<at'+l.length
  ·rw[if_pos (by omega),List.getElem?_append_left (by omega)]
  ·rw[if_neg (by omega),List.getElem?_append_right (by omega),List.getElem?_drop,Array.getElem?_toList,show at'+l.length+(k-at'-l.length)=k by omega]
theorem zte{xs:Array Keyed}{i j:Nat}(h:i≤j):xs.toList=xs.toList.take i++((xs.extract i j).toList++xs.toList.drop j):=by
 rw[zme,←List.append_assoc]
 have:xs.toList.take i++(xs.toList.take j).drop i=xs.toList.take j:=by
  conv=>rhs;rw[←List.take_append_drop i (xs.toList.take j)]
  rw[List.take_take,Nat.min_eq_left h]
 rw[this,List.take_append_drop]
theorem zwi{xs:Array Keyed}{i j:Nat}(h:zba xs i j)(hj:j≤xs.size):(xs.extract i j).toList.Pairwise kle:=by
 rw[List.pairwise_iff_getElem]
 intro p q hp hq ad
 rw[zme,List.length_drop,List.length_take,Array.length_toList] at hp hq
 simp only[zme,List.getElem_drop,List.getElem_take,Array.getElem_toList]
 have:=h (i+p) (i+q) (by omega) (by omega) (by omega)
 rw[zc2 (Array.getElem?_eq_getElem (by omega)),zc2 (Array.getElem?_eq_getElem (by omega))] at this
 exact this
section
variable {prog : Program} {w : World} {A : Around} {E : Value → Shared → Prop} {s : Shared}
theorem zou{st:SortSt}{i sa na sb nb pw pw2:Nat}{Q:Bool→SortSt→Prop}(hk:kindOf st=oneType')(hf:failedOf st=none)(hI:AllI (arrOf st))
  (h1:(pendingOf st)[i]?=some (sa,na,pw)) (h2:(pendingOf st)[i+1]?=some (sb,nb,pw2)) (hsb:sb=sa+na) (hna:1≤na) (hnb:1≤nb) (hsz:sb+nb≤(arrOf st).size)
  (s1:zba (arrOf st) sa sb) (s2:zba (arrOf st) sb (sb+nb))
  (h:∀xs g,xs.Perm (arrOf st)→zba xs sa (sb+nb)→(∀k,k<sa∨sb+nb≤k→K xs k=K (arrOf st) k) →
   Q true (SortSt.mk' oneType' xs (((pendingOf st).setIfInBounds i (sa,na+nb,pw)).eraseIdxIfInBounds (i+1)) g none)):
  wpS (model prog w) A E s (mergeAt' i) Q st:=by
 obtain⟨kd,xs,pd,g0,fl⟩:=st
 cases hk
 cases hf
 refine wpS_bind (wpS_get ?_)
 have av:pd[i]?=some (sa,na,pw):=h1
 have al:pd[i+1]?=some (sb,nb,pw2):=h2
 replace hI:AllI xs:=hI
 replace hsz:sb+nb≤xs.size:=hsz
 replace s1:zba xs sa sb:=s1
 replace s2:zba xs sb (sb+nb):=s2
 replace h:∀ys g,ys.Perm xs→zba ys sa (sb+nb)→(∀k,k<sa∨sb+nb≤k→K ys k=K xs k) →
   Q true (SortSt.mk' oneType' ys ((pd.setIfInBounds i (sa,na+nb,pw)).eraseIdxIfInBounds (i+1)) g none):=h
 dsimp only
 rw[av,al]
 dsimp only
 have pX:∀{i},i<xs.size→∃p,xs[i]?=some p∧zg5 p:=fun hi=>⟨_,Array.getElem?_eq_getElem hi,hI _ (Array.getElem_mem_toList hi)⟩
 refine wpS_bind (wpS_modify ?_)
 obtain⟨q,hq,iq⟩:=pX (show sb<xs.size by omega)
 refine wpS_bind (zbd hq ?_)
 refine wpS_bind (zdf (left:=false) (arr:=xs) (base:=sa) (n:=na) (hint:=0) rfl iq (fun i hi=>pX (i:=sa+i) (by omega)) (fun i j ar hj=>s1 _ _ (by omega) (by omega) (by omega)) (by omega) fun k k1 k2 k3=>?_)
 have f1:∀p,sa≤p→p<sa+k→K xs p≤K xs sb:=fun p p1 p2=>by
  obtain⟨u,hu,_⟩:=pX (show p<xs.size by omega)
  rw[zc2 hu,zc2 hq]
  exact zkj (k2 (p-sa) (by omega)) (by rw[show sa+(p-sa)=p by omega];exact hu)
 have f2:∀p,sa+k≤p→p<sb→K xs sb≤K xs p:=fun p p1 p2=>by
  obtain⟨u,hu,_⟩:=pX (show p<xs.size by omega)
  rw[zc2 hu,zc2 hq]
  exact zio (k3 (p-sa) (by omega) (by omega)) (by rw[show sa+(p-sa)=p by omega];exact hu)
 refine zat (fun c1=>wpS_pure ?_) (fun c1=>?_)
 ·have aq:na-k=0:=beq_iff_eq.mp c1
  refine h xs g0 (Array.Perm.refl _) (fun p q' p1 p2 p3=>?_) (fun _ _=>rfl)
  by_cases hp:q'<sb
  ·exact s1 _ _ p1 p2 hp
  ·by_cases ao:p<sb
   ·exact Int.le_trans (f1 p p1 (by omega)) (s2 _ _ (Nat.le_refl _) (by omega) p3)
   ·exact s2 _ _ (by omega) p2 p3
 have aq:na-k≠0:=fun z=>c1 (beq_iff_eq.mpr z)
 obtain⟨u,hu,iu⟩:=pX (show sb-1<xs.size by omega)
 have eu:sa+k+(na-k)-1=sb-1:=by omega
 refine wpS_bind (zbd (p:=u) (by rw[eu];exact hu) ?_)
 refine wpS_bind (zdf (left:=true) (arr:=xs) (base:=sb) (n:=nb) (hint:=nb-1) rfl iu (fun i hi=>pX (i:=sb+i) (by omega)) (fun i j ar hj=>s2 _ _ (by omega) (by omega) (by omega)) (by omega) fun n' n1 n2 n3=>?_)
 have f3:∀p,sb≤p→p<sb+n'→K xs p≤K xs (sb-1):=fun p p1 p2=>by
  obtain⟨v,hv,_⟩:=pX (show p<xs.size by omega)
  rw[zc2 hv,zc2 hu]
  exact zml (n2 (p-sb) (by omega)) (by rw[show sb+(p-sb)=p by omega];exact hv)
 have f4:∀p,sb+n'≤p→p<sb+nb→K xs (sb-1)≤K xs p:=fun p p1 p2=>by
  obtain⟨v,hv,_⟩:=pX (show p<xs.size by omega)
  rw[zc2 hv,zc2 hu]
  exact zks (n3 (p-sb) (by omega) (by omega)) (by rw[show sb+(p-sb)=p by omega];exact hv)
 refine zat (fun c2=>wpS_pure ?_) (fun c2=>?_)
 ·have am:n'=0:=beq_iff_eq.mp c2
  refine h xs g0 (Array.Perm.refl _) (fun p q' p1 p2 p3=>?_) (fun _ _=>rfl)
  by_cases hp:q'<sb
  ·exact s1 _ _ p1 p2 hp
  ·by_cases ao:p<sb
   ·exact Int.le_trans (s1 p (sb-1) p1 (by omega) (by omega)) (f4 _ (by omega) p3)
   ·exact s2 _ _ (by omega) p2 p3
 have am:n'≠0:=fun z=>c2 (beq_iff_eq.mpr z)
 have zX:(xs.extract (sa+k) sb).size=sb-(sa+k):=by rw[Array.size_extract];omega
 have zY:(xs.extract sb (sb+n')).size=n':=by rw[Array.size_extract];omega
 have gX:∀x∈(xs.extract (sa+k) sb).toList,∃j,sa+k≤j∧j<sb∧xs[j]?=some x:=fun x hx=>by
  rw[zme] at hx
  obtain⟨j,j1,j2,j3,j4⟩:=zft hx
  exact⟨j,j1,j2,j4⟩
 have gY:∀x∈(xs.extract sb (sb+n')).toList,∃j,sb≤j∧j<sb+n'∧xs[j]?=some x:=fun x hx=>by
  rw[zme] at hx
  obtain⟨j,j1,j2,j3,j4⟩:=zft hx
  exact⟨j,j1,j2,j4⟩
 have iX:∀x∈(xs.extract (sa+k) sb).toList,zg5 x:=fun x hx=>by
  obtain⟨j,_,_,hj⟩:=gX x hx
  exact hI x (zsc hj)
 have iY:∀x∈(xs.extract sb (sb+n')).toList,zg5 x:=fun x hx=>by
  obtain⟨j,_,_,hj⟩:=gY x hx
  exact hI x (zsc hj)
 have ak:(xs.extract (sa+k) sb).toList.Pairwise kle:=zwi (fun p q p1 p2 p3=>s1 p q (by omega) p2 p3) (by omega)
 have aj:(xs.extract sb (sb+n')).toList.Pairwise kle:=zwi (fun p q p1 p2 p3=>s2 p q p1 p2 (by omega)) (by omega)
 have ai:∀x∈(xs.extract sb (sb+n')).toList.take 1,∀y∈(xs.extract (sa+k) sb).toList,kle x y:=fun x hx y hy=>by
  have e0:(xs.extract sb (sb+n'))[0]?=some q:=by
   rw[Array.getElem?_extract,if_pos (by omega),Nat.add_zero];exact hq
  have:=ze5 e0
  rw[List.drop_zero] at this
  rw[this] at hx
  rw[List.mem_singleton.mp hx]
  obtain⟨j,j1,j2,j3⟩:=gX y hy
  have:=f2 j j1 j2
  rwa [zc2 hq,zc2 j3] at this
 have ah:∀x∈(xs.extract sb (sb+n')).toList,∀y∈(xs.extract (sa+k) sb).toList.drop ((xs.extract (sa+k) sb).size-1),kle x y:=fun x hx y hy=>by
  have e0:(xs.extract (sa+k) sb)[(xs.extract (sa+k) sb).size-1]?=some u:=by
   rw[zX,Array.getElem?_extract,if_pos (by omega),show sa+k+(sb-(sa+k)-1)=sb-1 by omega];exact hu
  have ap:y=u:=by
   obtain⟨j,j1,j2,j3⟩:=zf3 hy
   have:j=(xs.extract (sa+k) sb).size-1:=by omega
   rw[this,e0] at j3
   exact(Option.some.inj j3).symm
  rw[ap]
  obtain⟨j,j1,j2,j3⟩:=gY x hx
  have:=f3 j j1 j2
  rwa [zc2 hu,zc2 j3] at this
 have fin:∀(r:Array Keyed)(g:Nat),SP (xs.extract (sa+k) sb).toList (xs.extract sb (sb+n')).toList r.toList →
   Q true (SortSt.mk' oneType' (zf9 xs (sa+k) 0 r.toList) ((pd.setIfInBounds i (sa,na+nb,pw)).eraseIdxIfInBounds (i+1)) g none):=by
  intro r g hr
  have hl:r.toList.length=sb-(sa+k)+n':=by
   rw[hr.1.length_eq,List.length_append,Array.length_toList,Array.length_toList,zX,zY]
  have af:=zhi r.toList xs (sa+k) 0 (by omega)
  have ae:∀p,sa+k≤p→p<sb+n'→∃x,(zf9 xs (sa+k) 0 r.toList)[p]?=some x∧r.toList[p-(sa+k)]?=some x∧x∈r.toList:=fun p p1 p2=>by
   have e:=af p
   rw[if_pos (by omega),Nat.add_zero] at e
   have hp:p-(sa+k)<r.toList.length:=by omega
   rw[List.getElem?_eq_getElem hp] at e ⊢
   exact⟨_,e,rfl,List.getElem_mem hp⟩
  have ad:∀p,p<sa+k∨sb+n'≤p→K (zf9 xs (sa+k) 0 r.toList) p=K xs p:=fun p hp=>by
   have e:=af p
   rw[if_neg (by omega)] at e
   exact K_congr e
  have au:∀x∈r.toList,K xs sb≤kn x∧kn x≤K xs (sb-1):=fun x hx=>by
   rcases List.mem_append.mp (hr.1.mem_iff.mp hx) with z|z
   ·obtain⟨j,j1,j2,j3⟩:=gX x z
    rw[←zc2 j3]
    exact⟨f2 j j1 j2,s1 _ _ (by omega) (by omega) (by omega)⟩
   ·obtain⟨j,j1,j2,j3⟩:=gY x z
    rw[←zc2 j3]
    exact⟨s2 _ _ (Nat.le_refl _) j1 (by omega),f3 j j1 j2⟩
  have ag:∀p,sa+k≤p→p<sb+n'→K xs sb≤K (zf9 xs (sa+k) 0 r.toList) p∧K (zf9 xs (sa+k) 0 r.toList) p≤K xs (sb-1):=fun p p1 p2=>by
   obtain⟨x,x1,x2,x3⟩:=ae p p1 p2
   rw[zc2 x1]
   exact au x x3
  refine h _ g ?_ ?_ (fun p hp=>ad p (by omega))
  ·refine Array.perm_iff_toList_perm.mpr ?_
   rw[znh (by omega),hl,show sa+k+(sb-(sa+k)+n')=sb+n' by omega]
   conv=>rhs;rw[zte (xs:=xs) (i:=sa+k) (j:=sb+n') (by omega)]
   refine List.Perm.append_left _ (List.Perm.append_right _ (hr.1.trans ?_))
   rw[zme,zme,zme]
   have e1:(xs.toList.take (sb+n')).drop (sa+k)=(xs.toList.take sb).drop (sa+k)++(xs.toList.take (sb+n')).drop sb:=by
    conv=>lhs;rw[←List.take_append_drop sb (xs.toList.take (sb+n'))]
    rw[List.take_take,Nat.min_eq_left (by omega),List.drop_append_of_le_length (by rw[List.length_take,Array.length_toList];omega)]
   rw[e1]
  ·intro p q' p1 p2 p3
   by_cases a1:q'<sa+k
   ·rw[ad p (.inl (by omega)),ad q' (.inl a1)]
    exact s1 _ _ p1 p2 (by omega)
   ·by_cases a2:q'<sb+n'
    ·by_cases a3:p<sa+k
     ·rw[ad p (.inl a3)]
      exact Int.le_trans (f1 p p1 a3) (ag q' (by omega) a2).1
     ·obtain⟨x,x1,x2,_⟩:=ae p (by omega) (by omega)
      obtain⟨y,y1,y2,_⟩:=ae q' (by omega) a2
      rw[zc2 x1,zc2 y1]
      by_cases a4:p=q'
      ·subst a4
       rw[x1] at y1
       rw[Option.some.inj y1]
       exact Int.le_refl _
      ·obtain⟨i1,e1⟩:=List.getElem?_eq_some_iff.mp x2
       obtain⟨i2,e2⟩:=List.getElem?_eq_some_iff.mp y2
       have:=List.pairwise_iff_getElem.mp hr.2 _ _ i1 i2 (by omega)
       rwa [e1,e2] at this
    ·rw[ad q' (.inr (by omega))]
     by_cases a3:p<sa+k
     ·rw[ad p (.inl a3)]
      exact Int.le_trans (f1 p p1 a3) (s2 _ _ (Nat.le_refl _) (by omega) p3)
     ·by_cases a4:p<sb+n'
      ·exact Int.le_trans (ag p (by omega) a4).2 (f4 q' (by omega) p3)
      ·rw[ad p (.inr (by omega))]
       exact s2 _ _ (by omega) p2 p3
 refine zat (fun c3=>?_) (fun c3=>?_)
 ·refine wpS_bind (zo8 rfl iX iY ak aj (by omega) (by omega) ai ah fun r g hr=>?_)
  exact wpS_bind (wpS_modify (wpS_bind (wpS_get (wpS_pure (fin r g hr)))))
 ·refine wpS_bind (zn7 rfl iX iY ak aj (by omega) (by omega) ai ah fun r g hr=>?_)
  exact wpS_bind (wpS_modify (wpS_bind (wpS_get (wpS_pure (fin r g hr)))))
end
theorem zxf{xs:Array Keyed}{i:Nat}:zba xs i (i+1):=fun p q p1 p2 p3=>by
 have:p=q:=by omega
 subst this;exact Int.le_refl _
def zos(xs:Array Keyed)(i j:Nat):Prop:=∀p q,i≤p→p≤q→q<j→K xs q≤K xs p
section
variable {prog : Program} {w : World} {A : Around} {E : Value → Shared → Prop} {s : Shared}
theorem zgv{st:SortSt}{xs:Array Keyed}{i j:Nat}{Q:Option Bool→SortSt→Prop}(hk:kindOf st=oneType')(hI:AllI xs)(hi:i<xs.size)(hj:j<xs.size)
  (h:Q (some (decide (K xs i<K xs j))) (setArr st xs)):wpS (model prog w) A E s (ltAt' i j) Q (setArr st xs):=by
 have e1:=Array.getElem?_eq_getElem hi
 have e2:=Array.getElem?_eq_getElem hj
 rw[ltAt'_eq]
 refine wpS_bind (wpS_get ?_)
 refine wpS_bind (zbd e1 (wpS_bind (zbd e2 (zkq hk (hI _ (Array.getElem_mem_toList hi)) (hI _ (Array.getElem_mem_toList hj)) ?_))))
 rw[zc2 e1,zc2 e2] at h
 exact h
theorem zk4{st:SortSt}{xs:Array Keyed}{lo nrem:Nat}{Q:Option Nat→SortSt→Prop}(hk:kindOf st=oneType')(hI:AllI xs)(hn:lo+nrem≤xs.size)(h1:1≤nrem)
  (h:∀m ys,ys.Perm xs→(∀k,k<lo→K ys k=K xs k)→1≤m→m≤nrem→zba ys lo (lo+m)→Q (some m) (setArr st ys)):
  wpS (model prog w) A E s (countRun' lo nrem) Q (setArr st xs):=by
 refine wpS_bind (wpS_mono (wpS_forRange
  (I:=fun x c ae=>setArr st xs=ae∧c=(none,x)∧x≤nrem∧zba xs lo (lo+x))
  (Q:=fun c ae=>setArr st xs=ae∧∃n,c=(none,n)∧1≤n∧n≤nrem∧zba xs lo (lo+n)∧(n=nrem∨K xs (lo+n)<K xs (lo+n-1)))
  ?_ ?_ ⟨rfl,rfl,h1,zxf⟩) ?_)
 ·rintro x c ae ai ap ⟨rfl,rfl,hx,hs⟩
  dsimp only
  refine wpS_bind (zgv hk hI (by omega) (by omega) ?_)
  dsimp only
  refine zat (fun c1=>wpS_pure ⟨rfl,x,rfl,ai,by omega,hs,.inr (of_decide_eq_true c1)⟩) (fun c1=>wpS_pure ⟨rfl,rfl,by omega,fun p q p1 p2 p3=>?_⟩)
  have ah:K xs (lo+x-1)≤K xs (lo+x):=Int.not_lt.mp fun z=>c1 (decide_eq_true z)
  by_cases hq:q<lo+x
  ·exact hs p q p1 p2 hq
  ·have:q=lo+x:=by omega
   subst this
   by_cases hp:p=lo+x
   ·subst hp;exact Int.le_refl _
   ·exact Int.le_trans (hs p (lo+x-1) p1 (by omega) (by omega)) ah
 ·rintro c ae ⟨rfl,rfl,hx,hs⟩
  rw[show max 1 nrem=nrem by omega] at hs ⊢
  exact⟨rfl,_,rfl,h1,Nat.le_refl _,hs,.inl rfl⟩
 rintro c ae ⟨rfl,n,rfl,n1,n2,hs,aq⟩
 refine zat (c:=(n==nrem)=true) (fun c1=>wpS_pure (h n xs (Array.Perm.refl _) (fun _ _=>rfl) n1 n2 hs)) (fun c1=>?_)
 have ah:n≠nrem:=fun z=>c1 (beq_iff_eq.mpr z)
 have am:=aq.resolve_left ah
 extract_lets _ _ jp
 suffices hj:∀ys,ys.Perm xs→(∀k,k<lo→K ys k=K xs k)→zos ys lo (lo+(n+1))→wpS (model prog w) A E s (jp ()) Q (setArr st ys) by
  refine zat (fun c2=>?_) (fun c2=>?_)
  ·refine wpS_bind (zgv hk hI (by omega) (by omega) ?_)
   refine zat (c:=decide (K xs lo<K xs (lo+n-1))=true) (fun c3=>wpS_pure (h n xs (Array.Perm.refl _) (fun _ _=>rfl) n1 n2 hs)) (fun c3=>?_)
   have ak:K xs (lo+n-1)≤K xs lo:=Int.not_lt.mp fun z=>c3 (decide_eq_true z)
   have all:∀k,lo≤k→k<lo+n→K xs k=K xs (lo+n-1):=fun k k1 k2=>by
    have a1:=hs lo k (Nat.le_refl _) k1 k2
    have a2:=hs k (lo+n-1) k1 (by omega) (by omega)
    omega
   refine wpS_bind (wpS_modify ?_)
   have e:=K_mirror_equal (i:=lo) (j:=lo+n) (xs:=xs) (by omega) all
   refine hj (mirror xs lo (lo+n) ((lo+n-lo)/2)) (mirror_perm _ _ _ _) (fun k _=>e k) (fun p q p1 p2 p3=>?_)
   rw[e,e]
   by_cases hq:q<lo+n
   ·rw[all q (by omega) hq,all p p1 (by omega)];exact Int.le_refl _
   ·have:q=lo+n:=by omega
    subst this
    by_cases hp:p=lo+n
    ·subst hp;exact Int.le_refl _
    ·rw[all p p1 (by omega)];exact Int.le_of_lt am
  ·refine hj xs (Array.Perm.refl _) (fun _ _=>rfl) (fun p q p1 p2 p3=>?_)
   have ay:¬n>1:=c2
   have:n=1:=by omega
   subst this
   by_cases hp:p=q
   ·subst hp;exact Int.le_refl _
   ·have:p=lo:=by omega
    have:q=lo+1:=by omega
    subst p q
    exact Int.le_of_lt am
 intro ys yp yl yd
 have yz:ys.size=xs.size:=yp.size_eq
 refine wpS_bind (wpS_lift (wpAny_rule ⟨rfl,?_⟩))
 refine wpS_bind (wpS_mono (wpS_forRange
  (I:=fun x c ae=>∃zs ad,setArr st zs=ae∧c=(none,x,ad)∧zs.Perm xs∧(∀k,k<lo→K zs k=K xs k)∧zos zs lo (lo+x)∧x≤nrem∧ad+1≤x∧(∀i,lo+x-(ad+1)≤i→i<lo+x→K zs i=K zs (lo+x-1)))
  (Q:=fun c ae=>∃zs m ad,setArr st zs=ae∧c=(none,m,ad)∧zs.Perm xs∧(∀k,k<lo→K zs k=K xs k)∧zos zs lo (lo+m)∧1≤m∧m≤nrem∧ad+1≤m∧(∀i,lo+m-(ad+1)≤i→i<lo+m→K zs i=K zs (lo+m-1)))
  ?_ ?_ ⟨ys,0,rfl,rfl,yp,yl,yd,by omega,by omega,fun i i1 i2=>by rw[show i=lo+(n+1)-1 by omega]⟩) ?_)
 ·rintro x c ae ai ap ⟨zs,ad,rfl,rfl,zp,zl,zd,z1,z2,z3⟩
  have zz:zs.size=xs.size:=zp.size_eq
  have al:n+1≤x:=ai
  refine wpS_bind (zgv hk (hI.perm zp) (by show lo+x<zs.size;omega) (by show lo+x-1<zs.size;omega) ?_)
  have ag:∀us:Array Keyed,(∀k,K us k=K zs k)→K zs (lo+x)≤K zs (lo+x-1)→zos us lo (lo+(x+1)):=fun us hu aw p q p1 p2 p3=>by
   rw[hu,hu]
   by_cases hq:q<lo+x
   ·exact zd p q p1 p2 hq
   ·have:q=lo+x:=by omega
    subst this
    by_cases hp:p=lo+x
    ·subst hp;exact Int.le_refl _
    ·exact Int.le_trans aw (zd p (lo+x-1) p1 (by omega) (by omega))
  refine zat (c:=decide (K zs (lo+x)<K zs (lo+x-1))=true) (fun c3=>?_) (fun c3=>?_)
  ·have ak:=of_decide_eq_true c3
   have e:=K_mirror_equal (i:=lo+x-(ad+1)) (j:=lo+x) (xs:=zs) (by omega) z3
   refine zat (c:=ad>0) (fun c4=>?_) (fun c4=>?_)
   ·exact wpS_bind (wpS_modify (wpS_pure ⟨mirror zs (lo+x-(ad+1)) (lo+x) ((lo+x-(lo+x-(ad+1)))/2),0,rfl,rfl,(mirror_perm _ _ _ _).trans zp,fun k aj=>by rw[e];exact zl k aj,ag _ e (Int.le_of_lt ak),by omega,by omega,fun i i1 i2=>by rw[show i=lo+(x+1)-1 by omega]⟩))
   ·exact wpS_pure ⟨zs,0,rfl,rfl,zp,zl,ag _ (fun _=>rfl) (Int.le_of_lt ak),by omega,by omega,fun i i1 i2=>by rw[show i=lo+(x+1)-1 by omega]⟩
  ·have ak:=Int.not_lt.mp fun z=>c3 (decide_eq_true z)
   refine wpS_bind (zgv hk (hI.perm zp) (by show lo+x-1<zs.size;omega) (by show lo+x<zs.size;omega) ?_)
   refine zat (c:=decide (K zs (lo+x-1)<K zs (lo+x))=true) (fun c4=>wpS_pure ⟨zs,x,ad,rfl,rfl,zp,zl,zd,by omega,z1,z2,z3⟩) (fun c4=>?_)
   have av:=Int.not_lt.mp fun z=>c4 (decide_eq_true z)
   have ex:K zs (lo+x)=K zs (lo+x-1):=by omega
   refine wpS_pure ⟨zs,ad+1,rfl,rfl,zp,zl,ag _ (fun _=>rfl) av,by omega,by omega,fun i i1 i2=>?_⟩
   rw[show lo+(x+1)-1=lo+x by omega]
   by_cases hi:i=lo+x
   ·rw[hi]
   ·rw[ex];exact z3 i (by omega) (by omega)
 ·rintro c ae ⟨zs,ad,rfl,rfl,zp,zl,zd,z1,z2,z3⟩
  have e:max (n+1) nrem=nrem:=by omega
  rw[e] at zd z2 z3
  exact⟨zs,nrem,ad,rfl,by rw[e],zp,zl,zd,h1,Nat.le_refl _,z2,z3⟩
 rintro c ae ⟨zs,m,ad,rfl,rfl,zp,zl,zd,m1,z1,z2,z3⟩
 have zz:zs.size=xs.size:=zp.size_eq
 dsimp (config:={ zeta:=false,zetaHave:=false,zetaUnused:=false }) only
 extract_lets
 rename_i ar
 suffices ao:∀us,us.Perm xs→(∀k,k<lo→K us k=K xs k)→zos us lo (lo+m)→wpS (model prog w) A E s (ar ()) Q (setArr st us) by
  have e:=K_mirror_equal (i:=lo+m-(ad+1)) (j:=lo+m) (xs:=zs) (by omega) z3
  refine zat (fun c4=>?_) (fun c4=>ao zs zp zl zd)
  exact wpS_bind (wpS_modify (ao (mirror zs (lo+m-(ad+1)) (lo+m) ((lo+m-(lo+m-(ad+1)))/2)) ((mirror_perm _ _ _ _).trans zp) (fun k aj=>by rw[e];exact zl k aj) (fun p q p1 p2 p3=>by rw[e,e];exact zd p q p1 p2 p3)))
 intro us up ul ud
 have uz:us.size=xs.size:=up.size_eq
 refine wpS_bind (wpS_modify ?_)
 have hm:=K_mirror (xs:=us) (i:=lo) (j:=lo+m) (by omega)
 have vs:zba (mirror us lo (lo+m) ((lo+m-lo)/2)) lo (lo+m):=fun p q p1 p2 p3=>by
  rw[hm,hm,if_pos ⟨p1,by omega⟩,if_pos ⟨by omega,p3⟩]
  exact ud _ _ (by omega) (by omega) (by omega)
 have vl:∀k,k<lo→K (mirror us lo (lo+m) ((lo+m-lo)/2)) k=K xs k:=fun k aj=>by
  rw[hm,if_neg (by omega)];exact ul k aj
 have vp:(mirror us lo (lo+m) ((lo+m-lo)/2)).Perm xs:=(mirror_perm _ _ _ _).trans up
 show wpS _ _ _ _ _ _ (setArr st (mirror us lo (lo+m) ((lo+m-lo)/2)))
 generalize mirror us lo (lo+m) ((lo+m-lo)/2)=vv at vs vl vp
 have vz:vv.size=xs.size:=vp.size_eq
 refine wpS_bind (wpS_mono (wpS_forRange
  (I:=fun x c ae=>setArr st vv=ae∧c=(none,x)∧x≤nrem∧zba vv lo (lo+x))
  (Q:=fun c ae=>setArr st vv=ae∧∃n,c=(none,n)∧1≤n∧n≤nrem∧zba vv lo (lo+n))
  ?_ ?_ ⟨rfl,rfl,z1,vs⟩) ?_)
 ·rintro x c ae ai ap ⟨rfl,rfl,hx,af⟩
  have al:m≤x:=ai
  refine wpS_bind (zgv hk (hI.perm vp) (by show lo+x<vv.size;omega) (by show lo+x-1<vv.size;omega) ?_)
  refine zat (c:=decide (K vv (lo+x)<K vv (lo+x-1))=true) (fun c1=>wpS_pure ⟨rfl,x,rfl,by omega,by omega,af⟩) (fun c1=>wpS_pure ⟨rfl,rfl,by omega,fun p q p1 p2 p3=>?_⟩)
  have ah:K vv (lo+x-1)≤K vv (lo+x):=Int.not_lt.mp fun z=>c1 (decide_eq_true z)
  by_cases hq:q<lo+x
  ·exact af p q p1 p2 hq
  ·have:q=lo+x:=by omega
   subst this
   by_cases hp:p=lo+x
   ·subst hp;exact Int.le_refl _
   ·exact Int.le_trans (af p (lo+x-1) p1 (by omega) (by omega)) ah
 ·rintro c ae ⟨rfl,rfl,hx,af⟩
  have e:max m nrem=nrem:=by omega
  rw[e] at af
  exact⟨rfl,nrem,by rw[e],h1,Nat.le_refl _,af⟩
 ·rintro c ae ⟨rfl,n',rfl,au,ax,af⟩
  exact wpS_pure (h n' vv vp vl au ax af)
end
def Chain(xs:Array Keyed):Nat→List (Nat×Nat×Nat)→Nat→Prop
 |a,[],b=>a=b
 |a,p::l,b=>p.1=a∧1≤p.2.1∧zba xs a (a+p.2.1)∧Chain xs (a+p.2.1) l b
theorem Chain.len{xs:Array Keyed}:∀{l:List (Nat×Nat×Nat)} {a b:Nat},Chain xs a l b→a+l.length≤b
 |[],a,b,h=>by cases h;exact Nat.le_refl _
 |p::l,a,b,h=>by
  have:=Chain.len h.2.2.2
  have:=h.2.1
  rw[List.length_cons];omega
theorem Chain.congr{xs ys:Array Keyed}:∀{l:List (Nat×Nat×Nat)} {a b:Nat},Chain xs a l b→(∀k,a≤k→k<b→K ys k=K xs k)→Chain ys a l b
 |[],a,b,h,_=>h
 |p::l,a,b,h,e=>by
  have hl:=Chain.len h.2.2.2
  exact⟨h.1,h.2.1,fun i j i1 i2 i3=>by rw[e i (by omega) (by omega),e j (by omega) (by omega)];exact h.2.2.1 i j i1 i2 i3,Chain.congr h.2.2.2 fun k k1 k2=>e k (by omega) k2⟩
theorem Chain.app{xs:Array Keyed}:∀{l m:List (Nat×Nat×Nat)} {a b c:Nat},Chain xs a l b→Chain xs b m c→Chain xs a (l++m) c
 |[],m,a,b,c,h,g=>by cases h;exact g
 |p::l,m,a,b,c,h,g=>⟨h.1,h.2.1,h.2.2.1,Chain.app h.2.2.2 g⟩
theorem Chain.split{xs:Array Keyed}:∀{l m:List (Nat×Nat×Nat)} {a c:Nat},Chain xs a (l++m) c→∃b,Chain xs a l b∧Chain xs b m c
 |[],m,a,c,h=>⟨a,rfl,h⟩
 |p::l,m,a,c,h=>by
  obtain⟨b,h1,h2⟩:=Chain.split h.2.2.2
  exact⟨b,⟨h.1,h.2.1,h.2.2.1,h1⟩,h2⟩
theorem Chain.pw{xs:Array Keyed}:∀{l m:List (Nat×Nat×Nat)} {a b:Nat},l.map (fun p=>(p.1,p.2.1))=m.map (fun p=>(p.1,p.2.1))→Chain xs a l b→Chain xs a m b
 |[],[],a,b,_,h=>h
 |[],q::m,a,b,e,h=>by cases e
 |p::l,[],a,b,e,h=>by cases e
 |p::l,q::m,a,b,e,h=>by
  rw[List.map_cons,List.map_cons] at e
  obtain⟨e1,e2⟩:=List.cons.inj e
  have e3:=(Prod.mk.inj e1)
  refine⟨e3.1▸h.1,e3.2▸h.2.1,e3.2▸h.2.2.1,?_⟩
  rw[←e3.2]
  exact Chain.pw e2 h.2.2.2
theorem zr5{α:Type}{l:List α}{i:Nat}(h:i+1<l.length):∃l1 x y l2,l=l1++x::y::l2∧l1.length=i:=by
 refine⟨l.take i,l[i],l[i+1],l.drop (i+2),?_,by rw[List.length_take];omega⟩
 rw[←List.drop_eq_getElem_cons,←List.drop_eq_getElem_cons,List.take_append_drop]
theorem zn0{α:Type}{pd:Array α}{l1 l2:List α}{x y z:α}(h:pd.toList=l1++x::y::l2):
  ((pd.setIfInBounds l1.length z).eraseIdxIfInBounds (l1.length+1)).toList=l1++z::l2:=by
 have hz:pd.size=l1.length+(l2.length+2):=by rw[←Array.length_toList,h,List.length_append];rfl
 rw[Array.eraseIdxIfInBounds,dif_pos (by rw[Array.size_setIfInBounds];omega),Array.toList_eraseIdx,Array.toList_setIfInBounds,h]
 rw[List.set_append_right _ _ (Nat.le_refl _),Nat.sub_self,List.set_cons_zero,List.eraseIdx_append_of_length_le (by omega)]
 rw[show l1.length+1-l1.length=1 by omega]
 rfl
structure SB(a₀:Array Keyed)(st:SortSt)(lo:Nat):Prop where
 perm:(arrOf st).Perm a₀
 kind:kindOf st=oneType'
 failed:failedOf st=none
 chain:Chain (arrOf st) 0 (pendingOf st).toList lo
 le:lo≤a₀.size
section
variable {prog : Program} {w : World} {A : Around} {E : Value → Shared → Prop} {s : Shared} {a₀ : Array Keyed}
theorem zj4{st:SortSt}{i lo:Nat}{Q:Bool→SortSt→Prop}(h0:AllI a₀)(hB:SB a₀ st lo)(hi:i+1<(pendingOf st).size)
  (h:∀st',SB a₀ st' lo→(pendingOf st').size+1=(pendingOf st).size→(∀k,lo≤k→K (arrOf st') k=K (arrOf st) k)→Q true st'):
  wpS (model prog w) A E s (mergeAt' i) Q st:=by
 obtain⟨l1,⟨sa,na,pw⟩,⟨sb,nb,pw2⟩,l2,hl,rfl⟩:=zr5 (l:=(pendingOf st).toList) (by rw[Array.length_toList];exact hi)
 have hc:=hB.chain
 rw[hl] at hc
 obtain⟨b,c1,e1,n1,s1,e2,n2,s2,c2⟩:=hc.split
 dsimp only at e1 n1 s1 e2 n2 s2 c2
 subst e1
 subst e2
 have af:=c2.len
 have hsz:(arrOf st).size=a₀.size:=hB.perm.size_eq
 have ae:=hB.le
 refine zou (sa:=sa) (na:=na) (sb:=sa+na) (nb:=nb) (pw:=pw) (pw2:=pw2) hB.kind hB.failed (h0.perm hB.perm) ?_ ?_ rfl n1 n2 (by omega) s1 s2 fun xs g xp ad xk=>?_
 ·rw[←Array.getElem?_toList,hl,List.getElem?_append_right (Nat.le_refl _),Nat.sub_self];rfl
 ·rw[←Array.getElem?_toList,hl,List.getElem?_append_right (by omega),show l1.length+1-l1.length=1 by omega];rfl
 have hm:=zn0 (z:=(sa,na+nb,pw)) hl
 refine h _ ⟨xp.trans hB.perm,rfl,rfl,?_,ae⟩ ?_ fun k hk=>xk k (.inr (by omega))
 ·show Chain xs 0 (((pendingOf st).setIfInBounds l1.length (sa,na+nb,pw)).eraseIdxIfInBounds (l1.length+1)).toList lo
  rw[hm]
  refine(c1.congr fun k _ k2=>xk k (.inl k2)).app ⟨rfl,by dsimp only;omega,?_,?_⟩
  ·dsimp only
   rw[←Nat.add_assoc];exact ad
  ·dsimp only
   rw[←Nat.add_assoc];exact c2.congr fun k k1 _=>xk k (.inr k1)
 ·show(((pendingOf st).setIfInBounds l1.length (sa,na+nb,pw)).eraseIdxIfInBounds (l1.length+1)).size+1=_
  rw[←Array.length_toList,hm,←Array.length_toList,hl,List.length_append,List.length_append]
  rfl
theorem zi8{st:SortSt}{xs:Array Keyed}{lo n ok:Nat}{Q:Bool→SortSt→Prop}(hk:kindOf st=oneType')(hI:AllI xs)(hn:lo+n≤xs.size)(hok:ok≤n)(h1:1≤ok)(hs:zba xs lo (lo+ok))
  (h:∀ys,ys.Perm xs→(∀k,k<lo→K ys k=K xs k)→zba ys lo (lo+n)→Q true (setArr st ys)):wpS (model prog w) A E s (binarySort' lo n ok) Q (setArr st xs):=by
 rw[binarySort'_eq]
 refine wpS_bind (wpS_mono (wpS_forRange (I:=fun k c ag=>∃ys,c=(none,())∧setArr st ys=ag∧ys.Perm xs∧(∀k,k<lo→K ys k=K xs k)∧zba ys lo (lo+min k n))
  (Q:=fun c ag=>∃ys,c=(none,())∧setArr st ys=ag∧ys.Perm xs∧(∀k,k<lo→K ys k=K xs k)∧zba ys lo (lo+n)) ?step ?fin ?init) ?post)
 case post=>
  rintro c ag ⟨ys,rfl,rfl,yp,yl,ak⟩
  exact wpS_pure (h ys yp yl ak)
 case init=>exact⟨xs,rfl,rfl,Array.Perm.refl _,fun _ _=>rfl,by rw[show min (max ok 1) n=ok by omega];exact hs⟩
 case fin=>
  rintro c ag ⟨ys,hc,he,yp,yl,ak⟩
  refine⟨ys,hc,he,yp,yl,?_⟩
  rwa [show min (max (max ok 1) n) n=n by omega] at ak
 case step=>
  rintro k c ag ar aw ⟨ys,rfl,rfl,yp,yl,ai⟩
  rw[show min k n=k by omega] at ai
  have yz:ys.size=xs.size:=yp.size_eq
  have aj:lo+k<ys.size:=by omega
  refine wpS_bind (wpS_mono (wpS_forRange (I:=fun x c ad=>setArr st ys=ad∧∃l r,c=(none,l,r)∧l≤r∧r≤k∧r-l≤k-x ∧
    (∀i,i<l→K ys (lo+i)≤K ys (lo+k))∧(∀i,r≤i→i<k→K ys (lo+k)<K ys (lo+i)))
   (Q:=fun c ad=>setArr st ys=ad∧∃l r,c=(none,l,r)∧l≤k ∧
    (∀i,i<l→K ys (lo+i)≤K ys (lo+k))∧(∀i,l≤i→i<k→K ys (lo+k)<K ys (lo+i))) ?istep ?ifin ?iinit) ?ipost)
  case iinit=>exact⟨rfl,0,k,rfl,by omega,by omega,by omega,fun i hi=>by omega,fun i h1 h2=>by omega⟩
  case ifin=>
   rintro c ad ⟨rfl,l,r,rfl,ap,al,hm,ah,af⟩
   have:l=r:=by omega
   subst this
   exact⟨rfl,l,l,rfl,al,ah,af⟩
  case istep=>
   rintro x c ad _ au ⟨rfl,l,r,rfl,ap,al,hm,ah,af⟩
   refine zat (c:=l≥r) (fun am=>?_) (fun am=>?_)
   ·have:l=r:=by omega
    subst this
    exact wpS_pure ⟨rfl,l,l,rfl,al,ah,af⟩
   ·refine wpS_bind (zgv hk (hI.perm yp) aj (by show lo+(l+r)/2<ys.size;omega) ?_)
    refine zat (c:=decide (K ys (lo+k)<K ys (lo+(l+r)/2))=true) (fun c1=>?_) (fun c1=>?_)
    ·have ae:=of_decide_eq_true c1
     refine wpS_pure ⟨rfl,l,(l+r)/2,rfl,by omega,by omega,by omega,ah,fun i h1 h2=>?_⟩
     exact Int.lt_of_lt_of_le ae (ai _ _ (by omega) (by omega) (by omega))
    ·have ae:=Int.not_lt.mp fun z=>c1 (decide_eq_true z)
     refine wpS_pure ⟨rfl,(l+r)/2+1,r,rfl,by omega,by omega,by omega,fun i h1=>?_,af⟩
     exact Int.le_trans (ai (lo+i) (lo+(l+r)/2) (by omega) (by omega) (by omega)) ae
  case ipost=>
   rintro c ad ⟨rfl,l,r,rfl,ax,ah,af⟩
   refine wpS_bind (wpS_modify (wpS_pure ⟨bubble ys (lo+k) (lo+k-(lo+l)),rfl,rfl,(bubble_perm _ _ _).trans yp,fun i hi=>?_,?_⟩))
   ·rw[K_bubble aj (by omega),if_neg (by omega),if_neg (by omega)];exact yl i hi
   rw[show min (k+1) n=k+1 by omega]
   intro i j i1 av hj
   rw[K_bubble aj (by omega),K_bubble aj (by omega),show lo+k-(lo+k-(lo+l))=lo+l by omega]
   have ao:∀i,lo≤i→i<lo+l→K ys i≤K ys (lo+k):=fun i a b=>by
    have:=ah (i-lo) (by omega)
    rwa [show lo+(i-lo)=i by omega] at this
   have aq:∀i,lo+l≤i→i<lo+k→K ys (lo+k)≤K ys i:=fun i a b=>by
    have:=af (i-lo) (by omega) (by omega)
    rw[show lo+(i-lo)=i by omega] at this
    exact Int.le_of_lt this
   repeat' split
   all_goals first
    |(exfalso;omega)
    |exact Int.le_refl _
    |exact ao _ (by omega) (by omega)
    |exact aq _ (by omega) (by omega)
    |exact ai _ _ (by omega) (by omega) (by omega)
end
section
variable {prog : Program} {w : World} {A : Around} {E : Value → Shared → Prop} {s : Shared} {a₀ : Array Keyed}
theorem zk9{st:SortSt}{Q:Unit→SortSt→Prop}(h0:AllI a₀)(hB:SBase a₀ st)
  (h:∀st',(arrOf st').Perm a₀→failedOf st'=none→SortedTo (arrOf st') a₀.size→Q () st'):wpS (model prog w) A E s sortRuns' Q st:=by
 rw[sortRuns'_eq]
 refine wpS_bind (wpS_get ?_)
 have hz:=hB.size
 extract_lets size mr
 have au:size=a₀.size:=hz
 clear_value size mr
 subst au
 have ax:SB a₀ st 0:=⟨hB.perm,hB.kind,hB.failed,by rw[hB.pend];rfl,Nat.zero_le _⟩
 refine wpS_bind (wpS_mono (wpS_forRange
  (I:=fun x c st'=>∃lo,c=(none,lo)∧x≤lo∧SB a₀ st' lo)
  (Q:=fun c st'=>c=(none,a₀.size)∧SB a₀ st' a₀.size) ?step ?fin ⟨0,rfl,Nat.le_refl _,ax⟩) ?post)
 case fin=>
  rintro c st' ⟨lo,rfl,h1,h2⟩
  have:=h2.le
  have:lo=a₀.size:=by omega
  subst this
  exact⟨rfl,h2⟩
 case step=>
  rintro x c st' _ hx ⟨lo,rfl,ay,hS⟩
  have aq:=hS.le
  dsimp (config:={ zeta:=false,zetaHave:=false,zetaUnused:=false }) only
  refine zat (c:=lo≥a₀.size) (fun c1=>?_) (fun c1=>?_)
  ·have:lo=a₀.size:=by omega
   subst this
   exact wpS_pure ⟨rfl,hS⟩
  have hsz:(arrOf st').size=a₀.size:=hS.perm.size_eq
  obtain⟨R,hR⟩:∃R:ForInStep (Option Unit×Nat)→SortSt→Prop,R=fun r ad=>∃lo,r=ForInStep.yield (none,lo)∧x+1≤lo∧SB a₀ ad lo:=⟨_,rfl⟩
  refine wpS_mono (Q:=R) ?_ (by rw[hR];rintro r ad ⟨lo,rfl,h1,h2⟩;exact⟨lo,rfl,h1,h2⟩)
  refine wpS_bind (zk4 (st:=st') (xs:=arrOf st') hS.kind (h0.perm hS.perm) (by omega) (by omega) fun m ys yp yl m1 m2 aj=>?_)
  dsimp (config:={ zeta:=false,zetaHave:=false,zetaUnused:=false }) only
  extract_lets n jp force nf
  have hn:n=m:=rfl
  clear_value n
  subst hn
  suffices hj:∀(n':Nat)(zs:Array Keyed),zs.Perm (arrOf st')→(∀k,k<lo→K zs k=K (arrOf st') k)→zba zs lo (lo+n')→1≤n'→lo+n'≤a₀.size →
    wpS (model prog w) A E s (jp () n') R (setArr st' zs) by
   refine zat (fun c2=>?_) (fun c2=>hj n ys yp yl aj m1 (by omega))
   refine wpS_bind (wpS_lift (wpAny_rule ⟨rfl,?_⟩))
   have hf:force=min (a₀.size-lo) mr:=rfl
   have yz:ys.size=(arrOf st').size:=yp.size_eq
   refine wpS_bind (zi8 hS.kind ((h0.perm hS.perm).perm yp) (by omega) (by omega) m1 aj fun zs zp zl ai=>?_)
   exact hj force zs (zp.trans yp) (fun k hk=>(zl k hk).trans (yl k hk)) ai (by omega) (by omega)
  clear ys yp yl aj m1 m2
  intro n' zs zp zl ai n1 n2
  have ak:SB a₀ (setArr st' zs) lo:=⟨zp.trans hS.perm,hS.kind,hS.failed,hS.chain.congr fun k _ hk=>zl k hk,aq⟩
  have al:zba (arrOf (setArr st' zs)) lo (lo+n'):=ai
  generalize setArr st' zs=ao at ak al
  clear zs zp zl ai
  refine wpS_bind (wpS_get ?_)
  extract_lets lo2 jp2
  suffices ap:∀af,SB a₀ af lo→zba (arrOf af) lo (lo+n')→wpS (model prog w) A E s (jp2 ()) R af by
   cases hb:(pendingOf ao).back? with
   |none=>exact ap ao ak al
   |some p=>
    obtain⟨p1,p2,p3⟩:=p
    dsimp (config:={ zeta:=false,zetaHave:=false,zetaUnused:=false }) only
    extract_lets pw
    clear_value pw
    refine wpS_bind (wpS_mono (wpS_forRange (I:=fun x c ad=>c=(none,())∧SB a₀ ad lo∧zba (arrOf ad) lo (lo+n')) (Q:=fun c ad=>c=(none,())∧SB a₀ ad lo∧zba (arrOf ad) lo (lo+n')) ?_ (fun _ _ hh=>hh) ⟨rfl,ak,al⟩) ?_)
    ·rintro y c af _ hy ⟨rfl,ae,ah⟩
     refine wpS_bind (wpS_get ?_)
     extract_lets p
     by_cases hp:p.size>1
     ·have hl:p.size-2<p.size:=by omega
      rw[if_pos hp,Array.getElem?_eq_getElem hl]
      dsimp (config:={ zeta:=false,zetaHave:=false,zetaUnused:=false }) only
      refine zat (fun c3=>wpS_pure ⟨rfl,ae,ah⟩) (fun c3=>?_)
      refine wpS_bind (zj4 h0 ae (show p.size-2+1<p.size by omega) fun aA ar aB am=>?_)
      exact wpS_pure ⟨rfl,ar,fun i j i1 i2 i3=>by rw[am i i1,am j (by omega)];exact ah i j i1 i2 i3⟩
     ·rw[if_neg hp]
      exact wpS_pure ⟨rfl,ae,ah⟩
    ·rintro c af ⟨rfl,ae,ah⟩
     refine wpS_bind (wpS_modify (ap _ ⟨ae.perm,ae.kind,ae.failed,?_,aq⟩ ah))
     refine ae.chain.pw ?_
     show _=((pendingOf af).modify _ _).toList.map _
     rw[Array.toList_modify]
     generalize (pendingOf af).toList=l
     generalize (pendingOf af).size-1=i
     apply List.ext_getElem?
     intro k
     rw[List.getElem?_map,List.getElem?_map,List.getElem?_modify]
     cases l[k]? with
     |none=>rfl
     |some q=>
      by_cases e:i=k
      ·simp[e]
      ·simp[e]
  intro af ae ah
  refine wpS_bind (wpS_modify (wpS_pure ?_))
  rw[hR]
  refine⟨lo+n',rfl,by omega,ae.perm,ae.kind,ae.failed,?_,n2⟩
  show Chain (arrOf af) 0 ((pendingOf af).push (lo,n',0)).toList (lo+n')
  rw[Array.toList_push]
  exact ae.chain.app ⟨rfl,n1,ah,rfl⟩
 case post=>
  rintro c st' ⟨rfl,hS⟩
  dsimp (config:={ zeta:=false,zetaHave:=false,zetaUnused:=false }) only
  refine wpS_bind (wpS_mono (wpS_forRange (I:=fun x c ad=>c=(none,())∧SB a₀ ad a₀.size∧(pendingOf ad).size+x≤a₀.size) (Q:=fun c ad=>c=(none,())∧SB a₀ ad a₀.size∧(pendingOf ad).size≤1) ?_ ?_ ?_) ?_)
  ·rintro x c ad _ hx ⟨rfl,ag,hp⟩
   refine wpS_bind (wpS_get ?_)
   refine zat (c:=(pendingOf ad).size≤1) (fun c1=>wpS_pure ⟨rfl,ag,c1⟩) (fun c1=>?_)
   extract_lets i before i'
   have aw:i'+1<(pendingOf ad).size:=by
    have:i'=i-1∨i'=i:=by
     show(if _ then i-1 else i)=i-1∨(if _ then i-1 else i)=i
     split
     ·exact .inl rfl
     ·exact .inr rfl
    have hi:i=(pendingOf ad).size-2:=rfl
    omega
   clear_value i'
   refine wpS_bind (zj4 h0 ag aw fun af ae az _=>?_)
   exact wpS_pure ⟨rfl,ae,by omega⟩
  ·rintro c ad ⟨hc,ag,hp⟩
   have:max 0 a₀.size=a₀.size:=by omega
   rw[this] at hp
   exact⟨hc,ag,by omega⟩
  ·have:=hS.chain.len
   rw[Array.length_toList] at this
   exact⟨rfl,hS,by omega⟩
  ·rintro c ad ⟨rfl,ag,hp⟩
   refine wpS_pure (h _ ag.perm ag.failed ?_)
   have hc:=ag.chain
   have hl:(pendingOf ad).toList.length≤1:=by rw[Array.length_toList];exact hp
   generalize (pendingOf ad).toList=l at hc hl
   match l,hc,hl with
   |[],hc,_=>
    have:a₀.size=0:=hc.symm
    intro i j _ hj;omega
   |[p],hc,_=>
    obtain⟨_,_,hs,e⟩:=hc
    have e':0+p.2.1=a₀.size:=e
    intro i j av hj
    exact hs i j (Nat.zero_le _) av (by omega)
end
section
variable {prog : Program} {w : World} {A : Around} {E : Value → Shared → Prop} {s : Shared}
theorem zst{a:Addr}{vs:List Value}{ns:List Int}{n:Nat}{P:Fin→Shared→Prop}(o0:s.heap.get? a=some (seqObj "list" vs.toArray n))(hI:IntsAre vs ns)(hz:vs.length≤sizeLine)
  (h:∀(out:Array Value)(ns':List Int),IntsAre out.toList ns'→ns'.Perm ns→ns'.Pairwise (·≤·)→P (.done (.ret .none)) { s with heap:=sortedHeap s.heap a vs out }):
  wpAny (model prog w) A (Builtin.«list.sort» ⟨[.ref a],[]⟩) P E s:=by
 rw[list_sort_plain]
 have la:a<s.heap.objs.size:=Heap.lt_size o0
 obtain⟨e1,o1⟩:∃e,(s.heap.update a (Obj.mapSeq fun _=>#[])).get? a=some (seqObj "list" #[] e):=⟨_,get?_update_seq o0 _⟩
 have o6:(((s.heap.update a (Obj.mapSeq fun _=>#[])).push (seqObj "tuple" vs.toArray 0)).push (seqObj "list" #[] 0)).get? a=some (seqObj "list" #[] e1):=by
  rwa [Heap.get?_push_ne _ _ _ (by rw[size_push',Heap.size_update];exact Nat.ne_of_lt (Nat.lt_succ_of_lt la)),Heap.get?_push_ne _ _ _ (by rw[Heap.size_update];exact Nat.ne_of_lt la)]
 refine wpAny_bind (listItems_at o0 rfl (wpAny_bind (listUpdate_at o0 rfl ?_ (by simpa using hz) (Nat.zero_le _))))
 refine wpAny_bind (seqEpoch_at o1 rfl (wpAny_bind (wpAny_newTuple (wpAny_bind (wpAny_newList (wpAny_holding ?_))))))
 have ae:∀xs:Array Keyed,xs.Perm (pairsOf vs)→(xs.map (·.2)).size≤sizeLine:=fun xs p=>Nat.le_trans (Nat.le_of_eq ((Array.size_map ..).trans (p.size_eq.trans (pairsOf_size vs)))) hz
 have fin:∀xs:Array Keyed,xs.Perm (pairsOf vs)→SortedTo xs (pairsOf vs).size→P (.done (.ret .none)) { s with heap:=sortedHeap s.heap a vs (xs.map (·.2)) }:=fun xs p so=>by
  obtain⟨ms,m1,m2,m3⟩:=sorted_out hI p so
  exact h _ ms m1 m2 m3
 by_cases c:vs.toArray.size<2
 ·rw[if_pos c,if_pos c]
  refine wpAny_bind (wpAny_pure (wpAny_bind (wpAny_pure ?_)))
  refine wpAny_bind (seqEpoch_at o6 rfl (wpAny_bind (listUpdate_at o6 rfl ?_ (Nat.zero_le _) (Nat.le_succ_of_le (ae _ (Array.Perm.refl _))))))
  simp only[bne_self_eq_false,Bool.false_eq_true,if_false]
  refine wpAny_pure (fin (pairsOf vs) (Array.Perm.refl _) fun i j i1 i2=>?_)
  have hl:vs.length<2:=by simpa using c
  have:i=j:=by rw[pairsOf_size] at i2;omega
  subst this
  exact Int.le_refl _
 ·rw[if_neg c,if_neg c]
  obtain⟨x,y,r,rfl⟩:∃x y r,vs=x::y::r:=by
   cases vs with
   |nil=>exact absurd (show 0<2 by decide) c
   |cons x r=>cases r with
    |nil=>exact absurd (show 1<2 by decide) c
    |cons y r=>exact⟨x,y,r,rfl⟩
  rw[keyKind_ints hI]
  refine wpAny_bind (wpAny_pure (wpAny_bind (wpAny_mono (zk9 (a₀:=pairsOf (x::y::r)) (st:=SortSt.mk' oneType' (pairsOf (x::y::r)) #[] 7 none)
   (Q:=fun _ ad=>(arrOf ad).Perm (pairsOf (x::y::r))∧failedOf ad=none∧SortedTo (arrOf ad) (pairsOf (x::y::r)).size) hI.intKeys ⟨Array.Perm.refl _,rfl,rfl,rfl⟩ fun _ b1 b2 b3=>⟨b1,b2,b3⟩) ?_ fun _ _ e=>e)))
  rintro⟨u,ad⟩ s' ⟨rfl,b1,b2,b3⟩
  refine wpAny_bind (seqEpoch_at o6 rfl (wpAny_bind (listUpdate_at o6 rfl ?_ (Nat.zero_le _) (Nat.le_succ_of_le (ae _ b1)))))
  rw[b2]
  simp only[bne_self_eq_false,Bool.false_eq_true,if_false]
  exact wpAny_pure (fin _ b1 b3)
theorem sorted_any{l:Addr}{vs:List Value}{ns:List Int}{Q:Value→Shared→Prop}(hl:s.heap.IsList l vs.toArray)(hI:IntsAre vs ns)(hz:vs.length≤sizeLine)
  (h:∀(out:Array Value)(ns':List Int),IntsAre out.toList ns'→ns'.Perm ns→ns'.Pairwise (·≤·)→Q (.ref (s.heap.objs.size+1)) { s with heap:=sortedAll s.heap vs out }):
  wpAny (model prog w) A (call (.builtin "sorted") [.ref l]) Q E s:=by
 have ez:((s.heap.push (seqObj "list" #[] 0)).update s.heap.objs.size (Obj.mapSeq (·++vs.toArray))).objs.size=s.heap.objs.size+1:=by rw[Heap.size_update,size_push']
 have oL:(((s.heap.push (seqObj "list" #[] 0)).update s.heap.objs.size (Obj.mapSeq (·++vs.toArray))).push (seqObj "list" vs.toArray 0)).get? (s.heap.objs.size+1)=some (seqObj "list" vs.toArray 0):=by
  rw[←ez];exact Heap.get?_push_size _ rfl
 refine Calls.call_function_entry kind_sorted plain_sorted entry_sorted (args_sorted1 _) (wpAny_bind (m:=checkCount "sorted" 1 1 _) (wpAny_pure (wpAny_bind (collect_list hl ?_ hz))))
 refine wpAny_bind (wpAny_newList ?_)
 rw[ez]
 refine wpAny_bind (wpAny_holding (wpAny_call_entry slot_list_sort ⟨_,oL,rfl⟩ entry_list_sort (zst oL hI hz fun out ns' a1 a2 a3=>⟨_,rfl,?_⟩) (args_list_sort _)))
 exact wpAny_pure ⟨_,rfl,h out ns' a1 a2 a3⟩
end
end Srt
namespace L2
open PySem PySem.Spec PyProof.Rows
variable {X : Cx}
theorem zmc:zcq X (.builtin "sorted") (fun xs H Q=>∃(p:Addr)(ns:List Int),xs=[.ref p]∧SqL X.K H p (ns.map V.int)∧∀ms:List Int,ms.Perm ns→ms.Pairwise (·≤·)→∀l,H l=none→Q (.ref l) (upd H l (.lst (ms.map V.int)))):=by
 intro pins s σ H xs us Q I r h
 obtain⟨p,ns,rfl,hq,q⟩:=h
 obtain⟨u,rfl,rx⟩:=zer r
 cases rx
 obtain⟨ag,rv,pl,af⟩:=I.list hq
 have ad:=rv.length
 rw[List.length_map] at ad af
 refine Srt.sorted_any pl.isList (zb7 rv) (by omega) fun ae ms a1 a2 a3=>?_
 obtain⟨e,he⟩:=sortedAll_at s.heap ag ae
 have hm:ms.length=ns.length:=a2.length_eq
 refine⟨.ref (s.heap.objs.size+1),_,I.laid (t':=s.toks) (fun b o=>sortedAll_old) (Nat.le_succ _) (show ObjOk X.prog X.w _ _ _ (.lst (ms.map V.int)) from⟨by rw[List.length_map,hm];exact af,ae.toList,e,zgr a1,he⟩),rfl,q ms a2 a3 _ (I.hok.fresh (Nat.le_succ _))⟩
end L2
namespace Wd
open PySem L2 Ow
structure Bg where
 u:Nat
 lo:Int
 hi:Int
 ks:List Nat
def Bg.tie(b:Bg):Tie:=.bough b.u b.lo b.hi b.ks
theorem zs2{m:Nat}:∀{bs:List PyData},(∀b∈bs,zcv m b=true)→∃L:List Bg,bs=L.map (fun b=>b.tie.toD)∧∀b∈L,Tie.BoughOk m b.u b.lo b.hi b.ks
 |[],_=>⟨[],rfl,fun _ h=>nomatch h⟩
 |b::bs,h=>by
  obtain⟨u,lo,hi,ks,e,ok⟩:=zm8 (h b List.mem_cons_self)
  obtain⟨L,e2,ok2⟩:=zs2 fun x hx=>h x (List.mem_cons_of_mem _ hx)
  refine⟨⟨u,lo,hi,ks⟩::L,?_,fun x hx=>?_⟩
  ·rw[e,e2];rfl
  ·rcases List.mem_cons.mp hx with rfl|hx
   ·exact ok
   ·exact ok2 x hx
theorem zev{α β:Type}{g:α→β}{l:List α}{i:Nat}{x:α}(h:l[i]?=some x):(l.take (i+1)).map g=(l.take i).map g++[g x]:=by
 rw[List.take_add_one,h,Option.toList_some,List.map_append]
 rfl
theorem zcz(A B:List Nat):zaj (A++B)=zaj A++zaj B:=List.map_append
end Wd
namespace L2
open PySem PySem.Spec PyProof.Rows
section
variable {X : Cx}
def zvl:V→List V→Hp→VK→Prop:=fun x vs H Q=>∃(l:Addr)(xs:List V)(i:Int)(y:V),x=.ref l∧vs=[.int i,y]∧H l=some (.lst xs)∧0≤i∧i≤xs.length∧xs.length<sizeLine∧Q .non (upd H l (.lst (xs.take i.toNat++y::xs.drop i.toNat)))
theorem zra:MtM X "list.insert" zvl:=by
 intro pins s σ H x vs v us Q I rx rv h
 obtain⟨l,xs,i,y,rfl,rfl,hH,h0,hk,hz,q⟩:=h
 cases rx
 obtain⟨u1,ae,rfl,r1,rr⟩:∃u1 ae,us=u1::ae∧RelV (.int i) u1∧Vals [y] ae:=by
  cases rv with
  |cons a b=>exact⟨_,_,rfl,a,b⟩
 obtain⟨u2,rfl,ru⟩:=rr.one
 obtain⟨t,rfl⟩:=r1
 obtain⟨z,ad,n,r,hl,e⟩:=I.lstM hH
 have hsz:ad.toArray.size≤sizeLine:=by rw[List.size_toArray,←hl];exact z
 have b1 : -(2^63)≤i:=Int.le_trans (by decide) h0
 have b2:i<2^63:=by
  have ag:((xs.length:Nat):Int)<((2^63:Nat):Int):=Int.ofNat_lt.mpr (Nat.lt_of_le_of_lt z zik)
  exact Int.lt_of_le_of_lt hk ag
 have af:¬(!Builtin.List.listFitsIndex i)=true:=by
  rw[fitsIndex_both b1 b2]
  exact Bool.false_ne_true
 refine call_meets F.slot_list_insert ⟨_,e,rfl⟩ F.entry_list_insert (F.args_list_insert_3 _ _ _) (AutoListH.list_insert_list_int_val_1 l ad.toArray n i t u2 af hsz) ⟨e,?_⟩
 have r2:Vals (xs.take i.toNat++y::xs.drop i.toNat) (ad.take i.toNat++u2::ad.drop i.toNat):=(r.take i.toNat).append (.cons ru (r.drop i.toNat))
 refine⟨.non,_,I.lset (its':=ad.take i.toNat++u2::ad.drop i.toNat) hH e ?_ r2 ?_,rfl,q⟩
 ·have hn:¬(i<0):=Int.not_lt.mpr h0
  have hm:i.toNat≤ad.length:=by omega
  simp[hn,Nat.min_eq_left hm]
  exact List.take_of_length_le (by rw[List.length_drop];exact Nat.le_refl _)
 ·rw[List.length_append,List.length_cons,List.length_take,List.length_drop]
  omega
end
end L2
namespace Wd
open PySem L2 Ow
def zrz(K:PySem.W.Frag):Sp:=fun vs H Q _=>∃(pen sp:Addr)(ns:List Int)(m:Nat)(k:Int),vs=[.ref pen,.int (m:Int)]∧Pen K H pen sp ns k∧0≤k∧k≤900000∧1≤m∧m≤9 ∧
 ∀(l:Addr)(bs:List PyData)(xs:List V)(k':Int)(H':Hp),SameX pen H H'→H' pen=some (.lst [.ref sp,.int k'])→k≤k'→k'≤k+80→H' l=some (.lst xs)→H l=none→DnL H' bs xs→zh7 m bs→bs.length≤8→bs.all (zbf 3)=true→Q (.ref l) H'
theorem _root_.Ow.GAt.ins{H0 H:Hp}{g l t:Addr}{pre post:List Grp}{u k:Int}(G:GAt H0 H g (pre++post))(hf:H0 l=none)(hl:H l=none)(ht:upd H l (.lst [.int k]) t=none):
  GAt H0 (upd (upd (upd H l (.lst [.int k])) t (.tup [.int u,.ref l])) g (.lst ((pre.map fun x=>V.ref x.t)++V.ref t::(post.map fun x=>V.ref x.t)))) g (pre++⟨t,u,l,[k]⟩::post):=by
 have A:=GAt.add2 (u:=u) (k:=k) G hf hl ht
 have mem:∀x,x∈pre++⟨t,u,l,[k]⟩::post↔x∈(pre++post)++[⟨t,u,l,[k]⟩]:=fun x=>by
  simp only[List.mem_append,List.mem_cons,List.not_mem_nil,or_false]
  constructor
  ·rintro(h|h|h)
   ·exact .inl (.inl h)
   ·exact .inr h
   ·exact .inl (.inr h)
  ·rintro((h|h)|h)
   ·exact .inl h
   ·exact .inr (.inr h)
   ·exact .inr (.inl h)
 have other:∀(o o':HO)(b:Addr),b≠g→(upd (upd (upd H l (.lst [.int k])) t (.tup [.int u,.ref l])) g o) b=(upd (upd (upd H l (.lst [.int k])) t (.tup [.int u,.ref l])) g o') b:=fun o o' b n=>by rw[zam n,zam n]
 refine⟨?_,A.new,fun x hx=>?_,fun x hx=>?_,?_⟩
 ·rw[zac,List.map_append]
  rfl
 ·have h:=A.tup x ((mem x).mp hx)
  have n:x.t≠g:=fun z=>by rw[z,zac] at h;cases h
  rw[other _ _ _ n]
  exact h
 ·have h:=A.lst x ((mem x).mp hx)
  refine⟨?_,h.2⟩
  rw[other _ _ _ (Ne.symm h.2.2)]
  exact h.1
 ·have p:(pre++(⟨t,u,l,[k]⟩:Grp)::post).Perm ((pre++post)++[⟨t,u,l,[k]⟩]):=by
   rw[List.append_assoc]
   exact List.Perm.append_left _ (List.perm_append_singleton _ _).symm
  exact((p.map (·.l)).nodup_iff).mpr A.nd
theorem _root_.Ow.GOk.ins{k:Nat}{pre post:List Grp}{t l:Addr}{u:Int}(G:GOk ((k:Int)+1) (pre++post))(u0:0≤u)(u1:u<(k:Int)+1):GOk ((k:Int)+2) (pre++⟨t,u,l,[(k:Int)+1]⟩::post):=by
 have A:=GOk.new (t:=t) (l:=l) G u0 u1
 have p:(pre++(⟨t,u,l,[(k:Int)+1]⟩:Grp)::post).Perm ((pre++post)++[⟨t,u,l,[(k:Int)+1]⟩]):=by
  rw[List.append_assoc]
  exact List.Perm.append_left _ (List.perm_append_singleton _ _).symm
 exact⟨fun x hx=>A.each x (p.mem_iff.mp hx),(List.Perm.flatMap_right _ p).trans A.perm⟩
end Wd
namespace HT
open PySem PySem.Spec PyProof.Rows
section
variable {prog : Program} {w : World} {A : Around} {E : Value → Shared → Prop} {s : Shared}
theorem tup_whole{t sl:Addr}{items:Array Value}{vl vu:Value}{lo hi:Option Int}{Q:Value→Shared→Prop}(ht:IsTup s.heap t items)(hs:s.heap.IsSliceOf sl vl vu .none)(pl:IsPart vl lo)(pu:IsPart vu hi)
  (h0:sIx items.size 0 lo=0) (h1:sIx items.size items.size hi=items.size) (h:Q (.ref t) s):wpAny (model prog w) A (getItem (.ref t) (.ref sl)) Q E s:=by
 obtain⟨os,ae,ag,ah⟩:=id hs
 have af:s.TypeIs (.ref sl) "slice" := ⟨os,ae,ag⟩
 unfold getItem
 refine wpAny_holding ?_
 refine wpAny_bind (wpAny_sequenceKey ht.typeIs (by decide) ?_)
 refine wpAny_bind (wpAny_callSpecial?_slot (name:=Str.ofString "__getitem__") ht.typeIs PyProof.Rows.slot_tuple_getitem (wpAny_call_entry PyProof.Rows.slot_tuple_getitem ht.typeIs entry_tuple_getitem ?_ (args_tuple_getitem _ _)))
 show wpAny _ _ (Builtin.Tuple.tupleItemsOf (.ref t)>>=_) _ _ s
 refine wpAny_bind (tupleItemsOf_ ht ?_)
 refine wpAny_bind (wpAny_typeOf af ?_)
 rw[if_pos (by decide)]
 refine wpAny_bind (ze8 hs pl pu ?_)
 have ad:(((sIx items.size 0 lo:Nat):Int)==0&&(1:Int)==1&&(sIx items.size items.size hi-sIx items.size 0 lo)==items.size)=true:=by
  rw[h0,h1,Nat.sub_zero]
  simp
 show wpAny _ _ (if (((sIx items.size 0 lo:Nat):Int)==0&&(1:Int)==1&&(sIx items.size items.size hi-sIx items.size 0 lo)==items.size)=true then _ else _) _ _ s
 rw[if_pos ad]
 refine wpAny_bind (wpAny_bind (wpAny_typeOf ht.typeIs (wpAny_pure ?_)))
 show wpAny _ _ (if (Value.type "tuple" == Value.type "tuple")=true then _ else _) _ _ s
 rw[if_pos (by decide)]
 refine wpAny_bind (wpAny_rule ?_)
 exact wpAny_pure ⟨_,rfl,wpAny_pure h⟩
end
end HT
namespace L2
open PySem PySem.Spec PyProof.Rows
section
variable {X : Cx} {e st : Expr} {te tst : TE} {pos p2 : Pos}
theorem zmk:SlR X (fun x lo hi H Q=>∃a xs,x=.ref a∧H a=some (.tup xs)∧∀p H',Same H H'→H' p=some (.tup (zjc xs lo hi))→Q (.ref p) H'):=by
 intro pins s σ H x v vl vu lo hi sl Q I rx hs pl pu h
 obtain⟨a,xs,rfl,hx,q⟩:=h
 by_cases hw:HT.sIx xs.length 0 lo=0∧HT.sIx xs.length xs.length hi=xs.length
 ·cases rx
  obtain⟨ae,r,ht,hz⟩:=I.tuple (.inl (.inl hx))
  have ad:ae.toArray.size=xs.length:=by rw[List.size_toArray];exact r.length.symm
  refine⟨"tuple",_,PyProof.Rows.slot_tuple_getitem.lookup,ht.typeIs,?_⟩
  refine HT.tup_whole ht hs pl pu (by rw[ad];exact hw.1) (by rw[ad];exact hw.2) ⟨.ref a,H,I,rfl,q a H (Same.refl H) ?_⟩
  rw[hx]
  unfold zjc
  rw[hw.1,hw.2,List.drop_zero,Nat.sub_zero,List.take_length]
 ·exact zxq pins s σ H _ v vl vu lo hi sl Q I rx hs pl pu ⟨a,xs,rfl,.inl (.inl hx),hw,fun p hp=>q p _ (zhz fun b o e=>by rw[zam (zaq e hp)];exact e) zac⟩
theorem zpk(hu:X.A.units+64<cLine):OpR X (compareOp .Eq) (fun x y H Q=>∃d e:PyData,Dn H d x∧Dn H e y∧SeqAt.shaped d=true∧SeqAt.shaped e=true∧Q (.bl (PyData.eqv d e)) H):=by
 intro pins s σ H x y v u Q I rx ry h
 obtain⟨d,e,hd,he,sd,se,q⟩:=h
 obtain⟨as,ra⟩:=Dn.reads I d x v hd (SeqAt.canLay_of_shaped sd) rx
 obtain⟨bs,rb⟩:=Dn.reads I e y u he (SeqAt.canLay_of_shaped se) ry
 exact SeqAt.compareEq_shaped ra rb sd se hu ⟨.bl _,H,I,rfl,q⟩
end
end L2
namespace Wd
open PySem L2 Ow
mutual
theorem zoa:∀(n:Nat)(d:PyData),zbf n d=true→PyData.canLay0 d=true∧PyData.depth d≤n+1
 |_,.int i,_=>⟨by simp[PyData.canLay0],by simp only[PyData.depth];omega⟩
 |n,.str s,h=>⟨by cases n<;>simpa [PyData.canLay0] using (show PyData.strOk s=true from h),by simp only[PyData.depth];omega⟩
 |n+1,.tuple ds,h=>by
  have z:(decide (ds.length≤1000)&&ds.all (zbf n))=true:=h
  rw[Bool.and_eq_true] at z
  obtain⟨a,b⟩:=zgb n ds z.2
  exact⟨by simpa [PyData.canLay0] using a,by simp only[PyData.depth];omega⟩
 |0,.tuple _,h=>by cases h
 |0,.none,h=>by cases h
 |n+1,.none,h=>by cases h
 |0,.bool _,h=>by cases h
 |n+1,.bool _,h=>by cases h
 |0,.list _,h=>by cases h
 |n+1,.list _,h=>by cases h
 |0,.dict _,h=>by cases h
 |n+1,.dict _,h=>by cases h
theorem zgb:∀(n:Nat)(ds:List PyData),ds.all (zbf n)=true→PyData.canLayAll0 ds=true∧PyData.depthAll ds≤n+1
 |_,[],_=>⟨by simp[PyData.canLayAll0],by simp only[PyData.depthAll];omega⟩
 |n,d::ds,h=>by
  rw[List.all_cons,Bool.and_eq_true] at h
  obtain⟨a1,b1⟩:=zoa n d h.1
  obtain⟨a2,b2⟩:=zgb n ds h.2
  exact⟨by simp[PyData.canLayAll0,a1,a2],by simp only[PyData.depthAll];omega⟩
end
theorem zj6{n:Nat}{ds:List PyData}(hn:n≤60)(h:ds.all (zbf n)=true):SeqAt.shaped (.tuple ds)=true:=by
 obtain⟨a,b⟩:=zgb n ds h
 unfold SeqAt.shaped
 rw[Bool.and_eq_true]
 refine⟨by simp[PyData.canLay0,a],decide_eq_true ?_⟩
 simp only[PyData.depth]
 omega
theorem zot(xs:List V)(t:Nat)(h:t≤xs.length):zjc xs none (some (t:Int))=xs.take t:=by
 unfold zjc
 rw[HT.sIx_nat,HT.sIx_none,Nat.min_eq_left h,List.drop_zero,Nat.sub_zero]
theorem zs9(xs:List V)(t:Nat)(h:t≤xs.length):zjc xs (some (t:Int)) none=xs.drop t:=by
 unfold zjc
 rw[HT.sIx_nat,HT.sIx_none,Nat.min_eq_left h,List.take_of_length_le]
 rw[List.length_drop]
 exact Nat.le_refl _
end Wd
namespace L2
open PySem PySem.Spec
@[irreducible] def PEi(X:Cx)(e:Expr)(t:TE):Prop:=PE X e t
@[irreducible] def PSi(X:Cx)(e:Stmt)(t:TS):Prop:=PS X e t
@[irreducible] def PLi(X:Cx)(l:List Stmt)(t:TS):Prop:=PSs X l t
end L2
namespace Wd
open PySem L2 Ow
theorem zrd{l:List Nat}{i s:Nat}(h:l[i]?=some s)(g:Nat→Bool):zaj ((l.take (i+1)).filter g)=zaj ((l.take i).filter g)++(if g s=true then [.int (s:Int)] else []):=by
 rw[List.take_add_one,h,Option.toList_some,List.filter_append]
 unfold zaj
 rw[List.map_append]
 cases e:g s
 ·rw[List.filter_cons_of_neg (by rw[e];decide)];rfl
 ·rw[List.filter_cons_of_pos e];rfl
theorem zqt{K:PySem.W.Frag}{a:Addr}{l:List Nat}{σ0 σr:St}{H:Hp}{tc:TT}{Q:VK}(gB:Nat→Bool)(h0:σ0=none::σr)(ha:H a=some (.lst (zaj l)))(few:l.length≤1000)
  (ht:∀s∈l,∀R:Bool→Hp→Prop,R (gB s) H→tc (some (.int (s:Int))::σr) H R)
  (hd:∀p,H p=none→Q (.ref p) (upd H p (.lst (zaj (l.filter gB))))):
  znm (Itl K a) (zkv 0) tc (zti 0) σ0 H Q:=by
 refine zdl (K:=K) (a:=a) (xs:=zaj l) (fun i ys σ H2=>(∃v,σ=v::σr)∧H2=H∧ys=zaj ((l.take i).filter gB)) ⟨⟨none,h0⟩,rfl,rfl⟩ (fun i ys σ H2 hi pv=>?_) (fun i ys σ H2 hi pv=>?_) (fun i x ys σ H2 hx pv=>?_) (fun ys σ H2 pv p hp=>?_)
 ·obtain⟨_,_,rfl⟩:=pv
  rw[List.length_map]
  refine small (Nat.le_trans (List.length_filter_le _ _) ?_)
  rw[List.length_take]
  omega
 ·rw[pv.2.1];exact SqL.of ha
 ·obtain⟨⟨v,rfl⟩,rfl,rfl⟩:=pv
  rw[List.getElem?_map] at hx
  obtain⟨s,hs,rfl⟩:=Option.map_eq_some_iff.mp hx
  refine ht s (List.mem_of_getElem? hs) _ ?_
  have e:=zrd hs gB
  cases c:gB s
  ·refine zc5 ?_
   rw[c,if_neg (by decide),List.append_nil] at e
   exact⟨⟨_,rfl⟩,rfl,e.symm⟩
  ·refine zpq ?_
   rw[c,if_pos rfl] at e
   exact⟨_,rfl,⟨_,rfl⟩,rfl,e.symm⟩
 ·obtain⟨_,rfl,rfl⟩:=pv
  have e:l.take (zaj l).length=l:=by rw[show(zaj l).length=l.length from List.length_map _,List.take_length]
  rw[e]
  exact hd p hp
theorem zp3{H H1 H2:Hp}(a:zk3 H H1)(b:zk3 H1 H2):zk3 H H2:=fun c xs h=>b c xs (a c xs h)
end Wd
namespace L2
open PySem PySem.Spec PyProof.Rows
abbrev zhs:List Value:=[.type "ValueError",.type "Exception",.type "BaseException",.type "object"]
abbrev zg3:String := "ValueError.__new__"
structure XCls(h:Heap)(C:Addr)(bm:List Value):Prop where
 ex:∃N nm qn bs hd sn sub ab col dd k0 k1 k2 k3 k5 mN,h.get? C=some (excClassObj nm qn C N bs bm hd sn sub ab col dd k0 k1 k2 k3 k5 zg3)∧h.Ns N mN∧mN "__init__" = none∧OwnTail h zhs bm
theorem XCls.mk'{K:PySem.W.Frag}{h:Heap}{C:Addr}(X:K.In h)(q:PySem.W.excIn K C zhs zg3=true):∃bm,XCls h C bm:=by
 unfold PySem.W.excIn at q
 split at q
 case h_2=>cases q
 case h_1 od cd sl hl=>
  split at q
  case h_2=>cases q
  case h_1 C2 bm a0 a1 a2 a3 nw a5 hm hs=>
   rw[Bool.and_eq_true,Bool.and_eq_true,Bool.and_eq_true,Bool.and_eq_true,Bool.and_eq_true,beq_iff_eq,beq_iff_eq,beq_iff_eq,Bool.not_eq_true'] at q
   obtain⟨⟨⟨⟨⟨q1,q2⟩,q3⟩,q4⟩,q5⟩,q6⟩:=q
   subst q1 q2
   obtain⟨f1,f2,f3,f4,f5,f6,f7,f8,f9,fa,fb⟩:=cd
   replace hm:f3=.ref C2::bm:=hm
   replace q3:fb=false:=q3
   subst hm q3
   obtain⟨ls⟩:=sl
   replace hs:ls=[a0,a1,a2,a3,some (.builtin zg3),a5]:=hs
   subst hs
   exact⟨bm,⟨_,_,_,_,_,_,_,_,_,_,_,_,_,_,_,_,X _ _ hl,.of_isNs (PySem.W.isNs_of_in X q5),PySem.W.nsMap_none_of_in X q5 q6,PySem.W.tail_of_in X q4⟩⟩
theorem zni{M:Model}{A:Around}{E:Value→Shared→Prop}{s:Shared}{C D e:Addr}{bC bD:List Value}{oe:Obj}{Q:Bool→Shared→Prop}(xC:XCls s.heap C bC)(xD:XCls s.heap D bD)
  (he:s.heap.get? e=some oe) (hcls:oe.cls=.ref D) (hin:(Value.ref D::bD).contains (.ref C)=true) (hq:Q true s):wpAny M A (excMatches (.ref e) (.ref C)) Q E s:=by
 obtain⟨N,nm,qn,bs,hd,sn,sub,ab,col,dd,k0,k1,k2,k3,k5,mN,hC,_,_,tC⟩:=xC.ex
 obtain⟨N',ak,am,ag,ao,ar,ae,ai,ad,au,aj,ap,al,ah,af,aq,hD,_,_,tD⟩:=xD.ex
 obtain⟨h,g,d,t,os⟩:=s
 have hB:(Value.ref C::bC).contains (.type "BaseException")=true:=by rw[List.contains_cons,tC.hasType (b:=true) (by decide),Bool.or_true]
 have f:=tc_notTuple
 unfold excMatches
 repeat (first|(with_reducible refine wpAny_loadPart_at he ?_;rw[hcls])|with_reducible refine wpAny_loadPart_at hC ?_|(with_reducible refine wpAny_isSubtype_exc hC ?_;rw[hB])|(with_reducible refine wpAny_isSubtype_exc hD ?_;rw[hin])|wp_step)
 exact hq
section
variable {X : Cx} {pins : List (Addr × Obj)} {σ : St} {H H' : Hp} {s s' : Shared} {h2 : Heap}
theorem zqh{h h':Heap}{c:Addr}{v:Option Value}(u:h.UpToSlots h')(x:h.IsCell c v):h'.IsCell c v:=by
 obtain⟨o,e,d⟩:=x
 obtain⟨sl,e'⟩:=u c o e fun vs q=>by rw[d] at q;cases q
 exact⟨_,e',d⟩
theorem Inv.upto(I0:Inv X pins σ H s)(I1:Inv X pins σ H' s')(k:∀b o,s'.heap.get? b=some o→b∉frs X.stack→(H' b≠none∨∃u,s.heap.get? b=some u)→h2.get? b=some o)(u:s'.heap.UpToSlots h2):Inv X pins σ H' { s' with heap:=h2 } where
 ok:=I1.ok
 os:=I1.os
 bare:=I1.bare
 base:=by
  have ad:∀b o,X.s₀.heap.get? b=some o→b∉X.fs→b∉frs X.stack:=fun b o e n z=>by
   rcases List.mem_cons.mp (I1.stkSub b z) with r|r
   ·have h1:=Heap.lt_size e
    have h2:=I1.ok.above
    rw[r] at h1
    exact absurd (Nat.lt_of_lt_of_le h1 h2) (Nat.lt_irrefl _)
   ·exact n r
  refine⟨fun b o e n hf hx=>?_,fun b o e n hf hx=>?_,I1.base.free,fun b o e hx=>?_,I1.base.tups,I1.base.frzs,I1.base.tbls⟩
  ·exact k b o (I1.base.keep b o e n hf hx) (ad b o e hf) (.inr ⟨_,I0.base.keep b o e n hf hx⟩)
  ·obtain⟨sl,e1⟩:=I1.base.slot b o e n hf hx
   obtain⟨_,o2,e2,d2⟩:=I1.funs.mem hf
   rw[e1] at e2
   cases e2
   obtain⟨ae,e3⟩:=u b _ e1 d2
   exact⟨ae,e3⟩
  ·obtain⟨o1,e1⟩:=I1.base.there b o e hx
   by_cases hb:b∈frs X.stack
   ·obtain⟨_,o2,e2,d2⟩:=I1.stack.mem hb
    obtain⟨sl,e3⟩:=u b o2 e2 d2
    exact⟨_,e3⟩
   ·obtain⟨o0,e0⟩:=I0.base.there b o e hx
    exact⟨o1,k b o1 e1 hb (.inr ⟨_,e0⟩)⟩
 loc:=by
  obtain⟨m,hn,hl⟩:=I1.loc
  refine⟨m,u.ns hn,fun i x v h1 h2 h3=>?_⟩
  obtain⟨w,r,l⟩:=hl i x v h1 h2 h3
  refine⟨w,r,?_⟩
  rcases l with l|⟨l,c,h4,h5⟩
  ·exact .inl l
  ·exact .inr ⟨l,c,h4,zqh u h5⟩
 cell:=fun x c e=>let ⟨v,h⟩:=I1.cell x c e;⟨v,zqh u h⟩
 free:=I1.free
 freeC:=I1.freeC
 pin:=fun p hp=>by
  obtain⟨h1,h2,h3,h4,h5⟩:=I1.pin p hp
  have ad:p.1∉frs X.stack:=fun z=>by
   rcases List.mem_cons.mp (I1.stkSub _ z) with r|r
   ·exact h3 r
   ·exact h4 r
  exact⟨k _ _ h1 ad (.inr ⟨_,(I0.pin p hp).1⟩),h2,h3,h4,h5⟩
 hok:=fun a o e=>by
  refine(I1.hok a o e).stay (fun b w hb q=>?_) (fun _ q=>q) fun _ _ q=>q
  have hn:H' b≠none:=by
   rcases hb with rfl|hb
   ·rw[e];exact Option.some_ne_none _
   ·rw[hb];exact Option.some_ne_none _
  exact k b w q (fun z=>hn (I1.stkFree b z)) (.inl hn)
 len:=I1.len
end
def CXR(P:Program)(w:World):CXT:=fun outer H s E e s'=>∃(ea D:Addr)(a0:Value)(H':Hp)(B:Heap),e=.ref ea∧s'.os=s.os∧AllBare s'.gens∧Un (frs outer) [] H H' s.heap s'.heap∧HOk P w H' s'.heap ∧
 Heap.FlyingW B outer ea (.ref D) a0 s'.heap∧(∀b o,s'.heap.get? b=some o→b∉frs outer→(H' b≠none∨∃u,s.heap.get? b=some u)→B.get? b=some o)∧H' ea=none∧E (.ref D) none H'
theorem zwo{P:Program}{w:World}{H:Hp}{h:Heap}{a:Addr}{o:HO}(x:ObjOk P w H h a o):∃u,h.get? a=some u:=by
 cases o with
 |lst xs=>obtain⟨_,_,_,_,e⟩:=x;exact⟨_,e⟩
 |tup xs=>obtain⟨_,_,_,ob,e,_⟩:=x;exact⟨_,e⟩
 |dK kvs=>obtain⟨_,_,_,_,ob,_,_,e,_⟩:=x;exact⟨_,e⟩
 |dT kvs=>obtain⟨_,_,_,_,ob,_,_,e,_⟩:=x;exact⟨_,e⟩
 |set S n=>obtain⟨ob,_,_,_,e,_⟩:=x;exact⟨_,e⟩
 |ins C dx fs=>obtain⟨_,_,_,e,_⟩:=x;exact⟨_,e⟩
 |own y=>exact x
 |xd fs=>obtain⟨_,⟨_,_,_,e,_⟩,_⟩:=x;exact⟨_,e⟩
 |rng lo hi=>obtain⟨_,_,_,e⟩:=x;exact⟨_,e⟩
 |frz ob u=>obtain⟨e,_⟩:=x;exact⟨_,e⟩
 |tbl ps=>exact⟨_,(show h.get? a=some _ from x)⟩
 |met f y=>exact⟨_,(show h.get? a=some _ from x)⟩
 |ext φ=>obtain⟨_,e,_⟩:=x;exact e
theorem zvp{l:List Env}:∀env∈l,∀b,env.frame=some b→b∈frs l:=fun env he b hb=>List.mem_filterMap.mpr ⟨env,he,hb⟩
theorem zux{P:Program}{w:World}{K:PySem.W.Frag}{mg:Str→Option Value}{base:Heap}{N:List Str}{qual:Str}{scope:Scope}{f:Addr}{cd:Value}{A:Around}{outer:List Env}{s0:Shared}{H0:Hp}{E:XK}
  {pins:List (Addr×Obj)} {σ:St} {H:Hp} {s:Shared} (I:Inv (zdw (CXR P w) P w K mg base N qual scope f cd A outer s0 H0 E) pins σ H s) {h1:Heap} {e D:Addr} {vs:List Value} (hx:Heap.MadeExcOf s.heap h1 e (.ref D) vs) (hE:E (.ref D) none H):
  (zdw (CXR P w) P w K mg base N qual scope f cd A outer s0 H0 E).xe (.ref e) { s with heap:=h1 }:=by
 have af:∀b o,s0.heap.get? b=some o→b∉frs outer→b∉frs (envOfC qual scope s0.heap.objs.size f cd::outer):=fun b o e n z=>by
  rcases List.mem_cons.mp (I.stkSub b z) with r|r
  ·have h1:=Heap.lt_size e
   rw[r] at h1
   exact absurd h1 (Nat.lt_irrefl _)
  ·exact n r
 have hB:∀b o,s.heap.get? b=some o→b∉frs (envOfC qual scope s0.heap.objs.size f cd::outer)→(PySem.W.hideAll s.heap (frs (envOfC qual scope s0.heap.objs.size f cd::outer))).get? b=some o:=fun b o e n=>PySem.W.hideAll_get _ e n
 refine wpAny_leaves_madeW (base:=PySem.W.hideAll s.heap (frs (envOfC qual scope s0.heap.objs.size f cd::outer))) (h:=s.heap) (L:=s0.heap.objs.size) I.ok.frames rfl (fun b o q=>PySem.W.of_hideAll _ q) (PySem.W.funFrames_hide I.stack zvp) hx fun h2 t x1 x2 x3 x4=>?_
 have tr:∀b o,H b=some o→∃u,s.heap.get? b=some u∧(PySem.W.hideAll s.heap (frs (envOfC qual scope s0.heap.objs.size f cd::outer))).get? b=some u:=fun b o q=>by
  obtain⟨u,hu⟩:=zwo (I.hok b o q)
  exact⟨u,hu,hB b u hu fun z=>by have:=I.stkFree b z;rw[q] at this;cases this⟩
 refine⟨e,D,.ref t,H,_,rfl,I.os,I.bare,⟨fun b o q n hf hx=>?_,fun b o q n hf ae=>?_,fun b o q n hx=>I.base.free b o q n hx,fun b o q ae=>?_,I.base.tups,I.base.frzs,I.base.tbls⟩,fun a o q=>?_,x1,fun b o q hf hb=>?_,?_,hE⟩
 ·exact x1.1 _ _ (hB b o (I.base.keep b o q n hf hx) (af b o q hf))
 ·obtain⟨sl,e1⟩:=I.base.slot b o q n hf ae
  obtain⟨_,o2,e2,d2⟩:=I.funs.mem hf
  rw[e1] at e2
  cases e2
  obtain⟨ag,e3⟩:=x4 b _ (hx.keeps _ _ e1) d2
  exact⟨ag,e3⟩
 ·obtain⟨o1,e1⟩:=I.base.there b o q ae
  by_cases hb:b∈frs (envOfC qual scope s0.heap.objs.size f cd::outer)
  ·obtain⟨_,o2,e2,d2⟩:=I.stack.mem hb
   obtain⟨sl,e3⟩:=x4 b o2 (hx.keeps _ _ e2) d2
   exact⟨_,e3⟩
  ·exact⟨o1,x1.1 _ _ (hB b o1 e1 hb)⟩
 ·refine(I.hok a o q).stay (fun b u hb r=>?_) (fun _ r=>r) fun _ _ r=>r
  have hn:b∉frs (envOfC qual scope s0.heap.objs.size f cd::outer):=fun z=>by
   have fr:=I.stkFree b z
   rcases hb with rfl|hb
   ·rw[q] at fr;cases fr
   ·rw[hb] at fr;cases fr
  exact x1.1 _ _ (hB b u r hn)
 ·rcases hb with hb|⟨u,hu⟩
  ·cases hq:H b with
   |none=>exact absurd hq hb
   |some ho=>
    obtain⟨u,_,ad⟩:=tr b ho hq
    have:=x1.1 _ _ ad
    rw[q] at this
    cases this
    exact ad
  ·obtain⟨o1,e1⟩:=I.base.there b u hu (by intro z;cases z)
   have ad:=hB b o1 e1 (af b u hu hf)
   have:=x1.1 _ _ ad
   rw[q] at this
   cases this
   exact ad
 ·cases hq:H e with
  |none=>rfl
  |some ho=>
   obtain⟨u,hu,_⟩:=tr e ho hq
   rw[hx.new] at hu
   cases hu
theorem Fun.okR{P:Program}{w:World}{K:PySem.W.Frag}{mg:Str→Option Value}{base:Heap}{x qual:Str}{st:Stmt}{f:Addr}{fd:FuncData}{N ps:List Str}{k:Nat}{sp:Sp}(F:Fun K x qual st f fd)(S:zau N ps (zai st))(len:∀vs H Q E,sp vs H Q E→vs.length=ps.length)
  (hb:∀(cdv:Value)(A:Around)(outer:List Env)(s:Shared)(H:Hp)(vs:List V)(Q:VK)(E:XK),Room k (A.deeper (envOfC qual (zai st) s.heap.objs.size f cdv))→sp vs H Q E →
   ∃t,PSs (zdw (CXR P w) P w K mg base N qual (zai st) f cdv A outer s H E) (zbe st) t∧t { nx:=fun _ H'=>Q .non H',rt:=Q } (zhc N vs) H):FnOk P w K mg base (CXR P w) (k+1) f fd ps sp:=by
 obtain⟨_,_,_,_,_,_,cdv,_,_,rfl,lk,ae⟩:=F.ex
 refine zur lk ae S len fun A outer s H vs Q E hr ad=>?_
 exact hb cdv A outer s H vs Q E hr ad
def zxv(D:Addr)(W:XK)(t:TA):TS:=fun _ σ H=>t σ H fun vs H1=>vs.length≤1000∧W (.ref D) none H1
theorem zsj{X:Cx}{x:Str}{D:Addr}{np cpos pos:Pos}{e:Expr}{es:List Expr}{ta:TA}{W:XK}(hc:X.calm=true)(hg:Gl X x)(hm:X.mg x=some (.ref D))(hD:PySem.W.excIn X.K D zhs zg3=true)(ha:PA X (e::es) ta)
  (hxe:∀(pins:List (Addr×Obj))(σ:St)(H:Hp)(s:Shared)(h1:Heap)(ea:Addr)(vs:List Value),Inv X pins σ H s→Heap.MadeExcOf s.heap h1 ea (.ref D) vs→W (.ref D) none H→X.xe (.ref ea) { s with heap:=h1 })
  (he:starEach (e::es) X.env=(false,eval e X.env)::starEach es X.env:=by rfl) (hplain:(backTo cpos (starEach es X.env)).any (·.1)=false:=by rfl) (hd:(x==("__debug__" : Str))=false:=by decide):
  PS X (.Raise (some (.Call (.Name x np) (e::es) [] cpos)) none pos) (zxv D W ta):=by
 intro pins s σ H Dn I h
 obtain⟨bm,xc⟩:=XCls.mk' I.mod.kin hD
 obtain⟨N,nm,qn,bs,ad,sn,sub,ab,col,dd,k0,k1,k2,k3,k5,mN,eC,eN,ei,eT⟩:=xc.ex
 have hs:=ha cpos pins s σ H _ I h
 refine wpAny_Raise_call_subT (C:=D) (nm:=nm) (q:=qn) (N:=N) (bs:=bs) (bm:=bm) (hdct:=ad) (sn:=sn) (sub:=sub) (ab:=ab) (col:=col) (dd:=dd) (k0:=k0) (k1:=k1) (k2:=k2) (k3:=k3) (k5:=k5) PySem.F.excBase_ValueError (mN:=mN) (eT.hasType (b:=true) (by decide)) (I.ok.hd hc)
  (by rw[he];show(false||(backTo cpos (starEach es X.env)).any (·.1))=false;rw[hplain];rfl) ei (zh8 I hg hm ⟨rfl,?_⟩ hd)
 rw[he] at hs ⊢
 refine Calls.evalArgs_plain (wpAny_mono hs (fun us s2 ⟨vs,H1,I1,r,q1,q2⟩=>?_) fun _ _ z=>z)
 refine⟨rfl,?_,I1.bk _ _ eC,eN.keeps I1.bk,eT.keeps I1.bk,fun h1 ea hx=>hxe pins σ H1 s2 h1 ea _ I1 hx q2⟩
 rw[←r.length]
 exact Nat.le_of_lt (zbo q1)
section
variable {X : Cx} {pins : List (Addr × Obj)} {σ : St} {H H' : Hp} {s s' : Shared} {h2 : Heap}
def XE(X:Cx)(pins:List (Addr×Obj))(W:XK):Value→Shared→Prop:=fun e s'=>∃(σ:St)(H:Hp)(s:Shared)(H':Hp)(ea D:Addr)(a0:Value)(B:Heap),e=.ref ea∧Inv X pins σ H s∧Inv X pins σ H' s'∧Heap.FlyingW B X.stack ea (.ref D) a0 s'.heap ∧
 (∀b o,s'.heap.get? b=some o→b∉frs X.stack→(H' b≠none∨∃u,s.heap.get? b=some u)→B.get? b=some o)∧H' ea=none∧W (.ref D) none H'
abbrev Cx.tryX(X:Cx)(pins:List (Addr×Obj))(W:XK):Cx:={ X with pn:=X.pn++pins,xe:=XE X pins W }
abbrev Cx.markX(X:Cx)(ea:Addr):Cx:={ X with A:=X.A.mark (some (.ref ea)),calm:=false,xe:=fun _ _=>False }
theorem Inv.toTry(I:Inv X pins σ H s)(W:XK):Inv (X.tryX pins W) [] σ H s:=
 ⟨⟨I.ok.mod,I.ok.kind,I.ok.glob,I.ok.blt,I.ok.above,I.ok.inj,I.ok.has,I.ok.cab,I.ok.hd,I.ok.frames,I.ok.stk,I.ok.exf,I.ok.bs,I.ok.bsz,I.ok.noex,I.ok.exfs,I.ok.funs,I.ok.frf⟩,I.os,I.bare,I.base,I.loc,I.cell,I.free,I.freeC,fun p hp=>I.pin p (by rw[List.append_nil] at hp;exact hp),I.hok,I.len⟩
theorem Inv.ofTry{W:XK}{pins':List (Addr×Obj)}(I:Inv (X.tryX pins W) pins' σ H s):Inv X pins σ H s:=
 ⟨⟨I.ok.mod,I.ok.kind,I.ok.glob,I.ok.blt,I.ok.above,I.ok.inj,I.ok.has,I.ok.cab,I.ok.hd,I.ok.frames,I.ok.stk,I.ok.exf,I.ok.bs,I.ok.bsz,I.ok.noex,I.ok.exfs,I.ok.funs,I.ok.frf⟩,I.os,I.bare,I.base,I.loc,I.cell,I.free,I.freeC,fun p hp=>I.pin p (List.mem_append_left _ hp),I.hok,I.len⟩
theorem Inv.toMark(I:Inv X pins σ H s)(ea:Addr):Inv (X.markX ea) pins σ H s:=
 ⟨⟨I.ok.mod,I.ok.kind,I.ok.glob,I.ok.blt,I.ok.above,I.ok.inj,I.ok.has,I.ok.cab,fun z=>(by cases z),I.ok.frames,I.ok.stk,I.ok.exf,I.ok.bs,I.ok.bsz,I.ok.noex,I.ok.exfs,I.ok.funs,I.ok.frf⟩,I.os,I.bare,I.base,I.loc,I.cell,I.free,I.freeC,I.pin,I.hok,I.len⟩
theorem Inv.ofMark{ea:Addr}(I:Inv (X.markX ea) pins σ H s)(hd:X.calm=true→X.A.handled=none):Inv X pins σ H s:=
 ⟨⟨I.ok.mod,I.ok.kind,I.ok.glob,I.ok.blt,I.ok.above,I.ok.inj,I.ok.has,I.ok.cab,hd,I.ok.frames,I.ok.stk,I.ok.exf,I.ok.bs,I.ok.bsz,I.ok.noex,I.ok.exfs,I.ok.funs,I.ok.frf⟩,I.os,I.bare,I.base,I.loc,I.cell,I.free,I.freeC,I.pin,I.hok,I.len⟩
theorem SP.ofTry{W:XK}{D:zjd}{f:Flow}(h:SP (X.tryX pins W) [] D f s'):SP X pins D f s':=by
 cases f with
 |next=>obtain⟨a,b,I,q⟩:=h;exact⟨a,b,I.ofTry,q⟩
 |brk=>obtain⟨a,b,I,q⟩:=h;exact⟨a,b,I.ofTry,q⟩
 |cont=>obtain⟨a,b,I,q⟩:=h;exact⟨a,b,I.ofTry,q⟩
 |ret u=>obtain⟨v,a,b,I,r,q⟩:=h;exact⟨v,a,b,I.ofTry,r,q⟩
theorem zyc{W:XK}:zm6 (CXR X.prog X.w) (X.tryX pins W) W:=fun pins' σ H s e s' I h=>by
 obtain⟨ea,D,a0,H',B,rfl,os,bare,un,hok,fl,kB,hn,hW⟩:=h
 exact⟨σ,H,s,H',ea,D,a0,B,rfl,I.ofTry,I.ofTry.call' os un hok bare (fun b z=>by cases z),fl,kB,hn,hW⟩
theorem Inv.track{ea:Addr}{o:HO}(I0:Inv X pins σ H s)(I1:Inv X pins σ H' s')(hn:H' ea=none)(hp:s.heap.get? ea=none)(new:ObjOk X.prog X.w (upd H' ea o) s'.heap ea o):Inv X pins σ (upd H' ea o) s' where
 ok:=I1.ok
 os:=I1.os
 bare:=I1.bare
 base:=⟨I1.base.keep,I1.base.slot,fun b u e n hx=>by
  rw[zam fun z=>by
   obtain⟨u',e'⟩:=I0.base.there b u e hx
   rw[z,hp] at e'
   cases e']
  exact I1.base.free b u e n hx,I1.base.there,fun b xs q=>by
   have:=I1.base.tups b xs q
   rw[zam (zaq this hn)];exact this,fun b u xs q=>by
   have:=I1.base.frzs b u xs q
   rw[zam (zaq this hn)];exact this,fun b ps q=>by
   obtain⟨more,e⟩:=I1.base.tbls b ps q
   exact⟨more,by rw[zam (zaq e hn)];exact e⟩⟩
 loc:=I1.loc
 cell:=I1.cell
 free:=by
  rw[zam fun z=>by
   obtain⟨m,⟨u,_,_,e,_⟩,_⟩:=I0.loc
   rw[z,hp] at e
   cases e]
  exact I1.free
 freeC:=fun x c e=>by
  rw[zam fun z=>by
   obtain⟨v,u,e',_⟩:=I0.cell x c e
   rw[z,hp] at e'
   cases e']
  exact I1.freeC x c e
 pin:=fun p hq=>by
  obtain⟨h1,h2,h3⟩:=I1.pin p hq
  refine⟨h1,?_,h3⟩
  rw[zam fun z=>by
   have:=(I0.pin p hq).1
   rw[z,hp] at this
   cases this]
  exact h2
 hok:=fun b u e=>by
  by_cases hb:b=ea
  ·subst hb;rw[zac] at e;cases e;exact new
  ·rw[zam hb] at e
   exact(I1.hok b u e).stay (fun _ _ _ q=>q) (fun c q=>by rw[zam (zaq q hn)];exact q) fun c xs q=>by rw[zam (zaq q hn)];exact q
 len:=I1.len
theorem Inv.gone{i t:Nat}{n:Str}{v:Option Value}(I:Inv X pins σ H s)(hN:X.N.Nodup)(hi:X.N[i]?=some n)(hk:X.env.kindOf n=some .local){m:Str→Option Value}(hm:s.heap.Ns X.env.locals m)(hn:h2.Ns X.env.locals (fun x=>if x=n then v else m x))(hs:Heap.SameBut X.env.locals s.heap h2):Inv X pins (σ.set i none) H { s with heap:=h2,toks:=t }:=by
 obtain⟨m',ad,hl⟩:=I.loc
 have em:m'=m:=by
  obtain⟨o1,ag,ah,e1,d1,_,f1⟩:=ad
  obtain⟨o2,ai,af,e2,d2,_,f2⟩:=hm
  rw[e1] at e2
  cases e2
  rw[d1] at d2
  cases d2
  funext x
  rw[←f1 x,f2 x]
 subst em
 obtain⟨oL,_,_,ae,_⟩:=id hm
 have lt:∀b o,X.s₀.heap.get? b=some o→b≠X.env.locals:=fun b o e=>Nat.ne_of_lt (Nat.lt_of_lt_of_le (Heap.lt_size e) I.ok.above)
 refine⟨I.ok,I.os,I.bare,⟨fun b o e n hb hx=>(hs.2 b (lt b o e)).trans (I.base.keep b o e n hb hx),fun b o e n hb hx=>?_,I.base.free,fun b o e hx=>?_,I.base.tups,I.base.frzs,I.base.tbls⟩,⟨_,hn,fun j y v' e1 e2 e3=>?_⟩,fun y c e=>?_,I.free,I.freeC,fun p hp=>?_,fun b ob e=>?_,by rw[List.length_set];exact I.len⟩
 ·obtain⟨sl,e1⟩:=I.base.slot b o e n hb hx
  exact⟨sl,(hs.2 b (lt b o e)).trans e1⟩
 ·obtain⟨o',e1⟩:=I.base.there b o e hx
  exact⟨o',(hs.2 b (lt b o e)).trans e1⟩
 ·have hj:j≠i:=fun z=>by
   rw[z,List.getElem?_set_self (by rw[I.len];exact(List.getElem?_eq_some_iff.mp hi).1)] at e2
   cases e2
  rw[List.getElem?_set_ne (Ne.symm hj)] at e2
  obtain⟨u',r',q⟩:=hl j y v' e1 e2 e3
  refine⟨u',r',?_⟩
  rcases q with⟨k,e⟩|⟨k,c,e,z⟩
  ·refine .inl ⟨k,?_⟩
   have:y≠n:=fun e=>hj (zk1 hN e1 (e▸hi))
   show(if y=n then v else m' y)=some u'
   rw[if_neg this]
   exact e
  ·exact .inr ⟨k,c,e,z.sameBut hs (I.cne y c e)⟩
 ·obtain⟨w',z⟩:=I.cell y c e
  exact⟨w',z.sameBut hs (I.cne y c e)⟩
 ·obtain⟨e,n',ne,nf,d⟩:=I.pin p hp
  exact⟨(hs.2 p.1 ne).trans e,n',ne,nf,d⟩
 ·refine(I.hok b ob e).stay (fun c w' hc q=>(hs.2 c ?_).trans q) (fun _ q=>q) fun _ _ q=>q
  rintro rfl
  have fr:=I.free
  rcases hc with rfl|hc
  ·rw[fr] at e;cases e
  ·rw[fr] at hc;cases hc
end
def zqb(K:PySem.W.Frag)(D C:Addr):Bool:=match K.lookup D with
 |some ⟨_,_,.cls cd,_⟩=>cd.mro.contains (.ref C)
 |_=>false
theorem zv8{K:PySem.W.Frag}{h:Heap}{D C:Addr}{bD:List Value}(X:K.In h)(x:XCls h D bD)(q:zqb K D C=true):(Value.ref D::bD).contains (.ref C)=true:=by
 unfold zqb at q
 split at q
 case h_2=>cases q
 case h_1 oc od cd sl hl=>
  obtain⟨_,_,_,_,_,_,_,_,_,_,_,_,_,_,_,_,e,_⟩:=x.ex
  have:=X _ _ hl
  rw[e] at this
  cases this
  exact q
def zit(ea D:Addr):Heap→Prop:=fun h=>∃ob,h.get? ea=some ob∧ob.cls=.ref D
def zxx(i:Nat)(W:XK)(K:PySem.W.Frag)(C:Addr)(tb ts:TS):TS:=fun D σ H=>tb D σ H∧∀(σ':St)(H':Hp)(ea Dc:Addr),σ'.length=σ.length→W (.ref Dc) none H'→H' ea=none →
 PySem.W.excIn K Dc zhs zg3=true∧zqb K Dc C=true∧ts { nx:=fun σ2 H2=>D.nx (σ2.set i none) H2,rt:=fun _ _=>False } (σ'.set i (some (.ref ea))) (upd H' ea (.ext (zit ea Dc)))
theorem zuw{X:Cx}{body suite:List Stmt}{b0:Stmt}{x n:Str}{i:Nat}{C:Addr}{tb ts:TS}{W:XK}{np hpos pos:Pos}(hst:X.stack=X.env::X.outer)(hfr:X.env.frame=some X.env.locals)(hb:∀pins,PSs (X.tryX pins W) body tb)(hg:Gl X x)(hm:X.mg x=some (.ref C))(hC:PySem.W.excIn X.K C zhs zg3=true)
  (hN:X.N.Nodup) (hi:X.N[i]?=some n) (hk:X.env.kindOf n=some .local) (hl:Loc X.env.scope n) (hs:∀ea,PSs (X.markX ea) (b0::suite) ts) (hf:X.fn n=true∨X.env.scope.names.lookup n=some .local:=by first|exact .inl rfl|exact .inr rfl|assumption) (hd:(x==("__debug__" : Str))=false:=by decide):
  PS X (.Try body [.ExceptHandler (some (.Name x np)) (some n) (b0::suite) hpos] [] [] pos) (zxx i W X.K C tb ts):=by
 intro pins s σ H D I h
 refine wpAny_Try_except (wpAny_mono (hb pins [] s σ H D (I.toTry W) h.1) (fun f s1 q=>?_) fun e s1 q=>?_)
 ·cases f with
  |next=>exact wpAny_execs_nil (SP.ofTry q)
  |brk=>exact SP.ofTry q
  |cont=>exact SP.ofTry q
  |ret u=>exact SP.ofTry q
 obtain⟨σ1,H0,s0,H1,ea,Dc,a0,B,rfl,I0,I1,fl,kB,ag,hW⟩:=q
 obtain⟨r1,r2,r3⟩:=h.2 σ1 H1 ea Dc (I1.len.trans I.len.symm) hW ag
 rw[hst] at fl
 have ap:s0.heap.get? ea=none:=by
  cases hq:s0.heap.get? ea with
  |none=>rfl
  |some u=>
   obtain⟨oe,vs,_,_,_,he,_,ar,_⟩:=fl.2.2.2
   have ao:ea∉frs X.stack:=fun z=>by
    obtain⟨_,o2,e2,d2⟩:=I1.stack.mem z
    rw[he] at e2
    cases e2
    exact d2 vs ar
   have:=kB ea oe he ao (.inr ⟨u,hq⟩)
   rw[fl.2.1] at this
   cases this
 refine wpAny_looks_onW (by rw[←hst];exact I.ok.frames) hfr fl fun h2 al u2=>?_
 refine wpAny_landsW al fun h3 af u3=>?_
 have I3:=I0.upto I1 (fun b o e n hb=>af.1 _ _ (kB b o e n hb)) (u2.trans u3)
 obtain⟨bC,xC⟩:=XCls.mk' I3.kIn hC
 obtain⟨bD,xD⟩:=XCls.mk' I3.kIn r1
 obtain⟨oe,he,ae⟩:=af.there
 refine wpAny_handleBy_cons (codeAny_handlers_test (zh8 (I3.toMark ea) hg hm ?_ hd)) (by intro q;cases q)
 refine zni xC xD he ae (zv8 I3.kIn xD r2) ?_
 refine codeAny_handlers_suite_as ?_
 refine lands_againW af fun h4 ak u4=>?_
 have I4:=I0.upto I1 (fun b o e n hb=>ak.1 _ _ (kB b o e n hb)) ((u2.trans u3).trans u4)
 obtain⟨aj,ai,ad⟩:=ak.there
 have I5:=I0.track (o:=.ext (zit ea Dc)) I4 ag ap ⟨⟨aj,ai,ad⟩,⟨aj,ai⟩,fun g1 g2 ⟨ob,e1,e2⟩ k=>⟨ob,k ob e1,e2⟩⟩
 refine zj2 I5 hN hi hl (show RelV (.ref ea) (.ref ea) from rfl) (fun s5 I6=>?_) hf
 refine wpAny_mono (hs ea pins s5 _ _ _ (I6.toMark ea) r3) (fun f s6 q=>?_) fun _ _ z=>False.elim z
 cases f with
 |next=>
  obtain⟨σ7,H7,I7,q7⟩:=q
  obtain⟨m,ah,_⟩:=id I7.loc
  exact wpAny_nameGoes_keeps hk ah (by rw[I.ok.kind];rfl) fun h8 v am aq=>⟨_,H7,(I7.ofMark I.ok.hd).gone hN hi hk ah am aq,q7⟩
 |brk=>obtain⟨_,_,_,q7⟩:=q;exact False.elim q7
 |cont=>obtain⟨_,_,_,q7⟩:=q;exact False.elim q7
 |ret u=>obtain⟨_,_,_,_,_,q7⟩:=q;exact False.elim q7
structure zhu(K:PySem.W.Frag)(D:Addr):Prop where
 cl:PySem.W.excIn K D zhs zg3=true
 ga:PySem.W.findIn K (.ref D) "__getattribute__" = some (some (.builtin "BaseException.__getattribute__"))
 gt:PySem.W.findIn K (.ref D) "__getattr__" = some none
 ck:PySem.W.findIn K (.ref D) "__class__" = some (some (.builtin "object.__class__"))
section
variable {prog : Program} {w : World} {A : Around} {E : Value → Shared → Prop} {h : Heap} {g : Array GenState} {d : Drawn} {t : Nat} {os : OsState} {a D : Addr} {o : Obj} {K : PySem.W.Frag} {bD : List Value}
theorem zx4{R:Result→Shared→Prop}(xD:XCls h D bD)(hx:h.get? a=some o)(hc:o.cls=.ref D)(hq:R (.ok (.ret (.ref D))) ⟨h,g,d,t,os⟩):
  codeAny (model prog w) A (.call (.builtin "getset_descriptor.__get__") ⟨[.builtin "object.__class__",.ref a,.ref D],[]⟩) R ⟨h,g,d,t,os⟩:=by
 obtain⟨_,_,_,_,_,_,_,_,_,_,_,_,_,_,_,_,hD,_,_,tD⟩:=xD.ex
 have hb:(Value.ref D::bD).contains (.type (".".intercalate ("object.__class__".cutAt '.').dropLast))=true:=by
  rw[PySem.F.owner_object_class,List.contains_cons,tD.hasType (b:=true) (by decide)];rfl
 refine codeAny_call_builtin PySem.F.slot_gs_get.plain PySem.F.entry_gs_get (PySem.F.slot_gs_get.check _ _ _ _ _ _ _ _ (show(⟨h,g,d,t,os⟩:Shared).TypeIs (.builtin "object.__class__") "getset_descriptor" from PySem.F.typeOf_object_class) (PySem.F.args_gs_get _ _ _) ?_)
 repeat (any_goals (first|assumption|(with_reducible refine wpAny_loadPart_at hx ?_;rw[hc])|(with_reducible refine wpAny_isSubtype_exc hD ?_;rw[hb])|wp_step))
 refine⟨Code.quiet_builtin _ (by decide +kernel),codeAny_builtin PySem.F.entry_object_class ?_⟩
 repeat (any_goals (first|assumption|(with_reducible refine wpAny_loadPart_at hx ?_;rw[hc])|wp_step))
theorem zuh{tk:Tok}{Q:Fin→Shared→Prop}(X:K.In h)(G:zhu K D)(xD:XCls h D bD)(hx:h.get? a=some o)(hc:o.cls=.ref D)(hq:Q (.done (.ret (.ref D))) ⟨h,g,d,t,os⟩):
  wpAny (model prog w) A (Builtin.«object.__getattribute__» ⟨[.ref a,.str "__class__" tk],[]⟩) Q E ⟨h,g,d,t,os⟩:=by
 have ad:(⟨h,g,d,t,os⟩:Shared).TypeIs (.builtin "object.__class__") "getset_descriptor" := PySem.F.typeOf_object_class
 have f5:=PySem.F.typeOf_object_class
 have f6:=PySem.F.slot_gs_get.lookup
 have f7:=PySem.F.slot_gs_set.lookup
 repeat (any_goals (first|assumption|(with_reducible refine wpAny_loadPart_at hx ?_;rw[hc])|(with_reducible refine(PySem.W.looks_findIn X G.ck).at ?_)|wp_step))
 refine zx4 xD hx hc ?_
 repeat (any_goals (first|assumption|wp_step|done))
theorem ztp{M:Model}{v:Value}{Q:Unit→Shared→Prop}(xD:XCls h D bD)(hx:h.get? a=some o)(hc:o.cls=.ref D)(hq:Q () ⟨h,g,d,t,os⟩):wpAny M A (checkBuiltinCall "BaseException.__getattribute__" ⟨[.ref a,v],[]⟩) Q E ⟨h,g,d,t,os⟩:=by
 obtain⟨_,_,_,_,_,_,_,_,_,_,_,_,_,_,_,_,hD,_,_,tD⟩:=xD.ex
 have h1:builtinKind "BaseException.__getattribute__" = some .slot:=by decide +kernel
 have h2:splitId "BaseException.__getattribute__" = some ("BaseException", "__getattribute__"):=by decide +kernel
 have hb:(Value.ref D::bD).contains (.type "BaseException")=true:=by rw[List.contains_cons,tD.hasType (b:=true) (by decide),Bool.or_true]
 have ha:=PySem.F.args_bexc_ga (.ref a) v
 simp only[checkBuiltinCall,h1,h2]
 refine wpAny_bind ?_
 unfold isInstance
 repeat (first|(with_reducible refine wpAny_loadPart_at hx ?_;rw[hc])|(with_reducible refine wpAny_isSubtype_exc hD ?_;rw[hb])|wp_step)
 exact hq
theorem zya{tk:Tok}{Q:Value→Shared→Prop}(X:K.In h)(G:zhu K D)(xD:XCls h D bD)(FG:Slot "ValueError" "__getattribute__" "BaseException.__getattribute__")(hx:h.get? a=some o)(hc:o.cls=.ref D)(hq:Q (.ref D) ⟨h,g,d,t,os⟩):
  wpAny (model prog w) A (getAttrBy (.ref a) (.str "__class__" tk) false) Q E ⟨h,g,d,t,os⟩:=by
 have f3:=FG.bind (.ref a)
 have ad:(Value.builtin "BaseException.__getattribute__" == Value.builtin "object.__getattribute__")=false:=by decide +kernel
 have ae:(onTheHeap (Value.ref D)&&Value.builtin "BaseException.__getattribute__" == Value.builtin "object.__getattribute__")=false:=by rw[ad];rfl
 repeat (any_goals (first|assumption|(with_reducible refine wpAny_loadPart_at hx ?_;rw[hc])|(with_reducible refine(PySem.W.looks_findIn X G.ga).at ?_)|(with_reducible refine(PySem.W.looks_findIn X G.gt).at ?_)|wp_step))
 refine codeAny_call_builtin FG.plain PySem.F.entry_bexc_ga (ztp xD hx hc (zuh X G xD hx hc ?_))
 repeat (any_goals (first|assumption|wp_step|done))
theorem zvf{Q:Option Value→Shared→Prop}(X:K.In h)(G:zhu K D)(xD:XCls h D bD)(FG:Slot "ValueError" "__getattribute__" "BaseException.__getattribute__")(hx:h.get? a=some o)(hc:o.cls=.ref D)(hq:Q (some (.ref D)) ⟨h,g,d,t+1,os⟩):
  wpAny (model prog w) A (getAttr? (.ref a) "__class__") Q E ⟨h,g,d,t,os⟩:=by
 unfold getAttr? getAttrBy?
 repeat (any_goals (first|assumption|with_reducible apply zya X G xD FG hx hc|wp_step))
end
theorem zkd{K:PySem.W.Frag}{a D:Addr}(G:zhu K D):PySem.W.KitX K (.ref a) (.ref D) (zit a D) where
 ty:=fun M h _ ⟨_,h1,h2⟩=>h2▸(PySem.W.Looks.ld h1).andThen .now
 it:=fun _ h X _=>by
  obtain⟨_,xD⟩:=XCls.mk' X G.cl
  obtain⟨_,_,_,_,_,_,_,_,_,_,_,_,_,_,_,_,hD,_⟩:=xD.ex
  intro A' Q' E' s' k q
  unfold isType loadHead
  exact wpAny_bind (wpAny_loadPart (k _ _ hD) (wpAny_pure q))
 ne:=fun h tp dd its n sl X htp=>Bool.eq_false_iff.mpr fun q=>by
  cases Value.ref.inj (beq_iff_eq.mp q)
  obtain⟨_,xD⟩:=XCls.mk' X G.cl
  obtain⟨_,_,_,_,_,_,_,_,_,_,_,_,_,_,_,_,hD,_⟩:=xD.ex
  have z:=congrArg Obj.data (Option.some.inj (hD.symm.trans htp))
  cases z
 ca:=fun {_ _ _ _ _ s} X p k=>by
  obtain⟨_,xD⟩:=XCls.mk' X G.cl
  obtain⟨o,h1,h2⟩:=p
  obtain⟨h,g,d,t,os⟩:=s
  exact zvf X G xD PySem.F.attr_ValueError.ga h1 h2 k
theorem zyp{X:Cx}{K:PySem.W.Frag}(hK:X.K=K:=by rfl):zcq X (.builtin "isinstance") (fun xs H Q=>∃(a D:Addr)(c:V)(b:Bool),xs=[.ref a,c]∧H a=some (.ext (zit a D))∧zhu K D ∧
  ((∃C,c=.ref C∧PySem.W.kitOne K (.ref D) (.ref C)=some b)∨∃T,c=.ty T∧PySem.W.kitOne K (.ref D) (.type T)=some b)∧Q (.bl b) H):=by
 subst hK
 intro pins s σ H xs us Q I r h
 obtain⟨a,D,c,b,rfl,ha,G,hc,q⟩:=h
 obtain⟨u,w',rfl,rx,ry⟩:=zq3 r
 cases(show u=Value.ref a from rx)
 have p:zit a D s.heap:=(show ObjOk X.prog X.w H s.heap a (.ext (zit a D)) from I.hok a _ ha).1
 rcases hc with⟨C,rfl,e⟩|⟨T,rfl,e⟩
 ·cases(show w'=Value.ref C from ry)
  exact PySem.W.kia_one (zkd G) I.kIn p e (fun z=>nomatch z) fun tk=>⟨.bl b,H,I.tok tk,rfl,q⟩
 ·cases(show w'=Value.type T from ry)
  exact PySem.W.kia_one (zkd G) I.kIn p e (fun z=>nomatch z) fun tk=>⟨.bl b,H,I.tok tk,rfl,q⟩
theorem zro(bs:List Bool):((List.range bs.length).any fun i=>(bs[i]?).getD false)=bs.any id:=by
 rw[Bool.eq_iff_iff,List.any_eq_true,List.any_eq_true]
 constructor
 ·rintro⟨i,hi,h⟩
  have hl:=List.mem_range.mp hi
  rw[List.getElem?_eq_getElem hl] at h
  exact⟨_,List.getElem_mem hl,h⟩
 ·rintro⟨b,hb,h⟩
  obtain⟨i,hi,e⟩:=List.mem_iff_getElem.mp hb
  exact⟨i,List.mem_range.mpr hi,by rw[List.getElem?_eq_getElem hi,e];exact h⟩
theorem zo1{X:Cx}{K:PySem.W.Frag}(hc:X.calm=true)(hK:X.K=K:=by rfl):zcq X (.builtin "any") (fun xs H Q=>∃(p:Addr)(bs:List Bool),xs=[.ref p]∧SqL K H p (bs.map V.bl)∧Q (.bl (bs.any id)) H):=by
 subst hK
 intro pins s σ H xs us Q I r h
 obtain⟨p,bs,rfl,hq,q⟩:=h
 obtain⟨u,rfl,rx⟩:=zer r
 cases rx
 obtain⟨ae,rv,pl,hz⟩:=I.list hq
 have hl:=pl.isList
 have af:p<s.heap.objs.size:=by obtain⟨_,e,_⟩:=hl;exact Heap.lt_size e
 have ad:=rv.length
 rw[List.length_map] at ad
 refine call_any_walk (wpAny_pyIter_list hl ?_)
 refine⟨s.heap.objs.size,[s.heap.objs.size,p],[s.heap.objs.size],ae.toArray.size,_,_,fun i=>(bs[i]?).getD false,rfl,Walks.list (A:=X.A.in1) (I.ok.hd hc) _ p (Nat.ne_of_lt af) ae.toArray,
  ⟨⟨_,Heap.get?_push_size _ rfl,rfl,rfl⟩,hl.push _⟩,fun i v s' Q' E' hP hQ=>?_,fun h' tk hk=>?_⟩
 ·have e:ae[i]?=some v:=by simpa using hP
  have hi:i<bs.length:=by
   have:=(List.getElem?_eq_some_iff.mp e).1
   omega
  obtain⟨u,hu,ru⟩:=rv.get (i:=i) (x:=.bl bs[i]) (by rw[List.getElem?_map,List.getElem?_eq_getElem hi];rfl)
  rw[e] at hu
  cases hu
  cases(show v=Value.bool bs[i] from ru)
  dsimp only at hQ
  rw[List.getElem?_eq_getElem hi] at hQ
  exact wpAny_truthy_bool hQ
 ·have e:((List.range ae.toArray.size).any fun i=>(bs[i]?).getD false)=bs.any id:=by
   rw[List.size_toArray,←ad]
   exact zro bs
  rw[e]
  refine⟨.bl _,H,I.kept (t':=tk) fun b o eb=>hk b o (fun hm=>?_) (Heap.get?_push_of_some _ eb),rfl,q⟩
  rw[List.mem_singleton.mp hm] at eb
  exact Nat.lt_irrefl _ (Heap.lt_size eb)
theorem zvt:bootBuiltins "ValueError" = some (.type "ValueError"):=by decide +kernel
end L2
namespace Wd
open PySem L2 Ow
theorem zok{H:Hp}{a:Addr}{o o':HO}(h:H a=some o)(no:∀xs,o≠.tup xs):zk3 H (upd H a o'):=fun b xs hb=>by
 have n:b≠a:=fun z=>by
  rw[z,h] at hb
  exact no xs (Option.some.inj hb)
 rw[zam n]
 exact hb
theorem Pen.same{K:PySem.W.Frag}{H H':Hp}{pen sp:Addr}{ns:List Int}{k:Int}(p:Pen K H pen sp ns k)(s:Same H H'):Pen K H' pen sp ns k:=p.to (Same.x s) (s _ _ p.at_)
theorem zkn:∀{m:Nat} {l:List Nat},l.Nodup→(∀k∈l,k<m)→l.length≤m
 |0,[],_,_=>Nat.le_refl _
 |0,k::l,_,h=>absurd (h k List.mem_cons_self) (Nat.not_lt_zero _)
 |m+1,l,nd,h=>by
  have h1:(l.filter (·≠m)).length≤m:=zkn (nd.filter _) fun k hk=>by
   obtain⟨a,b⟩:=List.mem_filter.mp hk
   have:=h k a
   have:k≠m:=by simpa using b
   omega
  have h2:l.length≤(l.filter (·≠m)).length+1:=by
   clear h1 h
   induction l with
   |nil=>exact Nat.zero_le _
   |cons x l ih=>
    obtain⟨hx,ad⟩:=List.nodup_cons.mp nd
    by_cases e:x=m
    ·have:l.filter (·≠m)=l:=List.filter_eq_self.mpr fun k hk=>by
      have:k≠m:=fun z=>hx (by rw[e,←z];exact hk)
      simpa using this
     rw[List.filter_cons_of_neg (by simpa using e),this]
     exact Nat.le_refl _
    ·rw[List.filter_cons_of_pos (by simpa using e)]
     have:=ih ad
     simp only[List.length_cons]
     omega
  omega
end Wd
namespace L2
open PySem PySem.Spec
theorem zxb{X:Cx}{K:PySem.W.Frag}(h:X.K=K:=by rfl):zcq X (.type "tuple") (fun xs H Q=>∃p ys,xs=[V.ref p]∧((SqL K H p ys∧∀l,H l=none→Q (.ref l) (upd H l (.tup ys)))∨SqT K H p ys∧Q (.ref p) H)):=h▸za5
end L2
namespace Wd
open PySem L2 Ow
def ztt(K:PySem.W.Frag):Sp:=fun vs H Q _=>∃(pen sp:Addr)(ns:List Int)(tk:Addr)(u:Int)(kids:List Int)(m:Int)(k:Int),vs=[.ref pen,.int u,.ref tk]∧Pen K H pen sp ns k∧0≤k∧k≤950000∧H tk=some (.tup (kids.map V.int))∧kids.length≤9∧0≤u∧kids≠[]∧za2 m (kids.map PyData.int) u=true ∧
 ∀(d:PyData)(v:V)(k':Int)(H':Hp),SameX pen H H'→H' pen=some (.lst [.ref sp,.int k'])→k≤k'→k'≤k+3→Dn H' d v→zcv m d=true→zbf 3 d=true→zcp d=kids→Q v H'
def znq(K:PySem.W.Frag):Sp:=fun vs H Q _=>∃(pen sp:Addr)(ns:List Int)(m:Nat)(k:Int),vs=[.ref pen,.int (m:Int)]∧Pen K H pen sp ns k∧0≤k∧k≤900000∧1≤m∧m≤9 ∧
 ∀(c:PyData)(v:V)(k':Int)(H':Hp),SameX pen H H'→H' pen=some (.lst [.ref sp,.int k'])→k≤k'→k'≤k+30→Dn H' c v→zgp m c=true→zbf 3 c=true→Q v H'
def zsh(K:PySem.W.Frag):Sp:=fun vs H Q _=>∃(pen sp:Addr)(ns:List Int)(m:Nat)(k:Int),vs=[.ref pen,.int (m:Int)]∧Pen K H pen sp ns k∧0≤k∧k≤800000∧1≤m∧m≤9 ∧
 ∀(c:PyData)(v:V)(k':Int)(H':Hp),SameX pen H H'→H' pen=some (.lst [.ref sp,.int k'])→k≤k'→k'≤k+31→Dn H' c v→zgp m c=true→zbf 3 c=true→Q v H'
def zu4(K:PySem.W.Frag):Sp:=fun vs H Q _=>∃(pen sp:Addr)(ns:List Int)(k:Int),vs=[.ref pen]∧Pen K H pen sp ns k∧0≤k∧k≤700000 ∧
 ∀(wd:Addr)(m:Nat)(bs cs:List PyData)(k':Int)(H':Hp),SameX pen H H'→H' pen=some (.lst [.ref sp,.int k'])→k≤k'→k'≤k+400→1≤m→m≤9→WoodX H' wd m bs cs→cs.length≤8→Q (.ref wd) H'
def zww:Sp:=fun vs H Q _=>∃(n k:Nat),vs=[.int (n:Int),.int (k:Int)]∧k≤20∧Q (.bl (n.testBit k)) H
theorem zu2(n k:Nat):decide (V.int ((n:Int)/((2^k:Nat):Int)%2)=V.int 1)=n.testBit k:=by
 have e:(n:Int)/((2^k:Nat):Int)%2=((n/2^k%2:Nat):Int):=by
  rw[Int.natCast_emod,Int.natCast_ediv]
  rfl
 rw[e,Nat.testBit_eq_decide_div_mod_eq,Bool.eq_iff_iff,decide_eq_true_iff,decide_eq_true_iff]
 constructor
 ·intro h
  injection h with h
  omega
 ·intro h
  rw[h]
  rfl
theorem zox{m:Nat}{top:Int}{ps:List PyData}(pok:ps.all zc9=true)(pri:za2 (m:Int) (ps.map zi7) (-1)=true)(p0:0<ps.length):zgp m (.tuple [.str ("most" : Str),.int top,.tuple ps])=true:=by
 show zi5 m ("most" : Str) (.int top) (.tuple ps)=true
 unfold zi5
 rw[if_pos rfl]
 show(true&&(decide (0<ps.length)&&ps.all zc9&&za2 m (ps.map zi7) (-1)))=true
 rw[decide_eq_true p0,pok,pri]
 rfl
theorem zlf{m:Nat}{top:Int}{ps:List PyData}(pfl:ps.all (zbf 1)=true)(pfw:ps.length≤1000):zbf 3 (.tuple [.str ("most" : Str),.int top,.tuple ps])=true:=by
 have f2:zbf 2 (.tuple ps)=true:=by
  show(decide (ps.length≤1000)&&ps.all (zbf 1))=true
  rw[decide_eq_true pfw,pfl]
  rfl
 show(true&&(zbf 2 (.str ("most" : Str))&&(zbf 2 (.int top)&&(zbf 2 (.tuple ps)&&true))))=true
 rw[show zbf 2 (.str ("most" : Str))=true from zpg,f2]
 rfl
theorem _root_.Ow.PairsTo.snoc{H:Hp}{i:Nat}{ps:List PyData}{xs:List V}{tp:Addr}{x:Int}(pt:PairsTo H i ps xs)(h:H tp=some (.tup [.int (i:Int),.int x])):PairsTo H (i+1) (ps++[.tuple [.int (i:Int),.int x]]) (xs++[.ref tp]):=by
 refine⟨?_,?_,?_,?_,?_⟩
 ·exact pt.dn.append ⟨_,[],rfl,⟨tp,_,rfl,h,_,_,rfl,rfl,_,_,rfl,rfl,rfl⟩,rfl⟩
 ·rw[List.all_append,pt.ok]
  rfl
 ·rw[List.all_append,pt.flat]
  rfl
 ·rw[List.map_append]
  show za2 ((i+1:Nat):Int) (ps.map zi7++[.int (i:Int)]) (-1)=true
  exact zeh (by omega) pt.ris (by omega)
 ·rw[List.length_append,List.length_singleton]
  have:=pt.few
  omega
theorem _root_.Ow.PairsTo.up{H:Hp}{i:Nat}{ps:List PyData}{xs:List V}(pt:PairsTo H i ps xs):PairsTo H (i+1) ps xs:=⟨pt.dn,pt.ok,pt.flat,zep (by omega) pt.ris,Nat.le_succ_of_le pt.few⟩
theorem _root_.Ow.PairsTo.tupS{H H':Hp}(t:zk3 H H'){i:Nat}{ps:List PyData}{xs:List V}(pt:PairsTo H i ps xs):PairsTo H' i ps xs:=⟨DnL.tupS t pt.flat pt.dn,pt.ok,pt.flat,pt.ris,pt.few⟩
theorem zrx{H:Hp}{m:Nat}{tp:Addr}{o x:Int}(o0:0≤o)(o1:o<m)(h:H tp=some (.tup [.int o,.int x])):PairsTo H m [.tuple [.int o,.int x]] [.ref tp]:=by
 refine⟨⟨_,[],rfl,⟨tp,_,rfl,h,_,_,rfl,rfl,_,_,rfl,rfl,rfl⟩,rfl⟩,rfl,rfl,?_,by show 1≤m;omega⟩
 have:=zeh (m:=(m:Int)) (j:=o) o1 (ks:=[]) (u := -1) rfl (by omega)
 exact this
end Wd
namespace L2
open PySem PySem.Spec PyProof.Rows
section
variable {X : Cx}
theorem zo0{ns:List Int}{i:Nat}(h:i<ns.length):ns.getD i 0=ns[i]:=by
 rw[List.getD_eq_getElem?_getD,List.getElem?_eq_getElem h]
 rfl
theorem zfy{s:Shared}{p:Addr}{its:List Value}(pl:s.heap.IsList p its.toArray):p<s.heap.objs.size:=by
 obtain⟨o,e,_⟩:=pl
 exact Heap.lt_size e
theorem zlw{K:PySem.W.Frag}(hc:X.calm=true)(hK:X.K=K:=by rfl):zcq X (.builtin "min") (fun xs H Q=>∃(p:Addr)(ns:List Int),xs=[.ref p]∧SqL K H p (ns.map V.int)∧0<ns.length∧∀M,M∈ns→(∀a∈ns,M≤a)→Q (.int M) H):=by
 intro pins s σ H xs us Q I r h
 subst hK
 obtain⟨p,ns,rfl,hq,af,q⟩:=h
 obtain⟨u,rfl,rx⟩:=zer r
 cases rx
 obtain⟨ad,rv,pl,ag⟩:=I.list hq
 have hi:=zb7 rv
 have hl:=rv.length
 rw[List.length_map] at hl
 have T:=pl.isList
 have lt:=zfy T
 refine call_min_walk (wpAny_pyIter_list T ?_)
 refine⟨_,_,_,_,_,_,fun i j=>decide (ns.getD i 0<ns.getD j 0),rfl,Walks.list (A:=X.A.in1) (I.ok.hd hc) s.heap.objs.size p (Nat.ne_of_lt lt) ad.toArray,⟨⟨_,Heap.get?_push_size _ rfl,rfl,rfl⟩,T.push _⟩,fun b hb=>?_,by rw[List.size_toArray];omega,CmpOf.ints_lt (fun i=>ns.getD i 0) (fun i v hv=>?_),fun v h' tk hP hk=>?_⟩
 ·show b<(s.heap.push _).objs.size
  rw[Heap.size_push]
  simp only[List.mem_cons,List.not_mem_nil,or_false] at hb
  rcases hb with rfl|rfl
  ·exact Nat.lt_succ_self _
  ·exact Nat.lt_succ_of_lt lt
 ·exact IntsAre.int_at hi i v (by rw[List.getElem?_toArray] at hv;exact hv)
 ·obtain⟨t,rfl⟩:=IntsAre.int_at hi _ v (by rw[List.getElem?_toArray] at hP;exact hP)
  obtain⟨b1,b2⟩:=argBest_lt (fun i=>ns.getD i 0) (ad.toArray.size-1)
  rw[List.size_toArray] at b1 b2
  have hj:argBest (fun i j=>decide (ns.getD i 0<ns.getD j 0)) (ad.toArray.size-1)<ns.length:=by
   rw[List.size_toArray]
   have:ad.length-1<ns.length:=by omega
   exact Nat.lt_of_le_of_lt b1 this
  refine⟨.int _,H,I.kept (t':=tk) fun b o e=>hk b o (fun hm=>?_) (Heap.get?_push_of_some _ e),⟨t,rfl⟩,q _ (getD_mem hj) fun a ha=>?_⟩
  ·have:b=s.heap.objs.size:=by simpa using hm
   exact absurd (this▸Heap.lt_size e) (Nat.lt_irrefl _)
  ·obtain⟨j,ae,rfl⟩:=List.getElem_of_mem ha
   have:=b2 j (by omega)
   rw[←zo0 ae]
   rw[List.size_toArray]
   exact this
theorem zle{K:PySem.W.Frag}(hc:X.calm=true)(hK:X.K=K:=by rfl):zcq X (.builtin "max") (fun xs H Q=>∃(p:Addr)(ns:List Int),xs=[.ref p]∧SqL K H p (ns.map V.int)∧0<ns.length∧∀M,M∈ns→(∀a∈ns,a≤M)→Q (.int M) H):=by
 intro pins s σ H xs us Q I r h
 subst hK
 obtain⟨p,ns,rfl,hq,af,q⟩:=h
 obtain⟨u,rfl,rx⟩:=zer r
 cases rx
 obtain⟨ad,rv,pl,ag⟩:=I.list hq
 have hi:=zb7 rv
 have hl:=rv.length
 rw[List.length_map] at hl
 have T:=pl.isList
 have lt:=zfy T
 refine call_max_walk (wpAny_pyIter_list T ?_)
 refine⟨_,_,_,_,_,_,fun i j=>decide (ns.getD i 0>ns.getD j 0),rfl,Walks.list (A:=X.A.in1) (I.ok.hd hc) s.heap.objs.size p (Nat.ne_of_lt lt) ad.toArray,⟨⟨_,Heap.get?_push_size _ rfl,rfl,rfl⟩,T.push _⟩,fun b hb=>?_,by rw[List.size_toArray];omega,CmpOf.ints_gt (fun i=>ns.getD i 0) (fun i v hv=>?_),fun v h' tk hP hk=>?_⟩
 ·show b<(s.heap.push _).objs.size
  rw[Heap.size_push]
  simp only[List.mem_cons,List.not_mem_nil,or_false] at hb
  rcases hb with rfl|rfl
  ·exact Nat.lt_succ_self _
  ·exact Nat.lt_succ_of_lt lt
 ·exact IntsAre.int_at hi i v (by rw[List.getElem?_toArray] at hv;exact hv)
 ·obtain⟨t,rfl⟩:=IntsAre.int_at hi _ v (by rw[List.getElem?_toArray] at hP;exact hP)
  obtain⟨b1,b2⟩:=argBest_gt (fun i=>ns.getD i 0) (ad.toArray.size-1)
  rw[List.size_toArray] at b1 b2
  have hj:argBest (fun i j=>decide (ns.getD i 0>ns.getD j 0)) (ad.toArray.size-1)<ns.length:=by
   rw[List.size_toArray]
   have:ad.length-1<ns.length:=by omega
   exact Nat.lt_of_le_of_lt b1 this
  refine⟨.int _,H,I.kept (t':=tk) fun b o e=>hk b o (fun hm=>?_) (Heap.get?_push_of_some _ e),⟨t,rfl⟩,q _ (getD_mem hj) fun a ha=>?_⟩
  ·have:b=s.heap.objs.size:=by simpa using hm
   exact absurd (this▸Heap.lt_size e) (Nat.lt_irrefl _)
  ·obtain⟨j,ae,rfl⟩:=List.getElem_of_mem ha
   have:=b2 j (by omega)
   rw[←zo0 ae]
   rw[List.size_toArray]
   exact this
def zwv:V→List V→Hp→VK→Prop:=fun x vs H Q=>∃(l:Addr)(xs:List V)(y:V)(j:Nat),x=.ref l∧vs=[y]∧H l=some (.lst xs)∧zgh y=true∧xs.all zgh=true∧(xs[j]?.map fun z=>eqV z y)=some true∧(∀i,i<j→(xs[i]?.map fun z=>eqV z y)=some false)∧Q (.int (j:Int)) H
theorem zcu:MtM X "list.index" zwv:=by
 intro pins s σ H x vs v us Q I rx rv h
 obtain⟨l,xs,y,j,rfl,rfl,hH,fy,fs,hj,ag,q⟩:=h
 cases rx
 obtain⟨u,rfl,ru⟩:=rv.one
 obtain⟨z,ad,n,r,hl,e⟩:=I.lstM hH
 have ai:=r.length
 have jl:j<xs.length:=by
  rcases Nat.lt_or_ge j xs.length with z|z
  ·exact z
  ·rw[List.getElem?_eq_none z] at hj
   cases hj
 have at_:∀i (h1:i<xs.length) (h2:i<ad.length),eqU y ad[i]=eqV xs[i] y:=by
  intro i h1 h2
  obtain⟨w,hw,rr⟩:=r.get (List.getElem?_eq_getElem h1)
  rw[List.getElem?_eq_getElem h2] at hw
  cases hw
  exact zpy rr (List.all_eq_true.mp fs _ (List.getElem_mem h1))
 have ae:(j:Int)<2^63-1:=by
  have aj:((xs.length:Nat):Int)<((2^63:Nat):Int):=Int.ofNat_lt.mpr (Nat.lt_of_le_of_lt z zik)
  have ah:((2^63:Nat):Int)=2^63:=rfl
  omega
 refine call_meets F.slot_list_index ⟨_,e,rfl⟩ F.entry_list_index (F.args_list_index_2 _ _) (SeqAt.list_indexAt l ad.toArray n none #[] u (eqU y) j (by rw[List.size_toArray];omega) ae ?_ ?_) ⟨e,fun w hw=>zfb ru fy r fs w (by simpa using hw),?_⟩
 ·rw[List.getElem_toArray,at_ j jl (by omega)]
  rw[List.getElem?_eq_getElem jl] at hj
  exact Option.some.inj hj
 ·intro i hi af
  rw[List.size_toArray] at hi
  rw[List.getElem_toArray,at_ i (by omega) hi]
  have:=ag i af
  rw[List.getElem?_eq_getElem (by omega)] at this
  exact Option.some.inj this
 ·exact⟨.int (j:Int),H,I.tok _,⟨_,rfl⟩,q⟩
end
end L2
namespace Wd
open PySem L2 Ow
def mv:List Nat→Nat→Nat
 |[],_=>0
 |x::r,k=>if x=k then 0 else mv r k+1
theorem zg6{k:Nat}:∀{l:List Nat},k∈l→l[mv l k]?=some k
 |x::r,h=>by
  unfold mv
  by_cases e:x=k
  ·rw[if_pos e,e];rfl
  ·rw[if_neg e,List.getElem?_cons_succ]
   exact zg6 ((List.mem_cons.mp h).resolve_left fun z=>e z.symm)
theorem zd2{k:Nat}{l:List Nat}(h:k∈l):mv l k<l.length:=(List.getElem?_eq_some_iff.mp (zg6 h)).1
theorem zwg{k:Nat}:∀{l:List Nat} {i x:Nat},i<mv l k→l[i]?=some x→x≠k
 |[],_,_,h,_=>absurd h (Nat.not_lt_zero _)
 |y::r,i,x,h,e=>by
  unfold mv at h
  by_cases z:y=k
  ·rw[if_pos z] at h;exact absurd h (Nat.not_lt_zero _)
  ·rw[if_neg z] at h
   cases i with
   |zero=>cases e;exact z
   |succ i=>exact zwg (l:=r) (i:=i) (by omega) (by rw[List.getElem?_cons_succ] at e;exact e)
theorem zgs{a b:Nat}{l:List Nat}(pw:l.Pairwise (·<·))(ha:a∈l)(hb:b∈l)(h:a<b):mv l a<mv l b:=by
 rcases Nat.lt_or_ge (mv l a) (mv l b) with z|z
 ·exact z
 ·obtain⟨ia,ea⟩:=List.getElem?_eq_some_iff.mp (zg6 ha)
  obtain⟨ib,eb⟩:=List.getElem?_eq_some_iff.mp (zg6 hb)
  rcases Nat.eq_or_lt_of_le z with y|y
  ·simp only[y] at eb
   omega
  ·have:=List.pairwise_iff_getElem.mp pw _ _ ib ia y
   omega
theorem zbx{l:List Nat}{k:Nat}(h:k∈l):((zaj l)[mv l k]?.map fun z=>eqV z (.int (k:Int)))=some true∧∀i,i<mv l k→((zaj l)[i]?.map fun z=>eqV z (.int (k:Int)))=some false:=by
 constructor
 ·rw[List.getElem?_map,zg6 h]
  show some ((k:Int)==(k:Int))=some true
  rw[beq_self_eq_true]
 ·intro i hi
  have il:i<l.length:=Nat.lt_trans hi (zd2 h)
  have n:=zwg hi (List.getElem?_eq_getElem il)
  rw[List.getElem?_map,List.getElem?_eq_getElem il]
  show some (((l[i]:Nat):Int)==(k:Int))=some false
  congr 1
  rw[beq_eq_false_iff_ne]
  omega
def zmu(f:Nat→Bool):Nat→Nat
 |0=>0
 |n+1=>zmu f n|||(if f n=true then 2^n else 0)
theorem zfe(f:Nat→Bool):∀n k,(zmu f n).testBit k=(decide (k<n)&&f k)
 |0,k=>by
  show(0:Nat).testBit k=_
  rw[Nat.zero_testBit]
  rfl
 |n+1,k=>by
  show(zmu f n|||_).testBit k=_
  rw[Nat.testBit_or,zfe f n k]
  by_cases e:k=n
  ·subst e
   rw[decide_eq_false (Nat.lt_irrefl _),Bool.false_and,Bool.false_or,decide_eq_true (Nat.lt_succ_self _),Bool.true_and]
   cases f k
   ·rw[if_neg Bool.false_ne_true,Nat.zero_testBit]
   ·rw[if_pos rfl,Nat.testBit_two_pow_self]
  ·have e2:(if f n=true then 2^n else 0:Nat).testBit k=false:=by
    split
    ·rw[Nat.testBit_two_pow];exact decide_eq_false (Ne.symm e)
    ·exact Nat.zero_testBit _
   rw[e2,Bool.or_false]
   congr 1
   by_cases z:k<n
   ·rw[decide_eq_true z,decide_eq_true (by omega)]
   ·rw[decide_eq_false z,decide_eq_false (by omega)]
def zcw(kept:List Nat)(w:Nat):Nat:=zmu (fun i=>w.testBit (kept.getD i 0)) kept.length
theorem zpr(kept:List Nat)(w:Nat):zcw kept w<2^kept.length:=Nat.lt_pow_two_of_testBit _ fun k hk=>by
 unfold zcw
 rw[zfe,decide_eq_false (by omega)]
 rfl
theorem zbv{kept:List Nat}{w k:Nat}(h:k∈kept):(zcw kept w).testBit (mv kept k)=w.testBit k:=by
 unfold zcw
 rw[zfe,decide_eq_true (zd2 h),Bool.true_and,List.getD_eq_getElem?_getD,zg6 h]
 rfl
def mvB(kept:List Nat)(b:Bg):Option Bg:=if b.ks.filter (fun k=>decide (k∈kept))=[] then none else some ⟨mv kept b.u,b.lo,b.hi,(b.ks.filter (fun k=>decide (k∈kept))).map (mv kept)⟩
def mvT(kept:List Nat):Tie→Option Tie
 |.bough u lo hi ks=>(mvB kept ⟨u,lo,hi,ks⟩).map Bg.tie
 |.needs a b=>if a∈kept∧b∈kept then some (.needs (mv kept a) (mv kept b)) else none
 |.bans a b=>if a∈kept∧b∈kept then some (.bans (mv kept a) (mv kept b)) else none
 |.most top ps=>if ps.filter (fun p=>decide (p.1∈kept))=[] then none else some (.most top ((ps.filter (fun p=>decide (p.1∈kept))).map fun p=>(mv kept p.1,p.2)))
theorem zwj{kept ks:List Nat}(pw:kept.Pairwise (·<·))(pk:ks.Pairwise (·<·))(h:∀k∈ks,k∈kept):(ks.map (mv kept)).Pairwise (·<·):=by
 rw[List.pairwise_map]
 exact pk.imp_of_mem fun ha hb ad=>zgs pw (h _ ha) (h _ hb) ad
theorem zmb{kept:List Nat}{m:Nat}{b b':Bg}(pw:kept.Pairwise (·<·))(ok:Tie.BoughOkW m b.u b.lo b.hi b.ks)(up:(∃k∈b.ks,k∈kept)→b.u∈kept)(h:mvB kept b=some b'):Tie.BoughOkW kept.length b'.u b'.lo b'.hi b'.ks:=by
 unfold mvB at h
 split at h
 ·cases h
 ·rename_i ne
  cases h
  obtain⟨k,hk⟩:=List.exists_mem_of_ne_nil _ ne
  have ae:=List.mem_filter.mp hk
  have hu:=up ⟨k,ae.1,of_decide_eq_true ae.2⟩
  have ad:∀k∈b.ks.filter (fun k=>decide (k∈kept)),k∈kept:=fun k hk=>of_decide_eq_true (List.mem_filter.mp hk).2
  have pk:=zwj pw (ok.ris.filter _) ad
  refine⟨zd2 hu,fun z=>ne (List.map_eq_nil_iff.mp z),fun k hk=>?_,pk,?_,ok.lo0,ok.lohi⟩
  ·obtain⟨j,hj,rfl⟩:=List.mem_map.mp hk
   exact⟨zgs pw hu (ad j hj) (ok.up j (List.mem_filter.mp hj).1).1,zd2 (ad j hj)⟩
  ·have:∀k∈(b.ks.filter (fun k=>decide (k∈kept))).map (mv kept),k<kept.length:=fun k hk=>by
    obtain⟨j,hj,rfl⟩:=List.mem_map.mp hk
    exact zd2 (ad j hj)
   exact zkn (pk.imp fun a=>Nat.ne_of_lt a) this
theorem zm7{kept:List Nat}{m:Nat}{t t':Tie}(pw:kept.Pairwise (·<·))(ok:t.Ok m)(nb:∀u lo hi ks,t≠.bough u lo hi ks)(h:mvT kept t=some t'):t'.Ok kept.length:=by
 cases t with
 |bough u lo hi ks=>exact absurd rfl (nb u lo hi ks)
 |needs a b=>
  simp only[mvT] at h
  split at h
  ·rename_i ad
   cases h
   refine⟨zd2 ad.1,zd2 ad.2,?_⟩
   rcases Nat.lt_or_gt_of_ne ok.2.2 with z|z
   ·have:=zgs pw ad.1 ad.2 z;omega
   ·have:=zgs pw ad.2 ad.1 z;omega
  ·cases h
 |bans a b=>
  simp only[mvT] at h
  split at h
  ·rename_i ad
   cases h
   refine⟨zd2 ad.1,zd2 ad.2,?_⟩
   rcases Nat.lt_or_gt_of_ne ok.2.2 with z|z
   ·have:=zgs pw ad.1 ad.2 z;omega
   ·have:=zgs pw ad.2 ad.1 z;omega
  ·cases h
 |most top ps=>
  simp only[mvT] at h
  split at h
  ·cases h
  ·rename_i ne
   cases h
   obtain⟨_,_,pp,_⟩:=ok
   have ae:∀p∈ps.filter (fun p=>decide (p.1∈kept)),p.1∈kept:=fun p hp=>of_decide_eq_true (List.mem_filter.mp hp).2
   have e:((ps.filter (fun p=>decide (p.1∈kept))).map fun p=>(mv kept p.1,p.2)).map (·.1)=((ps.filter (fun p=>decide (p.1∈kept))).map (·.1)).map (mv kept):=by
    rw[List.map_map,List.map_map]
    rfl
   have pk:(((ps.filter (fun p=>decide (p.1∈kept))).map (·.1)).map (mv kept)).Pairwise (·<·):=zwj pw (pp.sublist (List.Sublist.map _ List.filter_sublist)) fun k hk=>by
    obtain⟨p,hp,rfl⟩:=List.mem_map.mp hk
    exact ae p hp
   have lt:∀k∈((ps.filter (fun p=>decide (p.1∈kept))).map (·.1)).map (mv kept),k<kept.length:=fun k hk=>by
    obtain⟨j,hj,rfl⟩:=List.mem_map.mp hk
    obtain⟨p,hp,rfl⟩:=List.mem_map.mp hj
    exact zd2 (ae p hp)
   refine⟨fun z=>ne (List.map_eq_nil_iff.mp z),fun p hp=>?_,by rw[e];exact pk,?_⟩
   ·obtain⟨q,hq,rfl⟩:=List.mem_map.mp hp
    exact zd2 (ae q hq)
   ·have:=zkn (pk.imp fun a=>Nat.ne_of_lt a) lt
    rw[List.length_map,List.length_map] at this
    rw[List.length_map]
    exact this
theorem zsl{kept ks:List Nat}{w:Nat}(h:∀k∈ks,w.testBit k=true→k∈kept):cnt ((ks.filter (fun k=>decide (k∈kept))).map (mv kept)) (zcw kept w)=cnt ks w:=by
 unfold cnt
 rw[List.filter_map,List.length_map]
 have e:((ks.filter fun k=>decide (k∈kept)).filter ((fun k=>(zcw kept w).testBit k)∘mv kept))=ks.filter fun k=>w.testBit k:=by
  rw[List.filter_filter]
  refine List.filter_congr fun k hk=>?_
  rw[Function.comp_apply]
  by_cases z:k∈kept
  ·rw[zbv z,decide_eq_true z,Bool.and_true]
  ·rw[decide_eq_false z,Bool.and_false]
   symm
   rw[Bool.eq_false_iff]
   exact fun y=>z (h k hk y)
 rw[e]
theorem zse{kept:List Nat}{ps:List (Nat×Int)}{w:Nat}(h:∀p∈ps,w.testBit p.1=true→p.1∈kept):zee ((ps.filter (fun p=>decide (p.1∈kept))).map fun p=>(mv kept p.1,p.2)) (fun p=>(zcw kept w).testBit p.1)=zee ps (fun p=>w.testBit p.1):=by
 unfold zee
 rw[List.filter_map,List.map_map]
 have e:((ps.filter fun p=>decide (p.1∈kept)).filter ((fun p=>(zcw kept w).testBit p.1)∘fun p=>(mv kept p.1,p.2)))=ps.filter fun p=>w.testBit p.1:=by
  rw[List.filter_filter]
  refine List.filter_congr fun p hp=>?_
  rw[Function.comp_apply]
  by_cases z:p.1∈kept
  ·rw[zbv z,decide_eq_true z,Bool.and_true]
  ·rw[decide_eq_false z,Bool.and_false]
   symm
   rw[Bool.eq_false_iff]
   exact fun y=>z (h p hp y)
 rw[e]
 rfl
theorem ztf{kept:List Nat}{w:Nat}{b b':Bg}(hw:∀k,w.testBit k=true→k∈kept)(up:(∃k∈b.ks,k∈kept)→b.u∈kept)(h:mvB kept b=some b')(hk:b.tie.keep w=true):b'.tie.keep (zcw kept w)=true:=by
 unfold mvB at h
 split at h
 ·cases h
 ·rename_i ne
  cases h
  obtain⟨k,ae⟩:=List.exists_mem_of_ne_nil _ ne
  have ad:=List.mem_filter.mp ae
  have hu:=up ⟨k,ad.1,of_decide_eq_true ad.2⟩
  show(if (zcw kept w).testBit (mv kept b.u)=true then _ else _)=true
  rw[zbv hu,zsl fun k _ h=>hw k h]
  exact hk
theorem zug{kept:List Nat}{w:Nat}{t t':Tie}(hw:∀k,w.testBit k=true→k∈kept)(nb:∀u lo hi ks,t≠.bough u lo hi ks)(h:mvT kept t=some t')(hk:t.keep w=true):t'.keep (zcw kept w)=true:=by
 cases t with
 |bough u lo hi ks=>exact absurd rfl (nb u lo hi ks)
 |needs a b=>
  simp only[mvT] at h
  split at h
  ·rename_i ad
   cases h
   show(!(zcw kept w).testBit (mv kept a)||(zcw kept w).testBit (mv kept b))=true
   rw[zbv ad.1,zbv ad.2]
   exact hk
  ·cases h
 |bans a b=>
  simp only[mvT] at h
  split at h
  ·rename_i ad
   cases h
   show(!(zcw kept w).testBit (mv kept a)||!(zcw kept w).testBit (mv kept b))=true
   rw[zbv ad.1,zbv ad.2]
   exact hk
  ·cases h
 |most top ps=>
  simp only[mvT] at h
  split at h
  ·cases h
  ·cases h
   show decide (zee _ _≤top)=true
   rw[zse fun p _ h=>hw p.1 h]
   exact hk
def zak(m:Nat)(ts:List Tie):List Nat:=(List.range m).filter fun k=>(za1 m ts).any fun w=>w.testBit k
theorem mem_keptL{m:Nat}{ts:List Tie}{k:Nat}:k∈zak m ts↔k<m∧∃w,w<2^m∧zbs ts w=true∧w.testBit k=true:=by
 unfold zak
 rw[List.mem_filter,List.mem_range,List.any_eq_true]
 constructor
 ·rintro⟨h1,w,hw,hk⟩
  obtain⟨a,b⟩:=mem_wareL.mp hw
  exact⟨h1,w,a,b,hk⟩
 ·rintro⟨h1,w,a,b,hk⟩
  exact⟨h1,w,mem_wareL.mpr ⟨a,b⟩,hk⟩
theorem zgo(m:Nat)(ts:List Tie):(zak m ts).Pairwise (·<·):=List.Pairwise.filter _ List.pairwise_lt_range
theorem zgu(m:Nat)(ts:List Tie):(zak m ts).length≤m:=by
 have:=List.length_filter_le (fun k=>(za1 m ts).any fun w=>w.testBit k) (List.range m)
 rwa [List.length_range] at this
theorem zdz{m w:Nat}{ts:List Tie}(hw:w<2^m)(W:zbs ts w=true){k:Nat}(hk:w.testBit k=true):k∈zak m ts:=by
 refine mem_keptL.mpr ⟨?_,w,hw,W,hk⟩
 rcases Nat.lt_or_ge k m with z|z
 ·exact z
 ·have p:2^m≤2^k:=Nat.pow_le_pow_right (by decide) z
  rw[Nat.testBit_lt_two_pow (by omega)] at hk
  cases hk
theorem zeg{m:Nat}{ts:List Tie}{b:Bg}(hb:b.tie∈ts):(∃k∈b.ks,k∈zak m ts)→b.u∈zak m ts:=by
 rintro⟨k,hk,af⟩
 obtain⟨km,w,hw,W,ae⟩:=mem_keptL.mp af
 refine zdz hw W ?_
 have ad:b.tie.keep w=true:=by
  unfold zbs at W
  exact List.all_eq_true.mp (Bool.and_eq_true_iff.mp W).2 _ hb
 cases e:w.testBit b.u with
 |true=>rfl
 |false=>
  have:decide (cnt b.ks w=0)=true:=by
   have h2:(if w.testBit b.u=true then decide (b.lo≤(cnt b.ks w:Int))&&decide ((cnt b.ks w:Int)≤b.hi) else decide (cnt b.ks w=0))=true:=ad
   rw[e,if_neg Bool.false_ne_true] at h2
   exact h2
  have z:=of_decide_eq_true this
  unfold cnt at z
  have:=List.length_eq_zero_iff.mp z
  have hm:k∈b.ks.filter fun k=>w.testBit k:=List.mem_filter.mpr ⟨hk,ae⟩
  rw[this] at hm
  cases hm
def zal(L:List Bg)(C:List Tie):List Tie:=L.map Bg.tie++C
theorem zkk{m w:Nat}{L:List Bg}{C:List Tie}(nb:∀t∈C,∀u lo hi ks,t≠.bough u lo hi ks)(hw:w<2^m)(W:zbs (zal L C) w=true):zbs (zal (L.filterMap (mvB (zak m (zal L C)))) (C.filterMap (mvT (zak m (zal L C))))) (zcw (zak m (zal L C)) w)=true:=by
 have ad:∀k,w.testBit k=true→k∈zak m (zal L C):=fun k hk=>zdz hw W hk
 have W':=W
 unfold zbs at W ⊢
 rw[Bool.and_eq_true] at W ⊢
 have keep:∀t∈zal L C,t.keep w=true:=List.all_eq_true.mp W.2
 constructor
 ·have h0:0∈zak m (zal L C):=ad 0 W.1
  have e0:mv (zak m (zal L C)) 0=0:=by
   rcases Nat.eq_zero_or_pos (mv (zak m (zal L C)) 0) with z|z
   ·exact z
   ·have il:0<(zak m (zal L C)).length:=Nat.lt_trans z (zd2 h0)
    obtain⟨i1,e1⟩:=List.getElem?_eq_some_iff.mp (zg6 h0)
    have:=List.pairwise_iff_getElem.mp (zgo m (zal L C)) 0 _ il i1 z
    omega
  have:=zbv (w:=w) h0
  rw[e0] at this
  rw[this]
  exact W.1
 ·rw[List.all_eq_true]
  intro t ht
  unfold zal at ht
  rcases List.mem_append.mp ht with z|z
  ·obtain⟨b',af,rfl⟩:=List.mem_map.mp z
   obtain⟨b,hb,e⟩:=List.mem_filterMap.mp af
   have ae:b.tie∈zal L C:=List.mem_append.mpr (.inl (List.mem_map.mpr ⟨b,hb,rfl⟩))
   exact ztf ad (zeg ae) e (keep _ ae)
  ·obtain⟨c,hc,e⟩:=List.mem_filterMap.mp z
   exact zug ad (nb c hc) e (keep _ (List.mem_append.mpr (.inr hc)))
theorem zkx:∀ps:List (Nat×Int),(ps.map zfv).all (zbf 1)=true
 |[]=>rfl
 |p::ps=>by
  rw[List.map_cons,List.all_cons,zkx ps]
  rfl
theorem zfs{u:Nat}{lo hi:Int}{ks:List Nat}(h:ks.length≤1000):zbf 3 (Tie.bough u lo hi ks).toD=true:=by
 have:=zoo (u:Int) lo hi (ks.map fun k:Nat=>(k:Int)) (by rw[List.length_map];exact h)
 unfold zrs at this
 rw[List.map_map] at this
 exact this
theorem zkb{m:Nat}{t:Tie}(ok:t.Ok m)(m9:m≤900):zbf 3 t.toD=true:=by
 cases t with
 |bough u lo hi ks=>exact zfs (Nat.le_trans ok.few (by omega))
 |needs a b=>
  show(true&&(zbf 2 (.str ("needs" : Str))&&(true&&(true&&true))))=true
  rw[show zbf 2 (.str ("needs" : Str))=true from ziw]
  rfl
 |bans a b=>
  show(true&&(zbf 2 (.str ("bans" : Str))&&(true&&(true&&true))))=true
  rw[show zbf 2 (.str ("bans" : Str))=true from zky]
  rfl
 |most top ps=>exact zlf (m:=m) (zkx ps) (by rw[List.length_map];exact Nat.le_trans ok.2.2.2 (by omega))
theorem zd1{m:Nat}{ts:List Tie}(ok:∀t∈ts,t.Ok m)(m9:m≤900):(ts.map Tie.toD).all (zbf 3)=true:=by
 rw[List.all_map,List.all_eq_true]
 exact fun t ht=>zkb (ok t ht) m9
theorem zjj{H:Hp}:∀ks:List Nat,DnL H (ks.map fun k:Nat=>PyData.int (k:Int)) (zaj ks)
 |[]=>rfl
 |k::ks=>⟨_,_,rfl,rfl,zjj ks⟩
def TiesAt(H:Hp)(p:Addr)(ts:List Tie):Prop:=∃xs,H p=some (.tup xs)∧DnL H (ts.map Tie.toD) xs
theorem TiesAt.same{H H':Hp}{p:Addr}{ts:List Tie}(s:Same H H')(h:TiesAt H p ts):TiesAt H' p ts:=by
 obtain⟨xs,h1,h2⟩:=h
 exact⟨xs,s _ _ h1,DnL.same s _ _ h2⟩
theorem TiesAt.tupS{H H':Hp}{p:Addr}{m:Nat}{ts:List Tie}(t:zk3 H H')(ok:∀t∈ts,t.Ok m)(m9:m≤900)(h:TiesAt H p ts):TiesAt H' p ts:=by
 obtain⟨xs,h1,h2⟩:=h
 exact⟨xs,t _ _ h1,DnL.tupS t (zd1 ok m9) h2⟩
theorem zfo{H:Hp}{wd tb tc:Addr}{m:Nat}{B C:List Tie}(hw:H wd=some (.tup [.int (m:Int),.ref tb,.ref tc]))(hb:TiesAt H tb B)(hc:TiesAt H tc C)(ok:∀t∈B++C,t.Ok m)(few:(B++C).length≤900)(m9:m≤900):WoodT H wd m (B++C):=by
 obtain⟨xs,h1,d1⟩:=hb
 obtain⟨ys,h2,d2⟩:=hc
 exact⟨⟨xs,ys,⟨tb,tc,hw,h1,h2⟩,by rw[List.map_append];exact d1.append d2⟩,ok,few,m9⟩
def zm4:Sp:=fun vs H Q _=>∃(tb lk:Addr)(L:List Bg)(kept:List Nat)(m:Nat),vs=[.ref tb,.ref lk]∧TiesAt H tb (L.map Bg.tie)∧H lk=some (.lst (zaj kept))∧kept.Pairwise (·<·)∧kept.length≤9∧L.length≤20∧m≤9∧(∀b∈L,Tie.BoughOkW m b.u b.lo b.hi b.ks)∧(∀b∈L,(∃k∈b.ks,k∈kept)→b.u∈kept) ∧
 ∀(t:Addr)(H':Hp),Same H H'→TiesAt H' t ((L.filterMap (mvB kept)).map Bg.tie)→Q (.ref t) H'
def znv:Sp:=fun vs H Q _=>∃(tc lk:Addr)(C:List Tie)(kept:List Nat)(m:Nat),vs=[.ref tc,.ref lk]∧TiesAt H tc C∧H lk=some (.lst (zaj kept))∧kept.Pairwise (·<·)∧kept.length≤9∧C.length≤20∧m≤9∧(∀t∈C,t.Ok m)∧(∀t∈C,∀u lo hi ks,t≠.bough u lo hi ks) ∧
 ∀(t:Addr)(H':Hp),Same H H'→TiesAt H' t (C.filterMap (mvT kept))→Q (.ref t) H'
def zrv:Sp:=fun vs H Q _=>∃(tc:Addr)(C:List Tie)(p:Nat),vs=[.ref tc,.int (p:Int)]∧TiesAt H tc C∧p<C.length∧C.length≤100∧∀(t:Addr)(H':Hp),Same H H'→TiesAt H' t (C.eraseIdx p)→Q (.ref t) H'
def zei(m:Nat)(B C:List Tie)(p:Nat):Option Nat:=(za1 m (B++C.eraseIdx p)).find? fun s=>!((C[p]?.map fun t=>t.keep s).getD true)
def zpx:Sp:=fun vs H Q _=>∃(tb tc:Addr)(m p:Nat)(B C:List Tie),vs=[.int (m:Int),.ref tb,.ref tc,.int (p:Int)]∧TiesAt H tb B∧TiesAt H tc C∧p<C.length∧1≤m∧m≤9∧(∀t∈B,t.Ok m)∧(∀t∈C,t.Ok m)∧B.length≤20∧C.length≤20∧∀H',Same H H'→Q (zo4 (zei m B C p)) H'
def zb8(m:Nat)(B:List Tie):Nat→List Tie→Nat→List Tie
 |0,C,_=>C
 |f+1,C,p=>if zei m B C p=none then zb8 m B f (C.eraseIdx p) p else zb8 m B f C (p+1)
def zp5:Sp:=fun vs H Q _=>∃(tb tc:Addr)(m:Nat)(B C:List Tie),vs=[.int (m:Int),.ref tb,.ref tc]∧TiesAt H tb B∧TiesAt H tc C∧1≤m∧m≤9∧(∀t∈B,t.Ok m)∧(∀t∈C,t.Ok m)∧B.length≤20∧C.length≤20∧∀(t:Addr)(H':Hp),Same H H'→TiesAt H' t (zb8 m B C.length C 0)→Q (.ref t) H'
structure TightB(sold:List Nat)(b b':Bg):Prop where
 u:b'.u=b.u
 ks:b'.ks=b.ks
 lo:∃w∈sold,w.testBit b.u=true∧b'.lo=(cnt b.ks w:Int)
 lo':∀w∈sold,w.testBit b.u=true→b'.lo≤(cnt b.ks w:Int)
 hi:∃w∈sold,w.testBit b.u=true∧b'.hi=(cnt b.ks w:Int)
 hi':∀w∈sold,w.testBit b.u=true→(cnt b.ks w:Int)≤b'.hi
def TightL(sold:List Nat):List Bg→List Bg→Prop
 |[],L=>L=[]
 |b::r,L=>∃b' r',L=b'::r'∧TightB sold b b'∧TightL sold r r'
def zv7:Sp:=fun vs H Q _=>∃(v:V)(ls:Addr)(b:Bg)(sold:List Nat),vs=[v,.ref ls]∧Dn H b.tie.toD v∧b.ks.length≤1000∧H ls=some (.lst (zaj sold))∧sold.length≤1000∧(∃w∈sold,w.testBit b.u=true)∧∀(b':Bg)(v':V)(H':Hp),Same H H'→TightB sold b b'→Dn H' b'.tie.toD v'→Q v' H'
def zhh(sold:List Nat)(b:Bg)(c:Int):Option Nat:=sold.find? fun w=>w.testBit b.u&&decide ((cnt b.ks w:Int)=c)
def zol:Sp:=fun vs H Q _=>∃(ls:Addr)(v:V)(b:Bg)(sold:List Nat)(c:Int)(w:Nat),vs=[.ref ls,v,.int c]∧Dn H b.tie.toD v∧b.ks.length≤1000∧H ls=some (.lst (zaj sold))∧sold.length≤1000∧zhh sold b c=some w∧∀H',Same H H'→Q (.int (w:Int)) H'
theorem znk{H:Hp}{top:Int}{ps:List (Nat×Int)}{v:V}(h:Dn H (Tie.most top ps).toD v):∃p pk xs,v=.ref p∧H p=some (.tup [.str ("most" : Str),.int top,.ref pk])∧H pk=some (.tup xs)∧DnL H (ps.map zfv) xs:=by
 obtain⟨p,xs,rfl,hp,x1,r1,rfl,h1,x2,r2,rfl,h2,x3,r3,rfl,h3,e⟩:=zbw h
 cases(show r3=[] from e)
 obtain⟨pk,ys,rfl,ad,d⟩:=zbw h3
 cases(show x1=_ from h1)
 cases(show x2=_ from h2)
 exact⟨p,pk,ys,rfl,hp,ad,d⟩
theorem zmi{H:Hp}{s:Str}{a b:Nat}{v:V}(h:Dn H (.tuple [.str s,.int (a:Int),.int (b:Int)]) v):∃p,v=.ref p∧H p=some (.tup [.str s,.int (a:Int),.int (b:Int)]):=by
 obtain⟨p,xs,rfl,hp,x1,r1,rfl,h1,x2,r2,rfl,h2,x3,r3,rfl,h3,e⟩:=zbw h
 cases(show r3=[] from e)
 cases(show x1=_ from h1)
 cases(show x2=_ from h2)
 cases(show x3=_ from h3)
 exact⟨p,rfl,hp⟩
def zxk:Option Stmt→Expr
 |some (Stmt.Assign _ e _)=>e
 |_=>.Constant .none 0 ⟨0,0,0,0⟩
def fL1(m:Nat)(L:List Bg)(C:List Tie):List Bg:=L.filterMap (mvB (zak m (zal L C)))
def fC1(m:Nat)(L:List Bg)(C:List Tie):List Tie:=C.filterMap (mvT (zak m (zal L C)))
def zcs(m:Nat)(L:List Bg)(C:List Tie):List Nat:=za1 (zak m (zal L C)).length (zal (fL1 m L C) (fC1 m L C))
def fC2(m:Nat)(L:List Bg)(C:List Tie)(L2:List Bg):List Tie:=zb8 (zak m (zal L C)).length (L2.map Bg.tie) (fC1 m L C).length (fC1 m L C) 0
def zpw(sold:List Nat)(b:Bg):PyData:=.tuple [.int (((zhh sold b b.lo).getD 0:Nat):Int),.int (((zhh sold b b.hi).getD 0:Nat):Int)]
structure zsg(H H':Hp)(f:Addr)(m:Nat)(L:List Bg)(C:List Tie)(L2:List Bg):Prop where
 tight:TightL (zcs m L C) (fL1 m L C) L2
 ex:∃(w2 lk lt ln tb tc:Addr)(xt:List V),H' f=some (.tup [.ref w2,.ref lk,.ref lt,.ref ln])∧H' w2=some (.tup [.int ((zak m (zal L C)).length:Int),.ref tb,.ref tc])∧TiesAt H' tb (L2.map Bg.tie)∧TiesAt H' tc (fC2 m L C L2) ∧
  H' lk=some (.lst (zaj (zak m (zal L C))))∧H' lt=some (.lst xt)∧DnL H' (L2.map (zpw (zcs m L C))) xt∧H' ln=some (.lst ((List.range (fC2 m L C L2).length).map fun p=>zo4 (zei (zak m (zal L C)).length (L2.map Bg.tie) (fC2 m L C L2) p)))∧H lk=none∧H lt=none∧H ln=none∧lk≠lt∧lk≠ln∧lt≠ln
structure WoodP(H:Hp)(wd tb tc:Addr)(m:Nat)(L:List Bg)(C:List Tie):Prop where
 at_:H wd=some (.tup [.int (m:Int),.ref tb,.ref tc])
 bs:TiesAt H tb (L.map Bg.tie)
 cs:TiesAt H tc C
 okb:∀b∈L,Tie.BoughOkW m b.u b.lo b.hi b.ks
 okc:∀t∈C,t.Ok m
 nb:∀t∈C,∀u lo hi ks,t≠.bough u lo hi ks
 m1:1≤m
 m9:m≤9
 fewb:L.length≤20
 fewc:C.length≤20
theorem WoodP.same{H H':Hp}{wd tb tc:Addr}{m:Nat}{L:List Bg}{C:List Tie}(s:Same H H')(h:WoodP H wd tb tc m L C):WoodP H' wd tb tc m L C:=⟨s _ _ h.at_,h.bs.same s,h.cs.same s,h.okb,h.okc,h.nb,h.m1,h.m9,h.fewb,h.fewc⟩
theorem WoodP.ok{H:Hp}{wd tb tc:Addr}{m:Nat}{L:List Bg}{C:List Tie}(h:WoodP H wd tb tc m L C):∀t∈zal L C,t.Ok m:=fun t ht=>by
 rcases List.mem_append.mp ht with z|z
 ·obtain⟨b,hb,rfl⟩:=List.mem_map.mp z
  exact h.okb b hb
 ·exact h.okc t z
theorem WoodP.tupS{H H':Hp}{wd tb tc:Addr}{m:Nat}{L:List Bg}{C:List Tie}(s:zk3 H H')(h:WoodP H wd tb tc m L C):WoodP H' wd tb tc m L C:=⟨s _ _ h.at_,h.bs.tupS s (m:=m) (fun t ht=>h.ok t (List.mem_append.mpr (.inl ht))) (by have:=h.m9;omega),h.cs.tupS s (m:=m) (fun t ht=>h.ok t (List.mem_append.mpr (.inr ht))) (by have:=h.m9;omega),h.okb,h.okc,h.nb,h.m1,h.m9,h.fewb,h.fewc⟩
theorem WoodP.woodT{H:Hp}{wd tb tc:Addr}{m:Nat}{L:List Bg}{C:List Tie}(h:WoodP H wd tb tc m L C):WoodT H wd m (zal L C):=by
 have:=h.fewb
 have:=h.fewc
 have:=h.m9
 exact zfo h.at_ h.bs h.cs h.ok (by rw[List.length_append,List.length_map];omega) (by omega)
def ztg:Sp:=fun vs H Q _=>∃(wd tb tc:Addr)(m:Nat)(L:List Bg)(C:List Tie),vs=[.ref wd]∧WoodP H wd tb tc m L C∧(∃s,s<2^m∧zbs (zal L C) s=true)∧∀(f:Addr)(L2:List Bg)(H':Hp),Same H H'→zsg H H' f m L C L2→Q (.ref f) H'
def zry(D:Addr):Sp:=fun vs H _ E=>∃(wd tb tc:Addr)(m:Nat)(L:List Bg)(C:List Tie),vs=[.ref wd]∧WoodP H wd tb tc m L C∧(∀s,s<2^m→zbs (zal L C) s=false)∧∀H',Same H H'→E (.ref D) none H'
theorem TightB.ok{m:Nat}{sold:List Nat}{b b':Bg}(t:TightB sold b b')(ok:Tie.BoughOkW m b.u b.lo b.hi b.ks):Tie.BoughOkW m b'.u b'.lo b'.hi b'.ks:=by
 obtain⟨w,hw,hb,e⟩:=t.lo
 have h2:=t.hi' w hw hb
 refine⟨by rw[t.u];exact ok.um,by rw[t.ks];exact ok.ks0,by rw[t.u,t.ks];exact ok.up,by rw[t.ks];exact ok.ris,by rw[t.ks];exact ok.few,by omega,by omega⟩
theorem TightL.length{sold:List Nat}:∀{L L':List Bg},TightL sold L L'→L'.length=L.length
 |[],_,h=>by cases(show _=[] from h);rfl
 |_::_,_,⟨b',r',e,_,h⟩=>by rw[e,List.length_cons,List.length_cons,TightL.length h]
theorem TightL.ok{m:Nat}{sold:List Nat}:∀{L L':List Bg},TightL sold L L'→(∀b∈L,Tie.BoughOkW m b.u b.lo b.hi b.ks)→∀b∈L',Tie.BoughOkW m b.u b.lo b.hi b.ks
 |[],_,h,_=>fun x hx=>by rw[show _=[] from h] at hx;cases hx
 |_::_,_,⟨b',r',e,t,h⟩,ok=>by
  rw[e]
  intro x hx
  rcases List.mem_cons.mp hx with rfl|hx
  ·exact t.ok (ok _ List.mem_cons_self)
  ·exact TightL.ok h (fun y hy=>ok y (List.mem_cons_of_mem _ hy)) x hx
theorem TightL.snoc{sold:List Nat}{b b':Bg}(t:TightB sold b b'):∀{L L':List Bg},TightL sold L L'→TightL sold (L++[b]) (L'++[b'])
 |[],_,h=>by cases(show _=[] from h);exact⟨b',[],rfl,t,rfl⟩
 |_::_,_,⟨c',r',e,u,h⟩=>⟨c',r'++[b'],by rw[e];rfl,u,TightL.snoc t h⟩
theorem TightL.get{sold:List Nat}:∀{L L':List Bg} {i:Nat} {b':Bg},TightL sold L L'→L'[i]?=some b'→∃b,L[i]?=some b∧TightB sold b b'
 |[],_,i,_,h,e=>by rw[show _=[] from h] at e;cases e
 |c::_,_,0,b',⟨c',r',e',t,h⟩,e=>by rw[e'] at e;cases e;exact⟨c,rfl,t⟩
 |c::r,_,i+1,b',⟨c',r',e',t,h⟩,e=>by rw[e'] at e;exact TightL.get (i:=i) h (by rw[List.getElem?_cons_succ] at e;exact e)
theorem needless_sub{m:Nat}{B:List Tie}:∀{f:Nat} {C:List Tie} {p:Nat},(zb8 m B f C p).Sublist C
 |0,C,_=>List.Sublist.refl C
 |f+1,C,p=>by
  unfold zb8
  split
  ·exact needless_sub.trans (List.eraseIdx_sublist C p)
  ·exact needless_sub
theorem znf{sold:List Nat}{b:Bg}{c:Int}(h:∃w∈sold,w.testBit b.u=true∧c=(cnt b.ks w:Int)):∃w,zhh sold b c=some w:=by
 obtain⟨w,hw,hb,e⟩:=h
 unfold zhh
 cases z:sold.find? fun w=>w.testBit b.u&&decide ((cnt b.ks w:Int)=c) with
 |some w'=>exact⟨w',rfl⟩
 |none=>
  have:=List.find?_eq_none.mp z w hw
  rw[hb,decide_eq_true e.symm] at this
  exact absurd rfl this
theorem TightB.first_lo{sold:List Nat}{b b':Bg}(t:TightB sold b b'):∃w,zhh sold b' b'.lo=some w:=znf (by rw[t.u,t.ks];exact t.lo)
theorem TightB.first_hi{sold:List Nat}{b b':Bg}(t:TightB sold b b'):∃w,zhh sold b' b'.hi=some w:=znf (by rw[t.u,t.ks];exact t.hi)
theorem zu7{m w0:Nat}{L:List Bg}{C:List Tie}(nb:∀t∈C,∀u lo hi ks,t≠.bough u lo hi ks){b':Bg}(h:b'∈fL1 m L C):∃w∈zcs m L C,w.testBit b'.u=true:=by
 obtain⟨b,hb,e⟩:=List.mem_filterMap.mp h
 have af:b.tie∈zal L C:=List.mem_append.mpr (.inl (List.mem_map.mpr ⟨b,hb,rfl⟩))
 unfold mvB at e
 split at e
 ·cases e
 ·rename_i ne
  cases e
  obtain⟨k,ag⟩:=List.exists_mem_of_ne_nil _ ne
  have ae:=List.mem_filter.mp ag
  have hu:=zeg af ⟨k,ae.1,of_decide_eq_true ae.2⟩
  obtain⟨_,w,hw,W,ad⟩:=mem_keptL.mp hu
  refine⟨zcw (zak m (zal L C)) w,mem_wareL.mpr ⟨zpr _ _,zkk nb hw W⟩,?_⟩
  rw[zbv hu]
  exact ad
theorem zj8{m:Nat}{ts:List Tie}(h:∃s,s<2^m∧zbs ts s=true):1≤(zak m ts).length:=by
 obtain⟨s,hs,W⟩:=h
 have h0:s.testBit 0=true:=by
  unfold zbs at W
  exact(Bool.and_eq_true_iff.mp W).1
 exact List.length_pos_of_mem (zdz hs W h0)
def ztc:Sp:=fun vs H Q _=>∃(v:V)(lk:Addr)(t:Tie)(kept:List Nat)(m:Nat),vs=[v,.ref lk]∧Dn H t.toD v∧H lk=some (.lst (zaj kept))∧kept.length≤9∧t.Ok m∧m≤9∧(∀u lo hi ks,t≠.bough u lo hi ks)∧∀(l:Addr)(xs:List V)(H':Hp),Same H H'→H' l=some (.lst xs)→DnL H' ((mvT kept t).toList.map Tie.toD) xs→Q (.ref l) H'
theorem WoodX.parts{H:Hp}{wd:Addr}{m:Nat}{bs cs:List PyData}(h:WoodX H wd m bs cs):∃(tb tc:Addr)(L:List Bg)(C:List Tie),WoodP H wd tb tc m L C∧bs=(L.map Bg.tie).map Tie.toD∧cs=C.map Tie.toD:=by
 obtain⟨xs,ys,⟨tb,tc,h1,h2,h3⟩,db,dc⟩:=h.ex
 obtain⟨L,e,ok⟩:=zs2 h.gb.each
 obtain⟨C,e2,ad⟩:=zls (P:=fun t=>t.Ok m∧∀u lo hi ks,t≠.bough u lo hi ks) (l:=cs) fun x hx=>by
  obtain⟨t,a,b,c⟩:=zma (h.gc x hx)
  exact⟨t,a,b,c⟩
 have b8:=h.b8
 have c8:=h.c8
 have e':bs=(L.map Bg.tie).map Tie.toD:=by rw[e,List.map_map];rfl
 refine⟨tb,tc,L,C,⟨h1,⟨xs,h2,by rw[←e'];exact db⟩,⟨ys,h3,by rw[←e2];exact dc⟩,fun b hb=>(ok b hb).toBoughOkW,fun t ht=>(ad t ht).1,fun t ht=>(ad t ht).2,h.m1,h.m9,?_,?_⟩,e',e2⟩
 ·rw[e,List.length_map] at b8
  omega
 ·rw[e2,List.length_map] at c8
  omega
theorem TightL.mem{sold:List Nat}{L L':List Bg}(h:TightL sold L L'){b':Bg}(hb:b'∈L'):∃b∈L,TightB sold b b':=by
 obtain⟨i,hi,e⟩:=List.getElem_of_mem hb
 obtain⟨b,h1,h2⟩:=h.get (i:=i) (b':=b') (by rw[List.getElem?_eq_getElem hi,e])
 exact⟨b,List.mem_of_getElem? h1,h2⟩
theorem ztn{b:Bg}{s:Nat}:b.tie.keep s=if s.testBit b.u=true then decide (b.lo≤(cnt b.ks s:Int))&&decide ((cnt b.ks s:Int)≤b.hi) else decide (cnt b.ks s=0):=rfl
theorem TightB.unique{sold:List Nat}{b b1 b2:Bg}(h1:TightB sold b b1)(h2:TightB sold b b2):b1=b2:=by
 obtain⟨w,hw,hu,e⟩:=h1.lo
 obtain⟨w',ae,ag,e'⟩:=h2.lo
 obtain⟨v,hv,af,f⟩:=h1.hi
 obtain⟨v',ah,ad,f'⟩:=h2.hi
 have a1:=h1.lo' w' ae ag
 have a2:=h2.lo' w hw hu
 have a3:=h1.hi' v' ah ad
 have a4:=h2.hi' v hv af
 obtain⟨u1,l1,g1,k1⟩:=b1
 obtain⟨u2,l2,g2,k2⟩:=b2
 have x1:u1=b.u:=h1.u
 have x2:u2=b.u:=h2.u
 have y1:k1=b.ks:=h1.ks
 have y2:k2=b.ks:=h2.ks
 simp only at e e' f f' a1 a2 a3 a4
 rw[x1,x2,y1,y2]
 have z1:l1=l2:=by omega
 have z2:g1=g2:=by omega
 rw[z1,z2]
theorem TightL.unique{sold:List Nat}:∀{L A B:List Bg},TightL sold L A→TightL sold L B→A=B
 |[],_,_,h1,h2=>by rw[show _=[] from h1,show _=[] from h2]
 |_::_,_,_,⟨a,r,e,t,h⟩,⟨a',r',e',t',h'⟩=>by rw[e,e',t.unique t',TightL.unique h h']
theorem zi3{α:Type}{p:α→Bool}{xs:List α}{i:Nat}{x:α}(h:xs[i]?=some x)(z:Bool)(hz:p x=z):(xs.take (i+1)).filter p=(xs.take i).filter p++(if z=true then [x] else []):=by
 rw[List.take_add_one,h,Option.toList_some,List.filter_append]
 congr 1
 cases z
 ·rw[List.filter_cons_of_neg (by rw[hz];exact Bool.false_ne_true)];rfl
 ·rw[List.filter_cons_of_pos (by exact hz)];rfl
theorem zxw{kept:List Nat}{t t':Tie}(nb:∀u lo hi ks,t≠.bough u lo hi ks)(h:mvT kept t=some t'){u:Nat}{lo hi:Int}{ks:List Nat}:t'≠.bough u lo hi ks:=by
 intro e
 subst e
 cases t with
 |bough u lo hi ks=>exact nb _ _ _ _ rfl
 |needs a b=>
  simp only[mvT] at h
  split at h<;>cases h
 |bans a b=>
  simp only[mvT] at h
  split at h<;>cases h
 |most top ps=>
  simp only[mvT] at h
  split at h<;>cases h
def zji(kept:List Nat)(s:Nat):Nat→Nat
 |0=>0
 |i+1=>zji kept s i+(if s.testBit i=true then 2^(kept.getD i 0) else 0)
def zjf(kept:List Nat)(s:Nat):Nat:=zji kept s kept.length
theorem zek{kept:List Nat}{i:Nat}(h:i<kept.length):kept.getD i 0=kept[i]:=by
 rw[List.getD_eq_getElem?_getD,List.getElem?_eq_getElem h]
 rfl
theorem zgt{kept:List Nat}(pw:kept.Pairwise (·<·)){j i:Nat}(h:j<i)(hi:i<kept.length):kept.getD j 0<kept.getD i 0:=by
 rw[zek hi,zek (Nat.lt_trans h hi)]
 exact List.pairwise_iff_getElem.mp pw _ _ _ _ h
theorem zh0{kept:List Nat}(pw:kept.Pairwise (·<·))(s:Nat):∀i x,i≤kept.length→(∀j,j<i→kept.getD j 0<x)→zji kept s i<2^x
 |0,x,_,_=>Nat.pow_pos (by decide)
 |i+1,x,hi,h=>by
  have ih:=zh0 pw s i (kept.getD i 0) (by omega) fun j hj=>zgt pw hj (by omega)
  have hy:=h i (Nat.lt_succ_self _)
  have p:2^(kept.getD i 0+1)≤2^x:=Nat.pow_le_pow_right (by decide) hy
  rw[Nat.pow_succ] at p
  show zji kept s i+_<_
  split<;>omega
theorem zvo{kept:List Nat}(pw:kept.Pairwise (·<·))(s:Nat){i:Nat}(hi:i<kept.length):zji kept s (i+1)=zji kept s i|||(if s.testBit i=true then 2^(kept.getD i 0) else 0):=by
 have ih:=zh0 pw s i (kept.getD i 0) (by omega) fun j hj=>zgt pw hj hi
 show zji kept s i+_=_
 split
 ·have:=Nat.two_pow_add_eq_or_of_lt ih 1
  rw[Nat.mul_one] at this
  rw[Nat.add_comm,this,Nat.or_comm]
 ·rw[Nat.add_zero,Nat.or_zero]
theorem zpf{kept:List Nat}(pw:kept.Pairwise (·<·)){i:Nat}(hi:i<kept.length):mv kept (kept.getD i 0)=i:=by
 have hm:kept.getD i 0∈kept:=by rw[zek hi];exact List.getElem_mem hi
 have h1:=zd2 hm
 have h2:=zg6 hm
 rw[List.getElem?_eq_getElem h1] at h2
 injection h2 with h2
 rw[←zek h1] at h2
 rcases Nat.lt_trichotomy (mv kept (kept.getD i 0)) i with z|z|z
 ·have:=zgt pw z hi;omega
 ·exact z
 ·have:=zgt pw z h1;omega
theorem zpa{kept:List Nat}(pw:kept.Pairwise (·<·))(s k:Nat):∀i,i≤kept.length→(zji kept s i).testBit k=(decide (k∈kept)&&(decide (mv kept k<i)&&s.testBit (mv kept k)))
 |0,_=>by
  show(0:Nat).testBit k=_
  rw[Nat.zero_testBit,decide_eq_false (Nat.not_lt_zero _),Bool.false_and,Bool.and_false]
 |i+1,hi=>by
  rw[zvo pw s (by omega),Nat.testBit_or,zpa pw s k i (by omega)]
  by_cases e:k=kept.getD i 0
  ·have hm:k∈kept:=by rw[e,zek (by omega)];exact List.getElem_mem _
   have em:mv kept k=i:=by rw[e];exact zpf pw (by omega)
   rw[em,decide_eq_true hm,decide_eq_false (Nat.lt_irrefl _),decide_eq_true (Nat.lt_succ_self _),Bool.true_and,Bool.true_and,Bool.false_and,Bool.false_or,Bool.true_and]
   cases s.testBit i
   ·rw[if_neg Bool.false_ne_true,Nat.zero_testBit]
   ·rw[if_pos rfl,e,Nat.testBit_two_pow_self]
  ·have z:(if s.testBit i=true then 2^(kept.getD i 0) else 0:Nat).testBit k=false:=by
    split
    ·rw[Nat.testBit_two_pow];exact decide_eq_false (Ne.symm e)
    ·exact Nat.zero_testBit _
   rw[z,Bool.or_false]
   by_cases hm:k∈kept
   ·have ne:mv kept k≠i:=fun y=>e (by
     have:=zg6 hm
     rw[y,List.getElem?_eq_getElem (by omega)] at this
     injection this with this
     rw[zek (by omega),this])
    congr 2
    by_cases y:mv kept k<i
    ·rw[decide_eq_true y,decide_eq_true (by omega)]
    ·rw[decide_eq_false y,decide_eq_false (by omega)]
   ·rw[decide_eq_false hm,Bool.false_and,Bool.false_and]
theorem zj7{kept:List Nat}(pw:kept.Pairwise (·<·))(s k:Nat):(zjf kept s).testBit k=(decide (k∈kept)&&s.testBit (mv kept k)):=by
 unfold zjf
 rw[zpa pw s k _ (Nat.le_refl _)]
 by_cases hm:k∈kept
 ·rw[decide_eq_true (zd2 hm),Bool.true_and]
 ·rw[decide_eq_false hm,Bool.false_and,Bool.false_and]
theorem zvu{kept:List Nat}(pw:kept.Pairwise (·<·)){w:Nat}(h:∀k,w.testBit k=true→k∈kept):zjf kept (zcw kept w)=w:=by
 refine Nat.eq_of_testBit_eq fun k=>?_
 rw[zj7 pw]
 by_cases hm:k∈kept
 ·rw[decide_eq_true hm,Bool.true_and,zbv hm]
 ·rw[decide_eq_false hm,Bool.false_and]
  symm
  rw[Bool.eq_false_iff]
  exact fun z=>hm (h k z)
theorem zqk{kept:List Nat}(pw:kept.Pairwise (·<·)){s:Nat}(h:s<2^kept.length):zcw kept (zjf kept s)=s:=by
 refine Nat.eq_of_testBit_eq fun i=>?_
 unfold zcw
 rw[zfe]
 by_cases hi:i<kept.length
 ·have hm:kept.getD i 0∈kept:=by rw[zek hi];exact List.getElem_mem hi
  rw[decide_eq_true hi,Bool.true_and,zj7 pw,decide_eq_true hm,Bool.true_and,zpf pw hi]
 ·have p:2^kept.length≤2^i:=Nat.pow_le_pow_right (by decide) (by omega)
  rw[decide_eq_false hi,Bool.false_and,Nat.testBit_lt_two_pow (by omega)]
theorem zl2(x i:Nat):x%2^(i+1)=x%2^i+2^i*(x.testBit i).toNat:=by
 rw[Nat.mod_pow_succ,Nat.testBit_eq_decide_div_mod_eq]
 congr 2
 rcases Nat.mod_two_eq_zero_or_one (x/2^i) with z|z
 ·rw[z];rfl
 ·rw[z];rfl
theorem zis{kept:List Nat}(pw:kept.Pairwise (·<·)){s s':Nat}:∀i,i≤kept.length→s%2^i<s'%2^i→zji kept s i<zji kept s' i
 |0,_,h=>by rw[Nat.pow_zero,Nat.mod_one,Nat.mod_one] at h;exact absurd h (Nat.lt_irrefl _)
 |i+1,hi,h=>by
  rw[zl2,zl2] at h
  have l1:=zh0 pw s i (kept.getD i 0) (by omega) fun j hj=>zgt pw hj (by omega)
  have l2:=zh0 pw s' i (kept.getD i 0) (by omega) fun j hj=>zgt pw hj (by omega)
  have m1:=Nat.mod_lt s (Nat.pow_pos (n:=i) (show 0<2 by decide))
  have m2:=Nat.mod_lt s' (Nat.pow_pos (n:=i) (show 0<2 by decide))
  show zji kept s i+_<zji kept s' i+_
  cases e1:s.testBit i<;>cases e2:s'.testBit i
  ·rw[e1,e2] at h
   have:=zis pw i (by omega) (by simpa using h)
   simp only[if_neg Bool.false_ne_true]
   omega
  ·rw[if_neg Bool.false_ne_true,if_pos rfl]
   omega
  ·rw[e1,e2] at h
   simp at h
   omega
  ·rw[e1,e2] at h
   have:=zis pw i (by omega) (by simpa using h)
   simp only[if_pos]
   omega
theorem zr0{kept:List Nat}(pw:kept.Pairwise (·<·)){s s':Nat}(h:s<s')(h':s'<2^kept.length):zjf kept s<zjf kept s':=by
 refine zis pw _ (Nat.le_refl _) ?_
 rw[Nat.mod_eq_of_lt h',Nat.mod_eq_of_lt (by omega)]
 exact h
theorem zu5{kept:List Nat}(pw:kept.Pairwise (·<·)){m:Nat}(h:∀k∈kept,k<m)(s:Nat):zjf kept s<2^m:=by
 refine zh0 pw s _ m (Nat.le_refl _) fun j hj=>?_
 rw[zek hj]
 exact h _ (List.getElem_mem hj)
theorem zui:∀{A B:List Nat},A.Pairwise (·<·)→B.Pairwise (·<·)→(∀x,x∈A↔x∈B)→A=B
 |[],[],_,_,_=>rfl
 |[],b::r,_,_,h=>nomatch (h b).mpr List.mem_cons_self
 |a::r,[],_,_,h=>nomatch (h a).mp List.mem_cons_self
 |a::r,b::r',pa,pb,h=>by
  rw[List.pairwise_cons] at pa pb
  have e:a=b:=by
   rcases List.mem_cons.mp ((h a).mp List.mem_cons_self) with z|z
   ·exact z
   ·rcases List.mem_cons.mp ((h b).mpr List.mem_cons_self) with y|y
    ·exact y.symm
    ·have:=pa.1 b y
     have:=pb.1 a z
     omega
  subst e
  congr 1
  refine zui pa.2 pb.2 fun x=>⟨fun hx=>?_,fun hx=>?_⟩
  ·rcases List.mem_cons.mp ((h x).mp (List.mem_cons_of_mem _ hx)) with z|z
   ·have:=pa.1 x hx;omega
   ·exact z
  ·rcases List.mem_cons.mp ((h x).mpr (List.mem_cons_of_mem _ hx)) with z|z
   ·have:=pb.1 x hx;omega
   ·exact z
theorem zob{kept:List Nat}{w:Nat}{b b':Bg}(hw:∀k,w.testBit k=true→k∈kept)(up:(∃k∈b.ks,k∈kept)→b.u∈kept)(h:mvB kept b=some b'):b'.tie.keep (zcw kept w)=b.tie.keep w:=by
 unfold mvB at h
 split at h
 ·cases h
 ·rename_i ne
  cases h
  obtain⟨k,ae⟩:=List.exists_mem_of_ne_nil _ ne
  have ad:=List.mem_filter.mp ae
  have hu:=up ⟨k,ad.1,of_decide_eq_true ad.2⟩
  show(if (zcw kept w).testBit (mv kept b.u)=true then _ else _)=_
  rw[zbv hu,zsl fun k _ h=>hw k h]
  rfl
theorem zon{kept:List Nat}{w:Nat}{t t':Tie}(hw:∀k,w.testBit k=true→k∈kept)(nb:∀u lo hi ks,t≠.bough u lo hi ks)(h:mvT kept t=some t'):t'.keep (zcw kept w)=t.keep w:=by
 cases t with
 |bough u lo hi ks=>exact absurd rfl (nb u lo hi ks)
 |needs a b=>
  simp only[mvT] at h
  split at h
  ·rename_i ad
   cases h
   show(!(zcw kept w).testBit (mv kept a)||(zcw kept w).testBit (mv kept b))=_
   rw[zbv ad.1,zbv ad.2]
   rfl
  ·cases h
 |bans a b=>
  simp only[mvT] at h
  split at h
  ·rename_i ad
   cases h
   show(!(zcw kept w).testBit (mv kept a)||!(zcw kept w).testBit (mv kept b))=_
   rw[zbv ad.1,zbv ad.2]
   rfl
  ·cases h
 |most top ps=>
  simp only[mvT] at h
  split at h
  ·cases h
  ·cases h
   show decide (zee _ _≤top)=_
   rw[zse fun p _ h=>hw p.1 h]
   rfl
theorem zor{kept ks:List Nat}{w:Nat}(hw:∀k,w.testBit k=true→k∈kept)(h:ks.filter (fun k=>decide (k∈kept))=[]):cnt ks w=0:=by
 unfold cnt
 rw[List.length_eq_zero_iff,List.filter_eq_nil_iff]
 intro k hk z
 rw[List.filter_eq_nil_iff] at h
 exact h k hk (decide_eq_true (hw k z))
theorem znd{kept:List Nat}{ps:List (Nat×Int)}{w:Nat}(hw:∀k,w.testBit k=true→k∈kept)(h:ps.filter (fun p=>decide (p.1∈kept))=[]):zee ps (fun p=>w.testBit p.1)=0:=by
 have e:ps.filter (fun p=>w.testBit p.1)=[]:=by
  rw[List.filter_eq_nil_iff]
  intro k hk z
  rw[List.filter_eq_nil_iff] at h
  exact h k hk (decide_eq_true (hw k.1 z))
 unfold zee
 rw[e]
 rfl
theorem zuf{m s w0:Nat}{L:List Bg}{C:List Tie}(nb:∀t∈C,∀u lo hi ks,t≠.bough u lo hi ks)(h0:w0<2^m)(W0:zbs (zal L C) w0=true)(hs:s<2^(zak m (zal L C)).length)(W:zbs (zal (fL1 m L C) (fC1 m L C)) s=true):zbs (zal L C) (zjf (zak m (zal L C)) s)=true:=by
 have pw:=zgo m (zal L C)
 have ae:∀k,(zjf (zak m (zal L C)) s).testBit k=true→k∈zak m (zal L C):=fun k hk=>by
  rw[zj7 pw,Bool.and_eq_true] at hk
  exact of_decide_eq_true hk.1
 have af:∀w,w<2^m→zbs (zal L C) w=true→∀k,w.testBit k=true→k∈zak m (zal L C):=fun w h1 h2 k hk=>zdz h1 h2 hk
 have ad:∀w,zbs (zal L C) w=true→∀t∈zal L C,t.keep w=true:=fun w hw t ht=>by
  unfold zbs at hw
  exact List.all_eq_true.mp (Bool.and_eq_true_iff.mp hw).2 t ht
 have es:=zqk pw hs
 obtain⟨w,ew⟩:∃w,w=zjf (zak m (zal L C)) s:=⟨_,rfl⟩
 rw[←ew] at ae es ⊢
 obtain⟨kept,ek⟩:∃kept,kept=zak m (zal L C):=⟨_,rfl⟩
 rw[←es] at W
 unfold zbs at W ⊢
 rw[Bool.and_eq_true,List.all_eq_true] at W ⊢
 refine⟨?_,fun t ht=>?_⟩
 ·have k0:0∈zak m (zal L C):=af w0 h0 W0 0 (by unfold zbs at W0;exact(Bool.and_eq_true_iff.mp W0).1)
  have e0:mv (zak m (zal L C)) 0=0:=by
   rcases Nat.eq_zero_or_pos (mv (zak m (zal L C)) 0) with z|z
   ·exact z
   ·have il:0<(zak m (zal L C)).length:=Nat.lt_trans z (zd2 k0)
    obtain⟨i1,e1⟩:=List.getElem?_eq_some_iff.mp (zg6 k0)
    have:=List.pairwise_iff_getElem.mp pw 0 _ il i1 z
    omega
  have:=zbv (w:=w) k0
  rw[e0] at this
  rw[←this]
  exact W.1
 ·rcases List.mem_append.mp ht with z|z
  ·obtain⟨b,hb,rfl⟩:=List.mem_map.mp z
   cases e:mvB (zak m (zal L C)) b with
   |some b'=>
    rw[←zob ae (zeg ht) e]
    exact W.2 _ (List.mem_append.mpr (.inl (List.mem_map.mpr ⟨b',List.mem_filterMap.mpr ⟨b,hb,e⟩,rfl⟩)))
   |none=>
    have nk:b.ks.filter (fun k=>decide (k∈zak m (zal L C)))=[]:=by
     unfold mvB at e
     split at e
     ·assumption
     ·cases e
    rw[ztn,zor ae nk]
    by_cases u:w.testBit b.u=true
    ·rw[if_pos u]
     obtain⟨_,w1,ah,W1,ai⟩:=mem_keptL.mp (ae _ u)
     have:=ad w1 W1 _ ht
     rw[ztn,if_pos ai,zor (af w1 ah W1) nk] at this
     exact this
    ·rw[if_neg u]
     rfl
  ·cases e:mvT (zak m (zal L C)) t with
   |some t'=>
    rw[←zon ae (nb t z) e]
    exact W.2 _ (List.mem_append.mpr (.inr (List.mem_filterMap.mpr ⟨t,z,e⟩)))
   |none=>
    cases t with
    |bough u lo hi ks=>exact absurd rfl (nb _ z u lo hi ks)
    |needs a b=>
     simp only[mvT] at e
     split at e
     ·cases e
     ·rename_i ag
      show(!w.testBit a||w.testBit b)=true
      cases ha:w.testBit a
      ·rfl
      ·exfalso
       obtain⟨_,w1,ah,W1,aj⟩:=mem_keptL.mp (ae _ ha)
       have hk:(!w1.testBit a||w1.testBit b)=true:=ad w1 W1 _ ht
       rw[aj] at hk
       exact ag ⟨ae _ ha,af w1 ah W1 b (by simpa using hk)⟩
    |bans a b=>
     simp only[mvT] at e
     split at e
     ·cases e
     ·rename_i ag
      show(!w.testBit a||!w.testBit b)=true
      cases ha:w.testBit a
      ·rfl
      ·cases hb:w.testBit b
       ·rfl
       ·exact absurd ⟨ae _ ha,ae _ hb⟩ ag
    |most top ps=>
     simp only[mvT] at e
     split at e
     ·rename_i nk
      show decide (zee ps (fun p=>w.testBit p.1)≤top)=true
      have hk:decide (zee ps (fun p=>w0.testBit p.1)≤top)=true:=ad w0 W0 _ ht
      rw[znd (af w0 h0 W0) nk] at hk
      rw[znd ae nk]
      exact hk
     ·cases e
theorem zrn{m:Nat}{L:List Bg}{C:List Tie}(nb:∀t∈C,∀u lo hi ks,t≠.bough u lo hi ks)(ware:∃s,s<2^m∧zbs (zal L C) s=true):(zcs m L C).map (zjf (zak m (zal L C)))=za1 m (zal L C):=by
 obtain⟨w0,h0,W0⟩:=ware
 have pw:=zgo m (zal L C)
 refine zui ?_ (zib _ _) fun x=>?_
 ·rw[List.pairwise_map]
  exact(zib _ _).imp_of_mem fun ha hb ad=>zr0 pw ad (mem_wareL.mp hb).1
 ·rw[List.mem_map,mem_wareL]
  constructor
  ·rintro⟨s,hs,rfl⟩
   obtain⟨h1,h2⟩:=mem_wareL.mp hs
   exact⟨zu5 pw (fun k hk=>(mem_keptL.mp hk).1) s,zuf nb h0 W0 h1 h2⟩
  ·rintro⟨h1,h2⟩
   exact⟨zcw (zak m (zal L C)) x,mem_wareL.mpr ⟨zpr _ _,zkk nb h1 h2⟩,zvu pw fun k hk=>zdz h1 h2 hk⟩
end Wd
namespace L2
open PySem PySem.Spec PyProof.Rows
section
variable {X : Cx} {tg iter elt : Expr} {cs : List Expr} {sc sc0 : Scope} {pos : Pos} {wi : TI} {g : TG} {tc : TT} {te : TE} {XN N' : List Str} {n : Nat} {kp : List Nat}
theorem zlh{i:Nat}{y:Str}{py spos:Pos}(hNd:X.N.Nodup)(hiy:X.N[i]?=some y)(hy:X.env.scope.names.lookup y=some .local)(hsw:swapsWith (.ListComp elt [⟨tg,iter,cs,0⟩] sc pos) (some (.Name y py)) spos.line X.env=pure true)
  (hc:X.calm=true) (hi:PI X tg iter wi) (h0:X.env.scope=sc0) (hN:X.N=XN) (ok:zlp sc0 sc XN N' n kp=true)
  (hg:∀C fp pins s H,PG (ze3 X N' sc C fp pins s H) tg g) (ht:∀C fp pins s H,PTs (ze3 X N' sc C fp pins s H) cs tc) (he:∀C fp pins s H,PE (ze3 X N' sc C fp pins s H) elt te)
  (hs:∀x,foldedSetIterable iter X.env x=pure x:=by intro _;rfl):PS X (.Assign [.Name y py] (.ListComp elt [⟨tg,iter,cs,0⟩] sc pos) spos) (zvh (tLc n kp wi g tc te) (zkv i)):=by
 intro pins s σ H D I h
 rw[exec_Assign_Name_used _ _ _ _ hsw]
 refine wpAny_bind (wpAny_standAt (wpAny_bind ?_))
 have fin:wpAny (model X.prog X.w) X.A (comprehension (.ListComp elt [⟨tg,iter,cs,0⟩] sc pos) sc X.env (firstIterPos [⟨tg,iter,cs,0⟩] pos) (newList []) false (firstIter [⟨tg,iter,cs,0⟩] X.env) (some (assign (.Name y py) X.env)))
   (fun _ s'=>SP X pins D .next s') X.xe s:=by
  refine zqz (Q:=fun x H1=>zkv i x σ H1 D.nx) hc hi h0 hN ok hg ht he hs I h fun D' C ys H' s' I' ns fp q=>?_
  obtain⟨m,hm⟩:=ns
  obtain⟨f1,f2,f3,f4,f5,f6⟩:=fp
  obtain⟨o,es,ep,ho,rest⟩:=id hm
  have nc:∀v,o.data≠.cell v:=fun v z=>by
   rw[rest.1] at z
   cases z
  have ad:Inv X (pins++[(C,o)]) σ (upd H' D' (.lst ys)) s':=I'.pins_of fun p hp=>by
   rcases List.mem_append.mp hp with z|z
   ·exact I'.pin p (List.mem_append_right _ z)
   ·rw[List.mem_singleton.mp z]
    exact⟨ho,f1,f2,f3,nc⟩
  show wpAny (model X.prog X.w) X.A (assign (.Name y py) X.env (.ref D')) _ X.xe s'
  refine thn (zaw hNd hiy (.inl hy) (.inr hy) _ s' σ _ (.ref D') (.ref D') D.nx ad rfl q) fun _ s'' ⟨σ3,H3,I3,q3⟩=>?_
  obtain⟨p1,p2,_⟩:=I3.pin (C,o) (List.mem_append_right _ (List.mem_append_right _ (List.mem_singleton.mpr rfl)))
  refine⟨m,⟨o,es,ep,p1,rest⟩,fun h' sb=>⟨σ3,H3,?_,q3⟩⟩
  exact I3.unpinned.turned (t':=s''.toks) (it:=C) (fun b o hb e=>sb.extBut b o hb e) p2 f2 f4 f5 f6
 show wpAny (model X.prog X.w) X.A (comprehension _ _ _ _ _ _ _ _>>=_) _ _ s
 exact wpAny_bind (thn fin fun _ s' q=>wpAny_pure (wpAny_pure q))
end
theorem znp{K:PySem.W.Frag}{t:Value}:∀{Cs:List Addr} {us:List Value},Vals (Cs.map V.ref) us→(∀C∈Cs,PySem.W.kitOne K t (.ref C)=some false)→PySem.W.kitAny K t us=some false
 |[],us,r,_=>by cases r;rfl
 |C::Cs,us,r,h=>by
  cases r with
  |cons rx rt=>
   cases(show _=Value.ref C from rx)
   unfold PySem.W.kitAny
   rw[h C List.mem_cons_self]
   exact znp rt fun D hD=>h D (List.mem_cons_of_mem _ hD)
theorem zyr{X:Cx}{K:PySem.W.Frag}(hK:X.K=K:=by rfl):zcq X (.builtin "isinstance") (fun xs H Q=>∃(a D tp:Addr)(Cs:List Addr),xs=[.ref a,.ref tp]∧H a=some (.ext (zit a D))∧zhu K D∧H tp=some (.tup (Cs.map V.ref)) ∧
  (∀C∈Cs,PySem.W.kitOne K (.ref D) (.ref C)=some false)∧Q (.bl false) H):=by
 subst hK
 intro pins s σ H xs us Q I r h
 obtain⟨a,D,tp,Cs,rfl,ha,G,ht,hc,q⟩:=h
 obtain⟨u,w',rfl,rx,ry⟩:=zq3 r
 cases(show u=Value.ref a from rx)
 cases(show w'=Value.ref tp from ry)
 have p:zit a D s.heap:=(show ObjOk X.prog X.w H s.heap a (.ext (zit a D)) from I.hok a _ ha).1
 obtain⟨ad,rv,pl,hz⟩:=I.tuple (.inl (.inl ht))
 obtain⟨o,h1,h2,n,h3⟩:=pl
 obtain⟨cl,dd,dt,sl⟩:=o
 cases(show cl=_ from h2)
 cases(show dt=_ from h3)
 exact PySem.W.kia_tup (zkd G) I.kIn p h1 (znp rv hc) (fun z=>nomatch z) fun tk=>⟨.bl false,H,I.tok tk,rfl,q⟩
end L2
namespace Wd
open PySem L2 Ow
def zx1(t:Addr):Sp:=fun vs H Q _=>∃(wd tb tc:Addr)(m:Nat)(L:List Bg)(C:List Tie),vs=[.ref wd]∧zdt H t∧WoodP H wd tb tc m L C∧(∀s,s<2^m→zbs (zal L C) s=false)∧∀H',Same H H'→Q (.bl true) H'
def zov:Sp:=fun vs H Q _=>∃(wd tb tc lk ls:Addr)(m:Nat)(L:List Bg)(C:List Tie),vs=[.ref wd,.ref lk,.ref ls]∧WoodP H wd tb tc m L C∧H lk=some (.lst (zaj (zak m (zal L C))))∧H ls=some (.lst (zaj (za1 m (zal L C))))∧(∃s,s<2^m∧zbs (zal L C) s=true) ∧
 ∀(t:Addr)(DL:List Bg)(H':Hp),Same H H'→TightL (zcs m L C) (fL1 m L C) DL→TiesAt H' t (DL.map Bg.tie)→Q (.ref t) H'
def zrt:Sp:=fun vs H Q _=>∃(la lo:Addr)(m:Nat)(A B:List Tie)(xs ys:List V),vs=[.ref la,.ref lo]∧H la=some (.lst xs)∧H lo=some (.lst ys)∧DnL H (A.map Tie.toD) xs∧DnL H (B.map Tie.toD) ys∧A.Sublist B∧(∀t∈B,t.Ok m)∧m≤9∧Q (.bl true) H
theorem zql(m:Nat)(ts:List Tie):(zak m ts).Pairwise (·<·):=List.Pairwise.filter _ List.pairwise_lt_range
theorem zj9{m:Nat}{L:List Bg}{C:List Tie}(nb:∀t∈C,∀u lo hi ks,t≠.bough u lo hi ks){w:Nat}(hw:w∈za1 m (zal L C)):zcw (zak m (zal L C)) w∈zcs m L C:=by
 obtain⟨h1,h2⟩:=mem_wareL.mp hw
 exact mem_wareL.mpr ⟨zpr _ _,zkk nb h1 h2⟩
theorem zo6{m:Nat}{L:List Bg}{C:List Tie}(nb:∀t∈C,∀u lo hi ks,t≠.bough u lo hi ks)(ware:∃s,s<2^m∧zbs (zal L C) s=true){s:Nat}(h:s∈zcs m L C):∃w∈za1 m (zal L C),zcw (zak m (zal L C)) w=s:=by
 refine⟨zjf (zak m (zal L C)) s,?_,zqk (zql _ _) (mem_wareL.mp h).1⟩
 rw[←zrn nb ware]
 exact List.mem_map.mpr ⟨s,h,rfl⟩
theorem zh6{kept ks:List Nat}{w:Nat}(h:∀k∈ks,k∈kept):cnt (ks.map (mv kept)) (zcw kept w)=cnt ks w:=by
 unfold cnt
 rw[List.filter_map,List.length_map]
 congr 1
 exact List.filter_congr fun k hk=>zbv (h k hk)
def zbu(kept:List Nat)(b:Bg):List Nat:=b.ks.filter fun k=>decide (k∈kept)
theorem zs4{m:Nat}{L:List Bg}{C:List Tie}{b:Bg}{lo hi:Int}(nb:∀t∈C,∀u lo hi ks,t≠.bough u lo hi ks)(ware:∃s,s<2^m∧zbs (zal L C) s=true)(hu:b.u∈zak m (zal L C))
  (l1:∃w∈za1 m (zal L C),w.testBit b.u=true∧lo=(cnt (zbu (zak m (zal L C)) b) w:Int)) (l2:∀w∈za1 m (zal L C),w.testBit b.u=true→lo≤(cnt (zbu (zak m (zal L C)) b) w:Int))
  (h1:∃w∈za1 m (zal L C),w.testBit b.u=true∧hi=(cnt (zbu (zak m (zal L C)) b) w:Int)) (h2:∀w∈za1 m (zal L C),w.testBit b.u=true→(cnt (zbu (zak m (zal L C)) b) w:Int)≤hi):
  TightB (zcs m L C) ⟨mv (zak m (zal L C)) b.u,b.lo,b.hi,(zbu (zak m (zal L C)) b).map (mv (zak m (zal L C)))⟩ ⟨mv (zak m (zal L C)) b.u,lo,hi,(zbu (zak m (zal L C)) b).map (mv (zak m (zal L C)))⟩:=by
 have hk:∀k∈zbu (zak m (zal L C)) b,k∈zak m (zal L C):=fun k hk=>of_decide_eq_true (List.mem_filter.mp hk).2
 refine⟨rfl,rfl,?_,fun s hs hb=>?_,?_,fun s hs hb=>?_⟩
 ·obtain⟨w,hw,hb,e⟩:=l1
  exact⟨_,zj9 nb hw,by rw[zbv hu];exact hb,by rw[zh6 hk];exact e⟩
 ·obtain⟨w,hw,rfl⟩:=zo6 nb ware hs
  rw[zbv hu] at hb
  rw[zh6 hk]
  exact l2 w hw hb
 ·obtain⟨w,hw,hb,e⟩:=h1
  exact⟨_,zj9 nb hw,by rw[zbv hu];exact hb,by rw[zh6 hk];exact e⟩
 ·obtain⟨w,hw,rfl⟩:=zo6 nb ware hs
  rw[zbv hu] at hb
  rw[zh6 hk]
  exact h2 w hw hb
theorem zir{m:Int}:∀{ks:List Nat} {u:Int},ks.Pairwise (·<·)→(∀k∈ks,u<(k:Int)∧(k:Int)<m)→za2 m ((ks.map fun k:Nat=>(k:Int)).map PyData.int) u=true
 |[],_,_,_=>rfl
 |k::ks,u,pw,h=>by
  obtain⟨p1,p2⟩:=List.pairwise_cons.mp pw
  have hk:=h k List.mem_cons_self
  show(decide (u+1≤(k:Int))&&decide ((k:Int)≤m-1)&&za2 m _ (k:Int))=true
  rw[decide_eq_true (by omega),decide_eq_true (by omega),zir p2 fun x hx=>⟨by have:=p1 x hx;omega,(h x (List.mem_cons_of_mem _ hx)).2⟩]
  rfl
theorem zpp{m:Nat}{b:Bg}(ok:Tie.BoughOkW m b.u b.lo b.hi b.ks)(h1:1≤b.hi)(h2:b.hi≤b.ks.length):zcv m b.tie.toD=true:=by
 have:=zup (m:=m) (u:=b.u) (lo:=b.lo) (hi:=b.hi) (kids:=b.ks.map fun k:Nat=>(k:Int)) (by omega) (by
  intro z
  exact ok.ks0 (List.map_eq_nil_iff.mp z)) (zir ok.ris fun k hk=>by have:=ok.up k hk;omega) ok.lo0 ok.lohi h1 (by rw[List.length_map];exact h2)
 unfold zrs at this
 rw[List.map_map] at this
 exact this
theorem zso{m:Nat}{t:Tie}(ok:t.Ok m)(nb:∀u lo hi ks,t≠.bough u lo hi ks):zgp m t.toD=true:=by
 cases t with
 |bough u lo hi ks=>exact absurd rfl (nb u lo hi ks)
 |needs a b=>
  obtain⟨h1,h2,h3⟩:=ok
  show zi5 m ("needs" : Str) (.int (a:Int)) (.int (b:Int))=true
  unfold zi5
  rw[if_neg (by decide +kernel),if_pos (.inl rfl)]
  show((decide (0≤(a:Int))&&decide ((a:Int)≤(m:Int)-1))&&((decide (0≤(b:Int))&&decide ((b:Int)≤(m:Int)-1))&&!decide ((a:Int)=(b:Int))))=true
  rw[decide_eq_true (by omega),decide_eq_true (by omega),decide_eq_true (by omega),decide_eq_true (by omega),decide_eq_false (by omega)]
  rfl
 |bans a b=>
  obtain⟨h1,h2,h3⟩:=ok
  show zi5 m ("bans" : Str) (.int (a:Int)) (.int (b:Int))=true
  unfold zi5
  rw[if_neg (by decide +kernel),if_pos (.inr rfl)]
  show((decide (0≤(a:Int))&&decide ((a:Int)≤(m:Int)-1))&&((decide (0≤(b:Int))&&decide ((b:Int)≤(m:Int)-1))&&!decide ((a:Int)=(b:Int))))=true
  rw[decide_eq_true (by omega),decide_eq_true (by omega),decide_eq_true (by omega),decide_eq_true (by omega),decide_eq_false (by omega)]
  rfl
 |most top ps=>
  obtain⟨h1,h2,h3,h4⟩:=ok
  refine zox (m:=m) ?_ ?_ ?_
  ·rw[List.all_eq_true]
   intro d hd
   obtain⟨p,_,rfl⟩:=List.mem_map.mp hd
   rfl
  ·have e:(ps.map zfv).map zi7=((ps.map (·.1)).map fun k:Nat=>(k:Int)).map PyData.int:=by
    rw[List.map_map,List.map_map,List.map_map]
    rfl
   rw[e]
   refine zir h3 fun k hk=>?_
   obtain⟨p,hp,rfl⟩:=List.mem_map.mp hk
   have:=h2 p hp
   omega
  ·rw[List.length_map]
   exact List.length_pos_iff.mpr h1
theorem zua{m:Nat}{t:Tie}(ok:t.Ok m)(m9:m≤9)(nb:∀u lo hi ks,t≠.bough u lo hi ks):zms t.toD:=by
 cases t with
 |bough u lo hi ks=>exact absurd rfl (nb u lo hi ks)
 |needs a b=>exact trivial
 |bans a b=>exact trivial
 |most top ps=>
  show(ps.map zfv).length≤_
  rw[List.length_map]
  exact Nat.le_trans ok.2.2.2 (by omega)
theorem zs5(b:Bg):zcp b.tie.toD=b.ks.map fun k:Nat=>(k:Int):=by
 show(b.ks.map fun k:Nat=>PyData.int (k:Int)).map toI=_
 rw[List.map_map]
 rfl
theorem zpc(L:List Bg):((L.map Bg.tie).map Tie.toD).flatMap zcp=(L.flatMap Bg.ks).map fun k:Nat=>(k:Int):=by
 rw[List.map_map,List.flatMap_map,List.map_flatMap]
 have e:(fun b:Bg=>zcp ((Tie.toD∘Bg.tie) b))=fun b:Bg=>b.ks.map fun k:Nat=>(k:Int):=funext fun b=>zs5 b
 exact congrArg (fun f=>L.flatMap f) e
theorem TightL.kids{sold:List Nat}:∀{L L':List Bg},TightL sold L L'→L'.flatMap Bg.ks=L.flatMap Bg.ks
 |[],_,h=>by rw[show _=[] from h]
 |_::_,_,⟨b',r',e,t,h⟩=>by rw[e,List.flatMap_cons,List.flatMap_cons,t.ks,TightL.kids h]
theorem zo9(kept:List Nat):∀L:List Bg,(L.filterMap (mvB kept)).flatMap Bg.ks=((L.flatMap Bg.ks).filter fun k=>decide (k∈kept)).map (mv kept)
 |[]=>rfl
 |b::L=>by
  rw[List.flatMap_cons,List.filter_append,List.map_append,←zo9 kept L]
  cases e:mvB kept b with
  |none=>
   rw[List.filterMap_cons_none e]
   unfold mvB at e
   split at e
   ·rename_i z
    rw[z]
    rfl
   ·cases e
  |some b'=>
   rw[List.filterMap_cons_some e,List.flatMap_cons]
   unfold mvB at e
   split at e
   ·cases e
   ·cases e
    rfl
theorem zrp{m:Nat}{ts:List Tie}(m1:1≤m)(h0:0∈zak m ts):zak m ts=0::((List.range' 1 (m-1)).filter fun k=>decide (k∈zak m ts)):=by
 have e:zak m ts=(List.range m).filter fun k=>decide (k∈zak m ts):=by
  conv=>lhs;unfold zak
  refine List.filter_congr fun k hk=>?_
  rw[Bool.eq_iff_iff,decide_eq_true_iff]
  constructor
  ·intro z
   unfold zak
   exact List.mem_filter.mpr ⟨hk,z⟩
  ·intro z
   unfold zak at z
   exact(List.mem_filter.mp z).2
 conv=>lhs;rw[e]
 obtain⟨m',rfl⟩:∃m',m=m'+1:=⟨m-1,by omega⟩
 rw[List.range_eq_range',List.range'_succ,List.filter_cons_of_pos (p:=fun k=>decide (k∈zak (m'+1) ts)) (decide_eq_true h0)]
 rfl
theorem znj{m:Nat}{L L2:List Bg}{C:List Tie}(m1:1≤m)(ware:∃s,s<2^m∧zbs (zal L C) s=true)(kids:(L.flatMap Bg.ks).Perm (List.range' 1 (m-1)))(tl:TightL (zcs m L C) (fL1 m L C) L2):(L2.flatMap Bg.ks).Perm (List.range' 1 ((zak m (zal L C)).length-1)):=by
 have h0:0∈zak m (zal L C):=by
  obtain⟨s,hs,W⟩:=ware
  refine zdz hs W ?_
  unfold zbs at W
  exact(Bool.and_eq_true_iff.mp W).1
 have e:=zrp m1 h0
 have pw:=zql m (zal L C)
 rw[tl.kids]
 unfold fL1
 rw[zo9]
 generalize zak m (zal L C)=kept at e pw
 refine((kids.filter _).map _).trans ?_
 obtain⟨r,hr⟩:∃r,r=(List.range' 1 (m-1)).filter fun k=>decide (k∈kept):=⟨_,rfl⟩
 rw[←hr]
 rw[←hr] at e
 have e2:r.map (mv kept)=List.range' 1 (kept.length-1):=by
  apply List.ext_getElem
  ·rw[List.length_map,List.length_range',e]
   rfl
  ·intro i h1 h2
   rw[List.getElem_map,List.getElem_range']
   rw[List.length_map] at h1
   have hl:i+1<kept.length:=by rw[e];simpa using h1
   have:=zpf pw hl
   have g:kept.getD (i+1) 0=r[i]:=by
    rw[List.getD_eq_getElem?_getD,e,List.getElem?_cons_succ,List.getElem?_eq_getElem h1]
    rfl
   rw[g] at this
   omega
 rw[e2]
theorem zsv{m:Nat}{L L2:List Bg}{C:List Tie}(nb:∀t∈C,∀u lo hi ks,t≠.bough u lo hi ks)(tl:TightL (zcs m L C) (fL1 m L C) L2){b':Bg}(hb:b'∈L2):1≤b'.hi∧b'.hi≤b'.ks.length:=by
 obtain⟨b1,ai,t⟩:=tl.mem hb
 obtain⟨b,aj,e⟩:=List.mem_filterMap.mp ai
 have ag:b.tie∈zal L C:=List.mem_append.mpr (.inl (List.mem_map.mpr ⟨b,aj,rfl⟩))
 constructor
 ·unfold mvB at e
  split at e
  ·cases e
  ·rename_i ne
   cases e
   obtain⟨k,ah⟩:=List.exists_mem_of_ne_nil _ ne
   have ae:=List.mem_filter.mp ah
   have af:=of_decide_eq_true ae.2
   have hu:=zeg ag ⟨k,ae.1,af⟩
   obtain⟨_,w,hw,W,ad⟩:=mem_keptL.mp af
   have kp:b.tie.keep w=true:=by
    unfold zbs at W
    rw[Bool.and_eq_true,List.all_eq_true] at W
    exact W.2 _ ag
   have wu:w.testBit b.u=true:=by
    rw[ztn] at kp
    by_cases c:w.testBit b.u=true
    ·exact c
    ·rw[if_neg c,decide_eq_true_iff] at kp
     unfold cnt at kp
     have:=List.length_eq_zero_iff.mp kp
     have hm:k∈b.ks.filter fun k=>w.testBit k:=List.mem_filter.mpr ⟨ae.1,ad⟩
     rw[this] at hm
     cases hm
   have h2:=t.hi' _ (zj9 nb (mem_wareL.mpr ⟨hw,W⟩)) (by rw[zbv hu];exact wu)
   have ak:∀x∈b.ks.filter (fun k=>decide (k∈zak m (zal L C))),x∈zak m (zal L C):=fun x hx=>of_decide_eq_true (List.mem_filter.mp hx).2
   rw[zh6 ak] at h2
   have:1≤cnt (b.ks.filter fun k=>decide (k∈zak m (zal L C))) w:=by
    unfold cnt
    exact List.length_pos_of_mem (List.mem_filter.mpr ⟨ah,ad⟩)
   omega
 ·obtain⟨w,_,_,e2⟩:=t.hi
  rw[e2,t.ks]
  have:cnt b1.ks w≤b1.ks.length:=List.length_filter_le _ _
  omega
theorem zo2{m:Nat}{L L2:List Bg}{C:List Tie}(m1:1≤m)(nb:∀t∈C,∀u lo hi ks,t≠.bough u lo hi ks)(ware:∃s,s<2^m∧zbs (zal L C) s=true)(G:zh7 m ((L.map Bg.tie).map Tie.toD))(tl:TightL (zcs m L C) (fL1 m L C) L2)(ok:∀b∈L2,Tie.BoughOkW (zak m (zal L C)).length b.u b.lo b.hi b.ks):zh7 ((zak m (zal L C)).length:Nat) ((L2.map Bg.tie).map Tie.toD):=by
 have kl:=zj8 ware
 have ad:∀n:Nat,1≤n→((List.range' 0 ((n:Int)-1).toNat).map fun i:Nat=>(1:Int)+i)=(List.range' 1 (n-1)).map fun k:Nat=>(k:Int):=by
  intro n hn
  rw[show((n:Int)-1).toNat=n-1 by omega]
  apply List.ext_getElem
  ·simp
  ·intro i h1 h2
   simp only[List.getElem_map,List.getElem_range']
   omega
 refine⟨fun d hd=>?_,?_⟩
 ·obtain⟨t,ht,rfl⟩:=List.mem_map.mp hd
  obtain⟨b,hb,rfl⟩:=List.mem_map.mp ht
  have:=zsv nb tl hb
  exact zpp (ok b hb) this.1 this.2
 ·rw[zpc,ad _ kl]
  refine(znj m1 ware ?_ tl).map _
  have k:=G.kids
  rw[zpc,ad _ m1] at k
  have inj:∀{A B:List Nat},(A.map fun k:Nat=>(k:Int)).Perm (B.map fun k:Nat=>(k:Int))→A.Perm B:=fun {A B} h=>by
   have h2:=h.map Int.toNat
   rw[List.map_map,List.map_map] at h2
   have e:(Int.toNat∘fun k:Nat=>(k:Int))=id:=funext fun k=>Int.toNat_natCast k
   rwa [e,List.map_id,List.map_id] at h2
  exact inj k
def zuu(K:PySem.W.Frag):Sp:=fun vs H Q _=>∃(pen sp:Addr)(ns:List Int)(k:Int)(wd tb tc:Addr)(m:Nat)(L:List Bg)(C:List Tie),vs=[.ref pen,.ref wd]∧Pen K H pen sp ns k∧0≤k∧k≤700000∧WoodP H wd tb tc m L C ∧
 ∀(wd' tc':Addr)(C':List Tie)(k':Int)(H':Hp),SameX pen H H'→H' pen=some (.lst [.ref sp,.int k'])→k≤k'→k'≤k+60→(C'=C∨C'.length≤8)→WoodP H' wd' tb tc' m L C'→Q (.ref wd') H'
theorem zho{m:Nat}{t:Tie}(ok:t.Ok m)(m9:m≤900):SeqAt.shaped t.toD=true:=by
 obtain⟨a,b⟩:=zoa 3 _ (zkb ok m9)
 unfold SeqAt.shaped
 rw[Bool.and_eq_true]
 exact⟨a,decide_eq_true (by omega)⟩
end Wd
namespace Ow
open PySem L2 Wd
def top(i:Nat):Stmt:=PySem.Challenge.pw_optionwood_k70_folded_boughs.main.body.getD i (.Pass ⟨0,0,0,0⟩)
abbrev zt4:Stmt:=top 11
abbrev zex:Stmt:=top 12
abbrev zdb:Stmt:=top 13
abbrev zim:Stmt:=top 17
abbrev zgf:Stmt:=top 18
abbrev zkl:Stmt:=top 19
abbrev zea:Stmt:=top 20
abbrev zcx:Stmt:=top 21
abbrev zhj:Stmt:=top 22
abbrev zda:Stmt:=top 23
abbrev zf2:Stmt:=top 24
abbrev zce:Stmt:=top 25
abbrev zc7:Stmt:=top 26
abbrev zch:Stmt:=top 27
abbrev zhq:Stmt:=top 28
abbrev zd7:Stmt:=top 29
abbrev zem:Stmt:=top 30
abbrev zjk:Stmt:=top 32
abbrev ze2:Stmt:=top 33
abbrev zfj:Stmt:=top 34
abbrev zgk:Stmt:=top 35
abbrev zez:Stmt:=top 36
abbrev zef:Stmt:=top 37
abbrev za3:Stmt:=top 38
abbrev zcm:Stmt:=top 39
abbrev zm0:Stmt:=top 41
abbrev zcf:Stmt:=top 42
abbrev zf5:Stmt:=top 43
abbrev zdq:Stmt:=top 44
abbrev zhf:Stmt:=top 45
abbrev zmw:Stmt:=top 47
abbrev zb4:Stmt:=top 49
abbrev zdk:Stmt:=top 50
abbrev zdy:Stmt:=top 51
abbrev zet:Stmt:=top 52
abbrev zdu:Stmt:=top 53
abbrev zcy:Stmt:=top 54
abbrev zdg:Stmt:=top 55
abbrev zds:Stmt:=top 56
abbrev zeb:Stmt:=top 58
abbrev zgi:Stmt:=top 59
abbrev zc3:Stmt:=top 60
abbrev zd5:Stmt:=top 61
abbrev zgq:Stmt:=top 62
abbrev zcg:Stmt:=top 63
abbrev zih:Stmt:=top 64
abbrev zfi:Stmt:=top 65
abbrev ze4:Stmt:=top 66
abbrev zbi:Stmt:=top 67
abbrev zej:Stmt:=top 68
abbrev zed:Stmt:=top 69
abbrev zhy:Stmt:=top 70
set_option genInjectivity false
set_option genSizeOfSpec false
set_option genSizeOf false
structure Adr where
 (f_has f_with_option f_open_options f_wood_of f_many_ties f_tie_at f_check_boughs f_check_cross_ties f_is_whole f_is_whole_within f_is_option f_is_tuple_of_length f_is_filled_tuple f_are_rising_options f_is_bough f_is_cross_tie f_are_pairs f_keeps f_keeps_bough f_count_in f_every_tie f_sure_broken f_least_sum f_sure_broken_bough f_first_sure_broken f_cases f_cases_of f_ware_leaf f_told_tree f_wares_in f_wares f_folded f_boughs_left f_cross_left f_tightened f_first_with f_without_needless f_first_breaking f_without_place f_law_take f_law_bough f_law_boughs f_law_most f_law_cross f_law_wood f_law_has f_law_barred f_law_refused f_law_boughs_due f_law_moved f_law_in_order f_law:Addr)
 (c_cases_of t_cases_of x_WoodError x_NoWood x_NoCount x_NoWares x_NoOffer x_Unlike x_NoText x_NoRow x_NoName:Addr)
structure Fds where
 (f_has f_with_option f_open_options f_wood_of f_many_ties f_tie_at f_check_boughs f_check_cross_ties f_is_whole f_is_whole_within f_is_option f_is_tuple_of_length f_is_filled_tuple f_are_rising_options f_is_bough f_is_cross_tie f_are_pairs f_keeps f_keeps_bough f_count_in f_every_tie f_sure_broken f_least_sum f_sure_broken_bough f_first_sure_broken f_cases f_cases_of f_ware_leaf f_told_tree f_wares_in f_wares f_folded f_boughs_left f_cross_left f_tightened f_first_with f_without_needless f_first_breaking f_without_place f_law_take f_law_bough f_law_boughs f_law_most f_law_cross f_law_wood f_law_has f_law_barred f_law_refused f_law_boughs_due f_law_moved f_law_in_order f_law:FuncData)
structure Txt(K:PySem.W.Frag)(mg:Str→Option Value)(a:Adr)(d:Fds):Prop where
 m_ValueError:mg "ValueError" = none
 m_range:mg "range" = none
 m_len:mg "len" = none
 m_isinstance:mg "isinstance" = none
 m_min:mg "min" = none
 m_max:mg "max" = none
 m_int:mg "int" = none
 m_bool:mg "bool" = none
 m_list:mg "list" = none
 m_tuple:mg "tuple" = none
 m_str:mg "str" = none
 m_sorted:mg "sorted" = none
 m_enumerate:mg "enumerate" = none
 m_sum:mg "sum" = none
 m_any:mg "any" = none
 c_MOST_OPTIONS:∃t,mg "MOST_OPTIONS" = some (Value.int 9 t)
 c_MOST_CROSS_TIES:∃t,mg "MOST_CROSS_TIES" = some (Value.int 8 t)
 K_has:Df K mg "has" zt4 a.f_has d.f_has ["some", "k"]
 K_with_option:Df K mg "with_option" zex a.f_with_option d.f_with_option ["some", "k"]
 K_open_options:Df K mg "open_options" zdb a.f_open_options d.f_open_options ["many", "yes", "no"]
 K_wood_of:Df K mg "wood_of" zim a.f_wood_of d.f_wood_of ["many", "boughs", "cross"]
 K_many_ties:Df K mg "many_ties" zgf a.f_many_ties d.f_many_ties ["wood"]
 K_tie_at:Df K mg "tie_at" zkl a.f_tie_at d.f_tie_at ["wood", "t"]
 K_check_boughs:Df K mg "check_boughs" zea a.f_check_boughs d.f_check_boughs ["many", "boughs"]
 K_check_cross_ties:Df K mg "check_cross_ties" zcx a.f_check_cross_ties d.f_check_cross_ties ["many", "cross"]
 K_is_whole:Df K mg "is_whole" zhj a.f_is_whole d.f_is_whole ["thing"]
 K_is_whole_within:Df K mg "is_whole_within" zda a.f_is_whole_within d.f_is_whole_within ["thing", "least", "greatest"]
 K_is_option:Df K mg "is_option" zf2 a.f_is_option d.f_is_option ["many", "thing"]
 K_is_tuple_of_length:Df K mg "is_tuple_of_length" zce a.f_is_tuple_of_length d.f_is_tuple_of_length ["thing", "length"]
 K_is_filled_tuple:Df K mg "is_filled_tuple" zc7 a.f_is_filled_tuple d.f_is_filled_tuple ["thing"]
 K_are_rising_options:Df K mg "are_rising_options" zch a.f_are_rising_options d.f_are_rising_options ["many", "things", "floor"]
 K_is_bough:Df K mg "is_bough" zhq a.f_is_bough d.f_is_bough ["many", "bough"]
 K_is_cross_tie:Df K mg "is_cross_tie" zd7 a.f_is_cross_tie d.f_is_cross_tie ["many", "tie"]
 K_are_pairs:Df K mg "are_pairs" zem a.f_are_pairs d.f_are_pairs ["many", "pairs"]
 K_keeps:Df K mg "keeps" zjk a.f_keeps d.f_keeps ["tie", "some"]
 K_keeps_bough:Df K mg "keeps_bough" ze2 a.f_keeps_bough d.f_keeps_bough ["bough", "some"]
 K_count_in:Df K mg "count_in" zfj a.f_count_in d.f_count_in ["kids", "some"]
 K_every_tie:Df K mg "every_tie" zgk a.f_every_tie d.f_every_tie ["wood"]
 K_sure_broken:Df K mg "sure_broken" zez a.f_sure_broken d.f_sure_broken ["tie", "yes", "no"]
 K_least_sum:Df K mg "least_sum" zef a.f_least_sum d.f_least_sum ["pairs", "yes", "no"]
 K_sure_broken_bough:Df K mg "sure_broken_bough" za3 a.f_sure_broken_bough d.f_sure_broken_bough ["bough", "yes", "no"]
 K_first_sure_broken:Df K mg "first_sure_broken" zcm a.f_first_sure_broken d.f_first_sure_broken ["wood", "ties", "yes", "no"]
 K_cases:Df K mg "cases" zm0 a.f_cases d.f_cases ["wood", "yes", "no"]
 K_cases_of:Df K mg "cases_of" zcf a.f_cases_of d.f_cases_of ["wood", "ties", "yes", "no"]
 K_ware_leaf:Df K mg "ware_leaf" zf5 a.f_ware_leaf d.f_ware_leaf ["wood", "yes", "no"]
 K_told_tree:Df K mg "told_tree" zdq a.f_told_tree d.f_told_tree ["wood", "ties", "yes", "no", "leaf_at"]
 K_wares_in:Df K mg "wares_in" zhf a.f_wares_in d.f_wares_in ["yes", "tree"]
 K_wares:Df K mg "wares" zmw a.f_wares d.f_wares ["wood"]
 K_folded:Df K mg "folded" zb4 a.f_folded d.f_folded ["wood"]
 K_boughs_left:Df K mg "boughs_left" zdk a.f_boughs_left d.f_boughs_left ["boughs", "kept"]
 K_cross_left:Df K mg "cross_left" zdy a.f_cross_left d.f_cross_left ["cross", "kept"]
 K_tightened:Df K mg "tightened" zet a.f_tightened d.f_tightened ["bough", "sold"]
 K_first_with:Df K mg "first_with" zdu a.f_first_with d.f_first_with ["sold", "bough", "count"]
 K_without_needless:Df K mg "without_needless" zcy a.f_without_needless d.f_without_needless ["many", "boughs", "cross"]
 K_first_breaking:Df K mg "first_breaking" zdg a.f_first_breaking d.f_first_breaking ["many", "boughs", "cross", "place"]
 K_without_place:Df K mg "without_place" zds a.f_without_place d.f_without_place ["cross", "place"]
 K_law_take:Df K mg "_law_take" zeb a.f_law_take d.f_law_take ["_law_state", "_law_most_here"]
 K_law_bough:Df K mg "_law_bough" zgi a.f_law_bough d.f_law_bough ["_law_state", "_law_up", "_law_kids"]
 K_law_boughs:Df K mg "_law_boughs" zc3 a.f_law_boughs d.f_law_boughs ["_law_state", "_law_many"]
 K_law_most:Df K mg "_law_most" zd5 a.f_law_most d.f_law_most ["_law_state", "_law_many"]
 K_law_cross:Df K mg "_law_cross" zgq a.f_law_cross d.f_law_cross ["_law_state", "_law_many"]
 K_law_wood:Df K mg "_law_wood" zcg a.f_law_wood d.f_law_wood ["_law_state"]
 K_law_has:Df K mg "_law_has" zih a.f_law_has d.f_law_has ["_law_some", "_law_k"]
 K_law_barred:Df K mg "_law_barred" zfi a.f_law_barred d.f_law_barred ["_law_state", "_law_wood_here"]
 K_law_refused:Df K mg "_law_refused" ze4 a.f_law_refused d.f_law_refused ["_law_wood_here"]
 K_law_boughs_due:Df K mg "_law_boughs_due" zbi a.f_law_boughs_due d.f_law_boughs_due ["_law_wood_here", "_law_kept", "_law_some"]
 K_law_moved:Df K mg "_law_moved" zej a.f_law_moved d.f_law_moved ["_law_tie", "_law_kept"]
 K_law_in_order:Df K mg "_law_in_order" zed a.f_law_in_order d.f_law_in_order ["_law_some", "_law_others"]
 K_law:Df K mg "law" zhy a.f_law d.f_law ["_law_script"]
 code_cases_of:d.f_cases_of.code=.ref a.c_cases_of
 g_WoodError:mg "WoodError" = some (.ref a.x_WoodError)
 g_NoWood:mg "NoWood" = some (.ref a.x_NoWood)
 g_NoCount:mg "NoCount" = some (.ref a.x_NoCount)
 g_NoWares:mg "NoWares" = some (.ref a.x_NoWares)
 g_NoOffer:mg "NoOffer" = some (.ref a.x_NoOffer)
 g_Unlike:mg "Unlike" = some (.ref a.x_Unlike)
 g_NoText:mg "NoText" = some (.ref a.x_NoText)
 g_NoRow:mg "NoRow" = some (.ref a.x_NoRow)
 g_NoName:mg "NoName" = some (.ref a.x_NoName)
 x_WoodError:zhu K a.x_WoodError
 x_NoWood:zhu K a.x_NoWood
 x_NoCount:zhu K a.x_NoCount
 x_NoWares:zhu K a.x_NoWares
 x_NoOffer:zhu K a.x_NoOffer
 x_Unlike:zhu K a.x_Unlike
 x_NoText:zhu K a.x_NoText
 x_NoRow:zhu K a.x_NoRow
 x_NoName:zhu K a.x_NoName
 k_NoWood_WoodError:PySem.W.kitOne K (.ref a.x_NoWood) (.ref a.x_WoodError)=some true
 k_NoWood_NoWood:PySem.W.kitOne K (.ref a.x_NoWood) (.ref a.x_NoWood)=some true
 k_NoWood_NoCount:PySem.W.kitOne K (.ref a.x_NoWood) (.ref a.x_NoCount)=some false
 k_NoWood_NoWares:PySem.W.kitOne K (.ref a.x_NoWood) (.ref a.x_NoWares)=some false
 k_NoWood_NoOffer:PySem.W.kitOne K (.ref a.x_NoWood) (.ref a.x_NoOffer)=some false
 k_NoWood_Unlike:PySem.W.kitOne K (.ref a.x_NoWood) (.ref a.x_Unlike)=some false
 k_NoWood_NoText:PySem.W.kitOne K (.ref a.x_NoWood) (.ref a.x_NoText)=some false
 k_NoWood_NoRow:PySem.W.kitOne K (.ref a.x_NoWood) (.ref a.x_NoRow)=some false
 k_NoWood_NoName:PySem.W.kitOne K (.ref a.x_NoWood) (.ref a.x_NoName)=some false
 v_NoWood:PySem.W.kitOne K (.ref a.x_NoWood) (.type "ValueError")=some true
 s_NoWood_WoodError:zqb K a.x_NoWood a.x_WoodError=true
 k_NoWares_WoodError:PySem.W.kitOne K (.ref a.x_NoWares) (.ref a.x_WoodError)=some true
 k_NoWares_NoWood:PySem.W.kitOne K (.ref a.x_NoWares) (.ref a.x_NoWood)=some false
 k_NoWares_NoCount:PySem.W.kitOne K (.ref a.x_NoWares) (.ref a.x_NoCount)=some false
 k_NoWares_NoWares:PySem.W.kitOne K (.ref a.x_NoWares) (.ref a.x_NoWares)=some true
 k_NoWares_NoOffer:PySem.W.kitOne K (.ref a.x_NoWares) (.ref a.x_NoOffer)=some false
 k_NoWares_Unlike:PySem.W.kitOne K (.ref a.x_NoWares) (.ref a.x_Unlike)=some false
 k_NoWares_NoText:PySem.W.kitOne K (.ref a.x_NoWares) (.ref a.x_NoText)=some false
 k_NoWares_NoRow:PySem.W.kitOne K (.ref a.x_NoWares) (.ref a.x_NoRow)=some false
 k_NoWares_NoName:PySem.W.kitOne K (.ref a.x_NoWares) (.ref a.x_NoName)=some false
 v_NoWares:PySem.W.kitOne K (.ref a.x_NoWares) (.type "ValueError")=some true
 s_NoWares_WoodError:zqb K a.x_NoWares a.x_WoodError=true
theorem zxj:zau ["some", "k"] ["some", "k"] (zai zt4):=scm rfl rfl rfl rfl rfl
theorem zjz:zau ["some", "k"] ["some", "k"] (zai zex):=scm rfl rfl rfl rfl rfl
theorem zje:zau ["many", "yes", "no"] ["many", "yes", "no"] (zai zdb):=scm rfl rfl rfl rfl rfl
theorem sc_wood_of:zau ["many", "boughs", "cross", "wood"] ["many", "boughs", "cross"] (zai zim):=scm rfl rfl rfl rfl rfl
theorem zm5:zau ["wood"] ["wood"] (zai zgf):=scm rfl rfl rfl rfl rfl
theorem sc_tie_at:zau ["wood", "t", "boughs"] ["wood", "t"] (zai zkl):=scm rfl rfl rfl rfl rfl
theorem sc_check_boughs:zau ["many", "boughs", "kids", "place", "bough"] ["many", "boughs"] (zai zea):=scm rfl rfl rfl rfl rfl
theorem sc_check_cross_ties:zau ["many", "cross", "place", "tie"] ["many", "cross"] (zai zcx):=scm rfl rfl rfl rfl rfl
theorem zn1:zau ["thing"] ["thing"] (zai zhj):=scm rfl rfl rfl rfl rfl
theorem zhm:zau ["thing", "least", "greatest"] ["thing", "least", "greatest"] (zai zda):=scm rfl rfl rfl rfl rfl
theorem znc:zau ["many", "thing"] ["many", "thing"] (zai zf2):=scm rfl rfl rfl rfl rfl
theorem zf1:zau ["thing", "length"] ["thing", "length"] (zai zce):=scm rfl rfl rfl rfl rfl
theorem zht:zau ["thing"] ["thing"] (zai zc7):=scm rfl rfl rfl rfl rfl
theorem sc_are_rising_options:zau ["many", "things", "floor", "last", "thing"] ["many", "things", "floor"] (zai zch):=scm rfl rfl rfl rfl rfl
theorem sc_is_bough:zau ["many", "bough", "up", "high", "kids"] ["many", "bough"] (zai zhq):=scm rfl rfl rfl rfl rfl
theorem zja:zau ["many", "tie"] ["many", "tie"] (zai zd7):=scm rfl rfl rfl rfl rfl
theorem sc_are_pairs:zau ["many", "pairs", "pair"] ["many", "pairs"] (zai zem):=scm rfl rfl rfl rfl rfl
theorem zsp:zau ["tie", "some"] ["tie", "some"] (zai zjk):=scm rfl rfl rfl rfl rfl
theorem sc_keeps_bough:zau ["bough", "some", "count"] ["bough", "some"] (zai ze2):=scm rfl rfl rfl rfl rfl
theorem zom:zau ["kids", "some"] ["kids", "some"] (zai zfj):=scm rfl rfl rfl rfl rfl
theorem zmj:zau ["wood"] ["wood"] (zai zgk):=scm rfl rfl rfl rfl rfl
theorem zj3:zau ["tie", "yes", "no"] ["tie", "yes", "no"] (zai zez):=scm rfl rfl rfl rfl rfl
theorem zl4:zau ["pairs", "yes", "no"] ["pairs", "yes", "no"] (zai zef):=scm rfl rfl rfl rfl rfl
theorem sc_sure_broken_bough:zau ["bough", "yes", "no", "least", "greatest", "some_with_up", "some_without_up"] ["bough", "yes", "no"] (zai za3):=scm rfl rfl rfl rfl rfl
theorem sc_first_sure_broken:zau ["wood", "ties", "yes", "no", "t"] ["wood", "ties", "yes", "no"] (zai zcm):=scm rfl rfl rfl rfl rfl
theorem zum:zau ["wood", "yes", "no"] ["wood", "yes", "no"] (zai zm0):=scm rfl rfl rfl rfl rfl
theorem zn2:zau ["wood", "ties", "yes", "no"] ["wood", "ties", "yes", "no"] (zai zcf):=scm rfl rfl rfl rfl rfl
theorem zmr:zau ["wood", "yes", "no"] ["wood", "yes", "no"] (zai zf5):=scm rfl rfl rfl rfl rfl
theorem sc_told_tree:zau ["wood", "ties", "yes", "no", "leaf_at", "broken", "leaf", "k", "one", "other"] ["wood", "ties", "yes", "no", "leaf_at"] (zai zdq):=scm rfl rfl rfl rfl rfl
theorem zn4:zau ["yes", "tree"] ["yes", "tree"] (zai zhf):=scm rfl rfl rfl rfl rfl
theorem sc_wares:zau ["wood", "root"] ["wood"] (zai zmw):=scm rfl rfl rfl rfl rfl
theorem sc_folded:zau ["wood", "sold", "kept", "boughs", "cross", "tight", "needed"] ["wood"] (zai zb4):=scm rfl rfl rfl rfl rfl
theorem sc_boughs_left:zau ["boughs", "kept", "left", "up", "low", "high", "kids", "fewer"] ["boughs", "kept"] (zai zdk):=scm rfl rfl rfl rfl rfl
theorem sc_cross_left:zau ["cross", "kept", "left", "tie", "pairs"] ["cross", "kept"] (zai zdy):=scm rfl rfl rfl rfl rfl
theorem sc_tightened:zau ["bough", "sold", "counts"] ["bough", "sold"] (zai zet):=scm rfl rfl rfl rfl rfl
theorem zk8:zau ["sold", "bough", "count"] ["sold", "bough", "count"] (zai zdu):=scm rfl rfl rfl rfl rfl
theorem sc_without_needless:zau ["many", "boughs", "cross", "left", "place"] ["many", "boughs", "cross"] (zai zcy):=scm rfl rfl rfl rfl rfl
theorem sc_first_breaking:zau ["many", "boughs", "cross", "place", "some"] ["many", "boughs", "cross", "place"] (zai zdg):=scm rfl rfl rfl rfl rfl
theorem ziq:zau ["cross", "place"] ["cross", "place"] (zai zds):=scm rfl rfl rfl rfl rfl
theorem sc_law_take:zau ["_law_state", "_law_most_here", "_law_at", "_law_script", "_law_mingled"] ["_law_state", "_law_most_here"] (zai zeb):=scm rfl rfl rfl rfl rfl
theorem sc_law_bough:zau ["_law_state", "_law_up", "_law_kids", "_law_size", "_law_way", "_law_high"] ["_law_state", "_law_up", "_law_kids"] (zai zgi):=scm rfl rfl rfl rfl rfl
theorem sc_law_boughs:zau ["_law_state", "_law_many", "_law_groups", "_law_k", "_law_up", "_law_mates"] ["_law_state", "_law_many"] (zai zc3):=scm rfl rfl rfl rfl rfl
theorem sc_law_most:zau ["_law_state", "_law_many", "_law_far", "_law_pairs", "_law_k"] ["_law_state", "_law_many"] (zai zd5):=scm rfl rfl rfl rfl rfl
theorem sc_law_cross:zau ["_law_state", "_law_many", "_law_one", "_law_other"] ["_law_state", "_law_many"] (zai zgq):=scm rfl rfl rfl rfl rfl
theorem sc_law_wood:zau ["_law_state", "_law_many", "_law_boughs_here", "_law_count"] ["_law_state"] (zai zcg):=scm rfl rfl rfl rfl rfl
theorem zpm:zau ["_law_some", "_law_k"] ["_law_some", "_law_k"] (zai zih):=scm rfl rfl rfl rfl rfl
theorem sc_law_barred:zau ["_law_state", "_law_wood_here", "_law_tie"] ["_law_state", "_law_wood_here"] (zai zfi):=scm rfl rfl rfl rfl rfl
theorem sc_law_refused:zau ["_law_wood_here", "_law_caught", "error"] ["_law_wood_here"] (zai ze4):=scm rfl rfl rfl rfl rfl
theorem sc_law_boughs_due:zau ["_law_wood_here", "_law_kept", "_law_some", "_law_due", "_law_up", "_law_low", "_law_high", "_law_kids", "_law_stay", "_law_counts"] ["_law_wood_here", "_law_kept", "_law_some"] (zai zbi):=scm rfl rfl rfl rfl rfl
theorem sc_law_moved:zau ["_law_tie", "_law_kept", "_law_pairs"] ["_law_tie", "_law_kept"] (zai zej):=scm rfl rfl rfl rfl rfl
theorem sc_law_in_order:zau ["_law_some", "_law_others", "_law_at", "_law_tie"] ["_law_some", "_law_others"] (zai zed):=scm rfl rfl rfl rfl rfl
theorem sc_law:zau ["_law_script", "_law_state", "_law_wood_here", "_law_some", "_law_found", "_law_kept", "_law_many", "_law_boughs_here", "_law_cross_here", "_law_others", "_law_tie"] ["_law_script"] (zai zhy):=scm rfl rfl rfl rfl rfl
section
variable {P : Program} {w : World} {K : PySem.W.Frag} {mg : Str → Option Value} {base : Heap} {a : Adr} {d : Fds}
def zyz:Sp:=fun vs H Q _=>∃n k:Int,vs=[.int n,.int k]∧Q (.bl (zp6 n k)) H
theorem zew(T:Txt K mg a d):FnOk P w K mg base CX0 1 a.f_has d.f_has ["some", "k"] zyz:=by
 refine T.K_has.ok zxj (fun vs H Q E h=>?_) (fun cdv A outer s H vs Q E hr h=>?_)
 ·obtain⟨n,k,rfl,_⟩:=h
  rfl
 obtain⟨n,k,rfl,q⟩:=h
 refine⟨_,(zah (zao (zco (zb2 zyx (pv 1) zad (zav _)) (zcn (zb2 zbp (za6 zwn (za6 zxh (pv 0) (pv 1)) zad) zad (zav _)))))),?_⟩
 refine⟨_,rfl,_,_,rfl,rfl,_,rfl,?_⟩
 refine zbn (fun c=>?_) (fun c=>?_)
 ·have hk:(0:Int)≤k:=of_decide_eq_true c
  refine⟨_,rfl,_,rfl,_,_,rfl,rfl,hk,_,_,rfl,rfl,rfl,?_⟩
  have e:decide (V.int (Builtin.bitAnd (n/2^k.toNat) 1)=V.int 1)=zp6 n k:=by
   unfold zp6
   rw[decide_eq_true hk,Bool.true_and,zfq,zzc]
   by_cases z:n/2^k.toNat%2=1
   ·rw[decide_eq_true z]
    simpa using z
   ·rw[decide_eq_false z]
    simpa using z
  show Q (.bl (decide (V.int (Builtin.bitAnd (n/2^k.toNat) 1)=V.int 1))) H
  rw[e]
  exact q
 ·have hk:¬(0:Int)≤k:=of_decide_eq_false (Bool.eq_false_iff.mpr c)
  have e:zp6 n k=false:=by
   unfold zp6
   rw[decide_eq_false hk,Bool.false_and]
  rw[e] at q
  exact q
theorem zec(T:Txt K mg a d):FnOk P w K mg base CX0 1 a.f_with_option d.f_with_option ["some", "k"] zv4:=by
 refine T.K_with_option.ok zjz (fun vs H Q E h=>?_) (fun cdv A outer s H vs Q E hr h=>?_)
 ·obtain⟨n,k,rfl,_⟩:=h
  rfl
 obtain⟨n,k,rfl,hk,q⟩:=h
 refine⟨_,(zah (zao (za6 zwc (pv 0) (za6 ztd zad (pv 1))))),?_⟩
 refine⟨_,rfl,_,rfl,_,_,rfl,rfl,⟨by omega,by omega,by decide⟩,_,_,rfl,rfl,?_⟩
 have e:Builtin.bitOr (n:Int) (1*2^((k:Nat):Int).toNat)=((n|||2^k:Nat):Int):=by rw[zx5,zqu]
 show Q (.int (Builtin.bitOr (n:Int) (1*2^((k:Nat):Int).toNat))) H
 rw[e]
 exact q
theorem zfx(T:Txt K mg a d):FnOk P w K mg base CX0 2 a.f_open_options d.f_open_options ["many", "yes", "no"] zxm:=by
 have ad:=zew (P:=P) (w:=w) (base:=base) T
 refine T.K_open_options.ok zje (fun vs H Q E h=>?_) (fun cdv A outer s H vs Q E hr h=>?_)
 ·obtain⟨m,y,n,rfl,_⟩:=h
  rfl
 obtain⟨m,y,n,rfl,m9,q⟩:=h
 have af:(2:Int)^62=4611686018427387904:=by decide
 refine⟨_,(zah (zao (zdo (N':=["k", "yes", "no"]) (n:=1) (kp:=[1,2]) rfl (zd0 rfl T.m_range (zaa (pv 0) zab)) rfl rfl rfl (fun _ _ _ _ _=>(zaw (i:=0) (of_decide_eq_true rfl) rfl (Or.inl rfl))) (fun _ _ _ _ _=>(zbz (zbt (za9 (zaf ad hr.lv rfl T.K_has (zaa (za6 zwc (pv 1) (pv 2)) (zaa (pv 0) zab))))))) (fun _ _ _ _ _=>(pv 0))))),?_⟩
 refine⟨_,rfl,_,rfl,by rw[af];omega,by rw[af];omega,?_⟩
 rw[Int.toNat_natCast]
 refine zfa (k:=m) (fun i ys σ H2=>(∃v,σ=[v,some (.int y),some (.int n)])∧H2=H∧i≤m∧ys=zaj ((List.range i).filter fun k=>!(y|||n).testBit k)) ⟨⟨none,rfl⟩,rfl,Nat.zero_le _,rfl⟩ (fun i ys σ H2 hi pv=>?_) (fun i ys σ H2 hi pv=>?_) (fun ys σ H2 pv fl ae=>?_)
 ·obtain⟨_,_,h1,rfl⟩:=pv
  rw[List.length_map]
  refine small (Nat.le_trans (List.length_filter_le _ _) ?_)
  rw[List.length_range]
  omega
 ·obtain⟨⟨v0,rfl⟩,rfl,h1,rfl⟩:=pv
  refine⟨_,rfl,_,rfl,_,_,rfl,rfl,_,rfl,_,_,rfl,_,rfl,?_⟩
  have ee:=zhx (fun k=>!(y|||n).testBit k) i
  rw[zqu,zbl]
  refine zbn (fun c2=>?_) (fun c2=>?_)
  ·refine⟨_,rfl,⟨_,rfl⟩,rfl,hi,?_⟩
   rw[ee,if_pos c2]
   show _=List.map _ (_++[i])
   rw[List.map_append]
   rfl
  ·refine⟨⟨_,rfl⟩,rfl,hi,?_⟩
   rw[ee,if_neg c2,List.append_nil]
 obtain⟨_,rfl,_,rfl⟩:=pv
 exact q fl _ (zag ae _) ae zac
theorem zcb(T:Txt K mg a d):FnOk P w K mg base CX0 1 a.f_is_tuple_of_length d.f_is_tuple_of_length ["thing", "length"] ztb:=by
 refine T.K_is_tuple_of_length.ok zf1 (fun vs H Q E h=>?_) (fun cdv A outer s H vs Q E hr h=>?_)
 ·obtain⟨d,v,n,rfl,_⟩:=h
  rfl
 obtain⟨d,v,n,rfl,hd,q⟩:=h
 refine⟨_,(zah (zao (zco (zan (zii (K:=K)) rfl T.m_isinstance PyProof.Rows.boot_isinstance (zaa (pv 0) (zaa (zcd (v:=.ty "tuple") rfl T.m_tuple PyProof.Rows.boot_tuple rfl) zab))) (zcn (zb2 zbp (zan (zb9 (K:=K)) rfl T.m_len PySem.boot_len (zaa (pv 0) zab)) (pv 1) (zav _)))))),?_⟩
 refine⟨_,rfl,_,_,_,_,rfl,zny hd,zsi d,_,rfl,?_⟩
 refine zbn (fun c=>?_) (fun c=>?_)
 ·obtain⟨ds,rfl⟩:=zlx c
  obtain⟨p,xs,rfl,hp,hl⟩:=zbw hd
  refine⟨_,rfl,p,_,rfl,.inr (sqT hp),_,rfl,rfl,?_⟩
  have e:decide (V.int (xs.length:Nat)=V.int n)=zdi (.tuple ds) n:=by
   rw[zfq,←hl.length]
   show _=decide ((ds.length:Int)=n)
   by_cases z:(ds.length:Int)=n
   ·rw[decide_eq_true z]
    simpa using z
   ·rw[decide_eq_false z]
    simpa using z
  show Q (.bl (decide (V.int (xs.length:Nat)=V.int n))) H
  rw[e]
  exact q
 ·have e:zdi d n=false:=by
   cases d<;>first|rfl|exact absurd rfl c
  rw[e] at q
  exact q
theorem zf6(T:Txt K mg a d):FnOk P w K mg base CX0 1 a.f_is_whole d.f_is_whole ["thing"] zv5:=by
 refine T.K_is_whole.ok zn1 (fun vs H Q E h=>?_) (fun cdv A outer s H vs Q E hr h=>?_)
 ·obtain⟨d,v,rfl,_⟩:=h
  rfl
 obtain⟨d,v,rfl,hd,q⟩:=h
 refine⟨_,(zah (zao (zco (zan (zii (K:=K)) rfl T.m_isinstance PyProof.Rows.boot_isinstance (zaa (pv 0) (zaa (zcd (v:=.ty "int") rfl T.m_int PyProof.Rows.boot_int rfl) zab))) (zcn (zf8 (zan (zii (K:=K)) rfl T.m_isinstance PyProof.Rows.boot_isinstance (zaa (pv 0) (zaa (zcd (v:=.ty "bool") rfl T.m_bool PyProof.Rows.boot_bool rfl) zab)))))))),?_⟩
 refine⟨_,rfl,_,_,_,_,rfl,zny hd,zx2 d,_,rfl,?_⟩
 refine zbn (fun c=>?_) (fun c=>?_)
 ·refine⟨_,rfl,_,_,_,_,rfl,zny hd,zvk d,_,rfl,?_⟩
  have e:(!zus d)=isW d:=by
   cases d<;>first|rfl|cases c
  rw[e]
  exact q
 ·have e:isW d=false:=by
   cases d<;>first|rfl|exact absurd rfl c
  rw[e] at q
  exact q
theorem zb6(T:Txt K mg a d):FnOk P w K mg base CX0 2 a.f_is_whole_within d.f_is_whole_within ["thing", "least", "greatest"] zt8:=by
 have ad:=zf6 (P:=P) (w:=w) (base:=base) T
 refine T.K_is_whole_within.ok zhm (fun vs H Q E h=>?_) (fun cdv A outer s H vs Q E hr h=>?_)
 ·obtain⟨d,v,lo,hi,rfl,_⟩:=h
  rfl
 obtain⟨d,v,lo,hi,rfl,hd,q⟩:=h
 refine⟨_,(zah (zao (zco (zaf ad hr.lv rfl T.K_is_whole (zaa (pv 0) zab)) (zcn (zns zjr zjr (pv 1) (pv 0) (pv 2)))))),?_⟩
 refine⟨_,rfl,d,v,rfl,hd,_,rfl,?_⟩
 refine zbn (fun c=>?_) (fun c=>?_)
 ·obtain⟨i,rfl⟩:=zmx c
  cases zcc hd
  refine⟨_,rfl,_,rfl,_,_,rfl,rfl,_,rfl,?_⟩
  refine zbn (fun c2=>?_) (fun c2=>?_)
  ·refine⟨_,rfl,_,_,rfl,rfl,?_⟩
   have e:zbh (.int i) lo hi=decide (i≤hi):=by
    show(decide (lo≤i)&&decide (i≤hi))=_
    rw[c2,Bool.true_and]
   rw[e] at q
   exact q
  ·have e:zbh (.int i) lo hi=false:=by
    show(decide (lo≤i)&&decide (i≤hi))=_
    rw[Bool.eq_false_iff.mpr c2,Bool.false_and]
   rw[e] at q
   exact q
 ·have e:zbh d lo hi=false:=by
   cases d<;>first|rfl|exact absurd rfl c
  rw[e] at q
  exact q
theorem zdd(T:Txt K mg a d):FnOk P w K mg base CX0 3 a.f_are_rising_options d.f_are_rising_options ["many", "things", "floor"] (zs3 K):=by
 have ad:=zb6 (P:=P) (w:=w) (base:=base) T
 refine T.K_are_rising_options.ok sc_are_rising_options (fun vs H Q E h=>?_) (fun cdv A outer s H vs Q E hr h=>?_)
 ·obtain⟨many,floor,p,b,ds,xs,rfl,_⟩:=h
  rfl
 obtain⟨many,floor,p,b,ds,xs,rfl,hq,hl,q⟩:=h
 refine⟨_,(zae (zax (i:=3) sc_are_rising_options.nd rfl (Or.inl rfl) (pv 2))
   (zae (zde PassesOwn.never rfl (zue (pv 1)) (zaw (i:=4) sc_are_rising_options.nd rfl (Or.inl rfl)) (zae (zaz (zbt (za9 (zaf ad hr.lv rfl T.K_is_whole_within (zaa (pv 4) (zaa (za6 zca (pv 3) zad) (zaa (za6 zge (pv 0) zad) zab)))))) (zah (zao zd9)) zas)
   (zah (zax (i:=3) sc_are_rising_options.nd rfl (Or.inl rfl) (pv 4)))))
   (zah (zao zd9)))),?_⟩
 refine⟨_,rfl,?_⟩
 have fin:∀(last:Int),za2 many (ds.drop xs.length) last=true:=fun last=>by
  rw[←hl.length,List.drop_length]
  rfl
 cases b with
 |false=>
  refine⟨_,rfl,p,rfl,.inl ⟨⟨xs,hq⟩,zh4 (K:=K) (a:=p) (xs:=xs) (rPv many floor p ds H) ⟨⟨floor,none,rfl,rfl⟩,rfl⟩ (fun i σ H2 _ z=>by rw[z.2];exact hq) ?_ ?_⟩⟩
  ·rintro i x σ H2 hx ⟨⟨last,v,rfl,ae⟩,rfl⟩
   obtain⟨e,he,hd⟩:=hl.get hx
   rw[zlu he] at ae
   refine⟨_,rfl,_,rfl,_,_,rfl,rfl,_,rfl,_,_,rfl,rfl,e,x,_,_,rfl,hd,_,rfl,?_⟩
   refine zbn (fun c=>?_) (fun c=>?_)
   ·have z:zbh e (last+1) (many-1)=false:=by simpa using c
    rw[z,Bool.false_and] at ae
    rw[←ae] at q
    exact q
   ·have z:zbh e (last+1) (many-1)=true:=by simpa using c
    rw[z,Bool.true_and] at ae
    cases e with
    |int j=>
     cases zcc hd
     exact⟨_,rfl,⟨j,_,rfl,ae⟩,rfl⟩
    |_=>cases z
  ·rintro σ H2 ⟨⟨last,v,rfl,ae⟩,rfl⟩
   rw[fin last] at ae
   rw[←ae] at q
   exact q
 |true=>
  refine⟨_,rfl,p,rfl,.inr ⟨⟨xs,hq⟩,zgx (K:=K) (a:=p) (xs:=xs) (rPv many floor p ds H) ⟨⟨floor,none,rfl,rfl⟩,rfl⟩ (fun i σ H2 _ z=>by rw[z.2];exact hq) ?_ ?_⟩⟩
  ·rintro i x σ H2 hx ⟨⟨last,v,rfl,ae⟩,rfl⟩
   obtain⟨e,he,hd⟩:=hl.get hx
   rw[zlu he] at ae
   refine⟨_,rfl,_,rfl,_,_,rfl,rfl,_,rfl,_,_,rfl,rfl,e,x,_,_,rfl,hd,_,rfl,?_⟩
   refine zbn (fun c=>?_) (fun c=>?_)
   ·have z:zbh e (last+1) (many-1)=false:=by simpa using c
    rw[z,Bool.false_and] at ae
    rw[←ae] at q
    exact q
   ·have z:zbh e (last+1) (many-1)=true:=by simpa using c
    rw[z,Bool.true_and] at ae
    cases e with
    |int j=>
     cases zcc hd
     exact⟨_,rfl,⟨j,_,rfl,ae⟩,rfl⟩
    |_=>cases z
  ·rintro σ H2 ⟨⟨last,v,rfl,ae⟩,rfl⟩
   rw[fin last] at ae
   rw[←ae] at q
   exact q
theorem zh1(T:Txt K mg a d):FnOk P w K mg base CX0 3 a.f_is_option d.f_is_option ["many", "thing"] zuv:=by
 have ad:=zb6 (P:=P) (w:=w) (base:=base) T
 refine T.K_is_option.ok znc (fun vs H Q E h=>?_) (fun cdv A outer s H vs Q E hr h=>?_)
 ·obtain⟨d,v,many,rfl,_⟩:=h
  rfl
 obtain⟨d,v,many,rfl,hd,q⟩:=h
 refine⟨_,(zah (zao (zaf ad hr.lv rfl T.K_is_whole_within (zaa (pv 1) (zaa zad (zaa (za6 zge (pv 0) zad) zab)))))),?_⟩
 exact⟨_,rfl,_,rfl,_,_,rfl,rfl,d,v,_,_,rfl,hd,q⟩
theorem zd8(T:Txt K mg a d):FnOk P w K mg base CX0 1 a.f_is_filled_tuple d.f_is_filled_tuple ["thing"] zw2:=by
 refine T.K_is_filled_tuple.ok zht (fun vs H Q E h=>?_) (fun cdv A outer s H vs Q E hr h=>?_)
 ·obtain⟨d,v,rfl,_⟩:=h
  rfl
 obtain⟨d,v,rfl,hd,q⟩:=h
 refine⟨_,(zah (zao (zco (zan (zii (K:=K)) rfl T.m_isinstance PyProof.Rows.boot_isinstance (zaa (pv 0) (zaa (zcd (v:=.ty "tuple") rfl T.m_tuple PyProof.Rows.boot_tuple rfl) zab))) (zcn (zb2 ze7 (zan (zb9 (K:=K)) rfl T.m_len PySem.boot_len (zaa (pv 0) zab)) zad (zav _)))))),?_⟩
 refine⟨_,rfl,_,_,_,_,rfl,zny hd,zsi d,_,rfl,?_⟩
 refine zbn (fun c=>?_) (fun c=>?_)
 ·obtain⟨ds,rfl⟩:=zlx c
  obtain⟨p,xs,rfl,hp,hl⟩:=zbw hd
  refine⟨_,rfl,p,_,rfl,.inr (sqT hp),_,_,rfl,rfl,?_⟩
  have e:decide ((0:Int)<((xs.length:Nat):Int))=zcl (.tuple ds):=by
   rw[←hl.length]
   show _=decide (0<ds.length)
   by_cases z:0<ds.length
   ·rw[decide_eq_true z,decide_eq_true (by omega)]
   ·rw[decide_eq_false z,decide_eq_false (by omega)]
  show Q (.bl (decide ((0:Int)<((xs.length:Nat):Int)))) H
  rw[e]
  exact q
 ·have e:zcl d=false:=by
   cases d<;>first|rfl|exact absurd rfl c
  rw[e] at q
  exact q
theorem zoe(T:Txt K mg a d):FnOk P w K mg base CX0 4 a.f_is_bough d.f_is_bough ["many", "bough"] zvb:=by
 have ah:=zh1 (P:=P) (w:=w) (base:=base) T
 have af:=zcb (P:=P) (w:=w) (base:=base) T
 have ag:=zd8 (P:=P) (w:=w) (base:=base) T
 have ae:=zdd (P:=P) (w:=w) (base:=base) T
 have ad:=zb6 (P:=P) (w:=w) (base:=base) T
 refine T.K_is_bough.ok sc_is_bough (fun vs H Q E h=>?_) (fun cdv A outer s H vs Q E hr h=>?_)
 ·obtain⟨d,v,many,rfl,_⟩:=h
  rfl
 obtain⟨d,v,many,rfl,hd,q⟩:=h
 refine⟨_,(zae (zaz (zbt (za9 (zaf af hr.lv rfl T.K_is_tuple_of_length (zaa (pv 1) (zaa zad zab))))) (zah (zao zd9)) zas)
   (zae (zax (i:=2) sc_is_bough.nd rfl (Or.inl rfl) (zap (ixT (K:=K)) (pv 1) zad (fun _ _=>rfl)))
   (zae (zax (i:=3) sc_is_bough.nd rfl (Or.inl rfl) (zap (ixT (K:=K)) (pv 1) zad (fun _ _=>rfl)))
   (zae (zax (i:=4) sc_is_bough.nd rfl (Or.inl rfl) (zap (ixT (K:=K)) (pv 1) zad (fun _ _=>rfl)))
   (zae (zaz (PW.pt (zfu (zbt (za9 (zaf ah hr.lv rfl T.K_is_option (zaa (pv 0) (zaa (pv 2) zab))))) (ze1 (zbt (za9 (zaf ag hr.lv rfl T.K_is_filled_tuple (zaa (pv 4) zab))))))) (zah (zao zd9)) zas)
   (zae (zaz (zbt (za9 (zaf ae hr.lv rfl T.K_are_rising_options (zaa (pv 0) (zaa (pv 4) (zaa (pv 2) zab)))))) (zah (zao zd9)) zas)
   (zah (zao (zco (zaf ad hr.lv rfl T.K_is_whole_within (zaa (pv 3) (zaa zad (zaa (zan (zb9 (K:=K)) rfl T.m_len PySem.boot_len (zaa (pv 4) zab)) zab)))) (zcn (zaf ad hr.lv rfl T.K_is_whole_within (zaa (zap (ixT (K:=K)) (pv 1) zad (fun _ _=>rfl)) (zaa zad (zaa (pv 3) zab)))))))))))))),?_⟩
 refine⟨_,rfl,d,v,4,rfl,hd,_,rfl,?_⟩
 refine zbn (fun c=>?_) (fun c=>?_)
 ·have z:zdi d 4=false:=by simpa using c
  rw[zvz z] at q
  exact q
 have z:zdi d (4:Nat)=true:=by simpa using c
 obtain⟨ds,rfl,ai⟩:=zhd z
 obtain⟨u,l,h,k,rfl⟩:=zze ai
 obtain⟨p,xs,rfl,hp,xu,r1,rfl,hu,xl,r2,rfl,am,xh,r3,rfl,hh,xk,r4,rfl,hk,aj⟩:=zbw hd
 cases(show r4=[] from aj)
 refine⟨_,rfl,p,_,_,_,rfl,rfl,sqT hp,at0,?_⟩
 refine⟨_,rfl,p,_,_,_,rfl,rfl,sqT hp,at2,?_⟩
 refine⟨_,rfl,p,_,_,_,rfl,rfl,sqT hp,at3,?_⟩
 have eb:zcv many (.tuple [u,l,h,k])=(zbh u 0 (many-1)&&(zcl k&&(zsw many u k&&(zqr h k&&zwt l h)))):=rfl
 rw[eb] at q
 refine⟨_,rfl,_,rfl,u,xu,many,rfl,hu,_,rfl,?_⟩
 refine zbn (fun c1=>?_) (fun c1=>?_)
 ·have z1:zbh u 0 (many-1)=false:=by simpa using c1
  rw[z1,Bool.false_and] at q
  exact q
 have z1:zbh u 0 (many-1)=true:=by simpa using c1
 obtain⟨up,rfl,u0,u1⟩:=zb0 z1
 cases zcc hu
 rw[z1,Bool.true_and] at q
 refine⟨_,rfl,k,xk,rfl,hk,_,rfl,?_⟩
 refine zbn (fun c2=>?_) (fun c2=>?_)
 ·have z2:zcl k=false:=by simpa using c2
  rw[z2,Bool.false_and] at q
  exact q
 have z2:zcl k=true:=by simpa using c2
 rw[z2,Bool.true_and] at q
 obtain⟨ks,rfl,k0⟩:=zeo z2
 obtain⟨pk,ys,rfl,al,ak⟩:=zbw hk
 refine⟨_,rfl,_,rfl,_,rfl,many,up,pk,true,ks,ys,rfl,sqT al,ak,_,rfl,?_⟩
 refine zbn (fun c3=>?_) (fun c3=>?_)
 ·have z3:zsw many (.int up) (.tuple ks)=false:=by
   show za2 many ks up=false
   simpa using c3
  rw[z3,Bool.false_and] at q
  exact q
 have z3:zsw many (.int up) (.tuple ks)=true:=by
  show za2 many ks up=true
  simpa using c3
 rw[z3,Bool.true_and] at q
 refine⟨_,rfl,_,rfl,pk,_,rfl,.inr (sqT al),h,xh,_,_,rfl,hh,_,rfl,?_⟩
 have e4:zqr h (.tuple ks)=zbh h 1 (ys.length:Nat):=by
  show zbh h 1 (ks.length:Nat)=_
  rw[ak.length]
 rw[e4] at q
 refine zbn (fun c4=>?_) (fun c4=>?_)
 ·rw[c4,Bool.true_and] at q
  obtain⟨hi,rfl,h0,h1⟩:=zb0 c4
  cases zcc hh
  exact⟨_,rfl,p,_,_,_,rfl,rfl,sqT hp,at1,_,rfl,l,xl,_,_,rfl,am,q⟩
 ·rw[Bool.eq_false_iff.mpr c4,Bool.false_and] at q
  exact q
theorem zjb(T:Txt K mg a d):FnOk P w K mg base CX0 5 a.f_check_boughs d.f_check_boughs ["many", "boughs"] zuk:=by
 have ad:=zoe (P:=P) (w:=w) (base:=base) T
 refine T.K_check_boughs.ok sc_check_boughs (fun vs H Q E h=>?_) (fun cdv A outer s H vs Q E hr h=>?_)
 ·obtain⟨many,p,xs,bs,rfl,_⟩:=h
  rfl
 obtain⟨many,p,xs,bs,rfl,hp,hl,G,m1,m9,ap,q⟩:=h
 refine⟨_,(zae (zax (i:=2) sc_check_boughs.nd rfl (Or.inl rfl) (zb1 zab))
   (zae (zde PassesOwn.never rfl (zq5 rfl T.m_enumerate (zaa (pv 1) zab)) (pgT (K:=K) (n:=2) rfl (za8 (zaw (i:=3) sc_check_boughs.nd rfl (Or.inl rfl)) (za8 (zaw (i:=4) sc_check_boughs.nd rfl (Or.inl rfl)) zdm))) (zae (zaz (zbt (za9 (zaf ad hr.lv rfl T.K_is_bough (zaa (pv 0) (zaa (pv 4) zab))))) (zah zdr) zas)
   (zah (zck (zb3 (K:=K) PySem.F.plainAttrs_list PySem.F.slot_list_extend PySem.F.type_list_extend zpi (pv 2) (zaa (zap (ixT (K:=K)) (pv 4) zad (fun _ _=>rfl)) zab))))))
   (zah (zaz (zar (zkf hr.units) (zan znt rfl T.m_sorted PyProof.Rows.boot_sorted (zaa (pv 2) zab)) (za4 (zg7 rfl) rfl T.m_list PyProof.Rows.boot_list (zaa (za4 zsf rfl T.m_range PyProof.Rows.boot_range (zaa zad (zaa (pv 0) zab))) zab)) (zav _)) (zah zdr) zas)))),?_⟩
 refine⟨small (by decide),fun kl ag=>?_⟩
 refine⟨_,rfl,true,p,rfl,⟨xs,sqT ((zag ag _) _ _ hp)⟩,?_⟩
 refine zof (K:=K) (b:=true) (a:=p) (xs:=xs) (fun i σ H2=>(∃v3 v4,σ=[some (.int many),some (.ref p),some (.ref kl),v3,v4])∧Same H H2∧H2 kl=some (.lst (((bs.take i).flatMap zcp).map V.int))) ⟨⟨none,none,rfl⟩,zag ag _,zac⟩ (fun i σ H2 _ z=>sqT (z.2.1 _ _ hp)) ?_ ?_
 ·rintro i x σ H2 hx ⟨⟨v3,v4,rfl⟩,sm,hk⟩ TT hT
  obtain⟨b,hb,hd⟩:=hl.get hx
  have gb:=G.each b (List.mem_of_getElem? hb)
  have ae:Same H (upd H2 TT (.tup [.int i,x])):=sm.trans (zag hT _)
  have ah:upd H2 TT (.tup [.int i,x]) kl=some (.lst (((bs.take i).flatMap zcp).map V.int)):=(zag hT _) _ _ hk
  refine⟨TT,_,rfl,sqT zac,rfl,_,_,rfl,_,_,rfl,rfl,?_⟩
  refine⟨_,rfl,_,rfl,b,x,many,rfl,Dn.same ae _ _ hd,_,rfl,?_⟩
  rw[gb]
  refine zc5 ?_
  obtain⟨pb,xu,xl,xh,pk,rfl,am,ao⟩:=zp8 gb (Dn.same ae _ _ hd)
  have fw:=zog G m9 (i+1)
  rw[zfk hb,List.length_append] at fw
  refine⟨_,rfl,.inl ⟨rfl,_,SqL.of ah⟩,_,rfl,pb,_,_,_,rfl,rfl,sqT am,at3,kl,pk,_,_,rfl,rfl,ah,ao,?_,?_⟩
  ·rw[List.length_map,List.length_map]
   exact small (by omega)
  ·refine⟨⟨_,_,rfl⟩,Wd.Same.put ae ag ah,?_⟩
   ·rw[zac,zfk hb,List.map_append]
 ·rintro σ H2 ⟨⟨v3,v4,rfl⟩,sm,hk⟩
  rw[←hl.length,List.take_length] at hk
  have fw:=zog G m9 bs.length
  rw[List.take_length] at fw
  have af:(2:Int)^62=4611686018427387904:=by decide
  refine⟨_,rfl,kl,_,rfl,SqL.of hk,by omega,fun ms pm ps l1 ak=>?_⟩
  have al:=sm.trans (zag ak (.lst (ms.map V.int)))
  refine⟨_,rfl,_,_,rfl,fun rp ai=>?_⟩
  refine⟨rp,1,many,rfl,zac,by rw[af];omega,by rw[af];omega,by rw[af];omega,by rw[af];omega,by omega,fun l2 aj=>?_⟩
  have ae:=(al.trans (zag ai (.rng 1 many))).trans (zag aj (.lst ((List.range' 0 (many-1).toNat).map fun i:Nat=>V.int (1+(i:Int)))))
  have e1:ms=(List.range' 0 (many-1).toNat).map fun i:Nat=>(1:Int)+i:=PySem.W.ksm_same (pm.trans G.kids) ps (zif 1 _ 0)
  have h1:upd (upd (upd H2 l1 (.lst (ms.map V.int))) rp (.rng 1 many)) l2 (.lst ((List.range' 0 (many-1).toNat).map fun i:Nat=>V.int (1+(i:Int)))) l1=some (.lst (ms.map V.int)):=(zag aj _) _ _ ((zag ai _) _ _ zac)
  refine⟨l1,l2,ms,ms,rfl,rfl,SqL.of h1,?_,_,rfl,?_⟩
  ·refine SqL.of ?_
   rw[zac,e1,List.map_map]
   rfl
  ·refine zkp rfl ?_
   exact q _ ae
theorem zm1(T:Txt K mg a d):FnOk P w K mg base CX0 4 a.f_are_pairs d.f_are_pairs ["many", "pairs"] zv2:=by
 have ae:=zcb (P:=P) (w:=w) (base:=base) T
 have af:=zd8 (P:=P) (w:=w) (base:=base) T
 have ad:=zdd (P:=P) (w:=w) (base:=base) T
 have ag:=zf6 (P:=P) (w:=w) (base:=base) T
 refine T.K_are_pairs.ok sc_are_pairs (fun vs H Q E h=>?_) (fun cdv A outer s H vs Q E hr h=>?_)
 ·obtain⟨d,v,many,rfl,_⟩:=h
  rfl
 obtain⟨d,v,many,rfl,hd,aj,q⟩:=h
 refine⟨_,(zae (zaz (zbt (za9 (zaf af hr.lv rfl T.K_is_filled_tuple (zaa (pv 1) zab)))) (zah (zao zd9)) zas)
   (zae (zde PassesOwn.never rfl (piT (K:=K) (pv 1)) (zaw (i:=2) sc_are_pairs.nd rfl (Or.inl rfl)) (zah (zaz (PW.pt (zfu (zbt (za9 (zaf ae hr.lv rfl T.K_is_tuple_of_length (zaa (pv 2) (zaa zad zab))))) (ze1 (zbt (za9 (zaf ag hr.lv rfl T.K_is_whole (zaa (zap (ixT (K:=K)) (pv 2) zad (fun _ _=>rfl)) zab))))))) (zah (zao zd9)) zas)))
   (zah (zao (zaf ad hr.lv rfl T.K_are_rising_options (zaa (pv 0) (zaa (zdo (N':=["pair"]) (n:=1) (kp:=[]) rfl (piT (K:=K) (pv 1)) rfl rfl rfl (fun _ _ _ _ _=>(zaw (i:=0) (of_decide_eq_true rfl) rfl (Or.inl rfl))) (fun _ _ _ _ _=>zes) (fun _ _ _ _ _=>(zap (ixT (K:=K)) (pv 0) zad (fun _ _=>rfl)))) (zaa (zy5 zw1 zad) zab)))))))),?_⟩
 refine⟨_,rfl,d,v,rfl,hd,_,rfl,?_⟩
 refine zbn (fun c=>?_) (fun c=>?_)
 ·have z:zcl d=false:=by simpa using c
  have e:zga many d=false:=by
   cases d with
   |tuple ds=>
    show(decide (0<ds.length)&&ds.all zc9&&za2 many (ds.map zi7) (-1))=false
    rw[show decide (0<ds.length)=false from z,Bool.false_and,Bool.false_and]
   |_=>rfl
  rw[e] at q
  exact q H (Same.refl H)
 have z:zcl d=true:=by simpa using c
 obtain⟨ds,rfl,k0⟩:=zeo z
 obtain⟨p,xs,rfl,hp,hl⟩:=zbw hd
 have e:zga many (.tuple ds)=(ds.all zc9&&za2 many (ds.map zi7) (-1)):=by
  show(decide (0<ds.length)&&ds.all zc9&&za2 many (ds.map zi7) (-1))=_
  rw[show decide (0<ds.length)=true from decide_eq_true k0,Bool.true_and]
 rw[e] at q
 refine⟨_,rfl,p,rfl,⟨xs,sqT hp⟩,zgx (K:=K) (a:=p) (xs:=xs) (fun i σ H2=>(∃v,σ=[some (.int many),some (.ref p),v])∧H2=H∧(ds.take i).all zc9=true) ⟨⟨none,rfl⟩,rfl,rfl⟩ (fun i σ H2 _ z=>by rw[z.2.1];exact sqT hp) ?_ ?_⟩
 ·rintro i x σ H2 hx ⟨⟨v,rfl⟩,rfl,ha⟩
  obtain⟨e1,ai,ah⟩:=hl.get hx
  refine⟨_,rfl,e1,x,2,rfl,ah,_,rfl,?_⟩
  refine zbn (fun c1=>?_) (fun c1=>?_)
  ·have z1:zdi e1 2=false:=by simpa using c1
   rw[zqj ai (zxu z1),Bool.false_and] at q
   exact q H2 (Same.refl H2)
  have z1:zdi e1 (2:Nat)=true:=by simpa using c1
  obtain⟨es,rfl,al⟩:=zhd z1
  obtain⟨o,n,rfl⟩:=two al
  obtain⟨pp,ys,rfl,am,xo,r1,rfl,ho,xn,r2,rfl,hn,ak⟩:=zbw ah
  cases(show r2=[] from ak)
  refine⟨_,rfl,pp,_,_,_,rfl,rfl,sqT am,at1,n,xn,rfl,hn,_,rfl,?_⟩
  refine zbn (fun c2=>?_) (fun c2=>?_)
  ·have z2:zc9 (.tuple [o,n])=false:=by
    show isW n=false
    simpa using c2
   rw[zqj ai z2,Bool.false_and] at q
   exact q H2 (Same.refl H2)
  ·have z2:zc9 (.tuple [o,n])=true:=by
    show isW n=true
    simpa using c2
   exact⟨⟨_,rfl⟩,rfl,ztm ai ha z2⟩
 ·rintro σ H2 ⟨⟨v,rfl⟩,rfl,ha⟩
  rw[←hl.length,List.take_length] at ha
  rw[ha,Bool.true_and] at q
  refine⟨_,rfl,_,rfl,p,rfl,⟨xs,sqT hp⟩,?_⟩
  refine zey (K:=K) (a:=p) (xs:=xs) (fun i ys σ H3=>(∃v,σ=[v])∧H3=H2∧i≤xs.length∧DnL H2 ((ds.take i).map zi7) ys) ⟨⟨none,rfl⟩,rfl,Nat.zero_le _,rfl⟩ (fun i ys σ H3 hi pv=>?_) (fun i ys σ H3 hi pv=>?_) (fun i x ys σ H3 hx pv=>?_) (fun ys σ H3 pv l ao=>?_)
  ·obtain⟨_,_,h1,h2⟩:=pv
   have e1:=h2.length
   rw[List.length_map,List.length_take] at e1
   have e2:=hl.length
   have e3:ds.length≤1000:=aj
   exact small (by omega)
  ·rw[pv.2.1]
   exact sqT hp
  ·obtain⟨⟨v,rfl⟩,rfl,h1,h2⟩:=pv
   obtain⟨e1,ai,ah⟩:=hl.get hx
   have po:zc9 e1=true:=by
    rw[List.all_eq_true] at ha
    exact ha e1 (List.mem_of_getElem? ai)
   cases e1 with
   |tuple es=>
    match es,po,ah with
    |[o,n],po,ah=>
     obtain⟨pp,zs,rfl,am,xo,r1,rfl,ho,xn,r2,rfl,hn,ak⟩:=zbw ah
     refine⟨_,rfl,pp,_,_,_,rfl,rfl,sqT am,at0,⟨_,rfl⟩,rfl,(List.getElem?_eq_some_iff.mp hx).1,?_⟩
     obtain⟨hi,ee⟩:=List.getElem?_eq_some_iff.mp ai
     rw[List.take_succ_eq_append_getElem hi,List.map_append,ee]
     exact h2.append ⟨xo,[],rfl,ho,rfl⟩
   |_=>cases po
  ·obtain⟨_,rfl,_,h2⟩:=pv
   rw[←hl.length,List.take_length] at h2
   exact⟨_,rfl,many,-1,l,false,ds.map zi7,ys,rfl,SqL.of zac,DnL.same (zag ao _) _ _ h2,q _ (zag ao _)⟩
theorem zi9(T:Txt K mg a d):FnOk P w K mg base CX0 5 a.f_is_cross_tie d.f_is_cross_tie ["many", "tie"] zyb:=by
 have ae:=zh1 (P:=P) (w:=w) (base:=base) T
 have ad:=zcb (P:=P) (w:=w) (base:=base) T
 have af:=zm1 (P:=P) (w:=w) (base:=base) T
 have ag:=zf6 (P:=P) (w:=w) (base:=base) T
 refine T.K_is_cross_tie.ok zja (fun vs H Q E h=>?_) (fun cdv A outer s H vs Q E hr h=>?_)
 ·obtain⟨d,v,many,rfl,_⟩:=h
  rfl
 obtain⟨d,v,many,rfl,hd,h3,q⟩:=h
 refine⟨_,(zae (zaz (PW.pt (zfu (zbt (za9 (zaf ad hr.lv rfl T.K_is_tuple_of_length (zaa (pv 1) (zaa zad zab))))) (ze1 (zbt (za9 (zan (zii (K:=K)) rfl T.m_isinstance PyProof.Rows.boot_isinstance (zaa (zap (ixT (K:=K)) (pv 1) zad (fun _ _=>rfl)) (zaa (zcd (v:=.ty "str") rfl T.m_str PyProof.Rows.boot_str rfl) zab)))))))) (zah (zao zd9)) zas)
   (zae (zaz (zar zbp (zap (ixT (K:=K)) (pv 1) zad (fun _ _=>rfl)) zbq (zav _)) (zah (zao (zco (zaf ag hr.lv rfl T.K_is_whole (zaa (zap (ixT (K:=K)) (pv 1) zad (fun _ _=>rfl)) zab)) (zcn (zaf af hr.lv rfl T.K_are_pairs (zaa (pv 0) (zaa (zap (ixT (K:=K)) (pv 1) zad (fun _ _=>rfl)) zab))))))) zas)
   (zae (zaz (zar zl5 (zap (ixT (K:=K)) (pv 1) zad (fun _ _=>rfl)) (zbc (zaa zbq (zaa zbq zab))) (by with_unfolding_all rfl)) (zah (zao zd9)) zas)
   (zah (zao (zco (zaf ae hr.lv rfl T.K_is_option (zaa (pv 0) (zaa (zap (ixT (K:=K)) (pv 1) zad (fun _ _=>rfl)) zab))) (zco (zaf ae hr.lv rfl T.K_is_option (zaa (pv 0) (zaa (zap (ixT (K:=K)) (pv 1) zad (fun _ _=>rfl)) zab))) (zcn (zb2 zqn (zap (ixT (K:=K)) (pv 1) zad (fun _ _=>rfl)) (zap (ixT (K:=K)) (pv 1) zad (fun _ _=>rfl)) (zav _)))))))))),?_⟩
 refine⟨_,rfl,d,v,3,rfl,hd,_,rfl,?_⟩
 refine zbn (fun c=>?_) (fun c=>?_)
 ·have z:zdi d 3=false:=by simpa using c
  rw[zyo z] at q
  exact q H (Same.refl H)
 have z:zdi d (3:Nat)=true:=by simpa using c
 obtain⟨ds,rfl,ai⟩:=zhd z
 obtain⟨k,x,y,rfl⟩:=zyi ai
 obtain⟨p,xs,rfl,hp,xk,r1,rfl,hk,xx,r2,rfl,hx,xy,r3,rfl,hy,aj⟩:=zbw hd
 cases(show r3=[] from aj)
 have q':∀H',Same H H'→Q (.bl (zvd many x y k)) H':=q
 refine⟨_,rfl,p,_,_,_,rfl,rfl,sqT hp,at0,_,_,_,_,rfl,zny hk,zwr k,_,rfl,?_⟩
 refine zbn (fun c1=>?_) (fun c1=>?_)
 ·have z1:zvd many x y k=false:=by
   cases k with
   |str s=>cases c1
   |_=>rfl
  rw[z1] at q'
  exact q' H (Same.refl H)
 obtain⟨s,rfl⟩:∃s,k=.str s:=by
  cases k with
  |str s=>exact⟨s,rfl⟩
  |_=>exact absurd rfl c1
 cases(show xk=.str s from hk)
 have q2:∀H',Same H H'→Q (.bl (zi5 many s x y)) H':=q'
 unfold zi5 at q2
 refine⟨_,rfl,p,_,_,_,rfl,rfl,sqT hp,at0,rfl,_,rfl,?_⟩
 refine zbn (fun c2=>?_) (fun c2=>?_)
 ·have e2:s=("most" : Str):=of_decide_eq_true ((zow _ _).symm.trans c2)
  rw[if_pos e2] at q2
  refine⟨_,rfl,p,_,_,_,rfl,rfl,sqT hp,at1,x,xx,rfl,hx,_,rfl,?_⟩
  refine zbn (fun c3=>?_) (fun c3=>?_)
  ·rw[c3,Bool.true_and] at q2
   exact⟨_,rfl,_,rfl,p,_,_,_,rfl,rfl,sqT hp,at2,y,xy,many,rfl,hy,h3,q2⟩
  ·rw[Bool.eq_false_iff.mpr c3,Bool.false_and] at q2
   exact q2 H (Same.refl H)
 have e2:¬s=("most" : Str):=of_decide_eq_false ((zow _ _).symm.trans (Bool.eq_false_iff.mpr c2))
 rw[if_neg e2] at q2
 refine⟨_,rfl,p,_,_,_,rfl,rfl,sqT hp,at0,small (by show 2≤1000;decide),fun tp al=>?_⟩
 refine⟨tp,_,rfl,.inr (sqT zac),rfl,rfl,_,rfl,?_⟩
 have sm:=zag al (.tup [.str ("needs" : Str),.str ("bans" : Str)])
 have ah:upd H tp (.tup [.str ("needs" : Str),.str ("bans" : Str)]) p=some (.tup [.str s,xx,xy]):=sm _ _ hp
 have ak:(if true=true then !inV (.str s) [.str ("needs" : Str),.str ("bans" : Str)] else inV (.str s) [.str ("needs" : Str),.str ("bans" : Str)])=!decide (s=("needs" : Str)∨s=("bans" : Str)):=by
  show(!(((("needs" : Str)==s)||((("bans" : Str)==s)||false))))=_
  by_cases h1:s=("needs" : Str)
  ·subst h1
   simp
  ·by_cases h2:s=("bans" : Str)
   ·subst h2
    simp
   ·have g1:((("needs" : Str)==s)=false):=by
     rw[Bool.eq_false_iff]
     intro z
     exact h1 (eq_of_beq z).symm
    have g2:((("bans" : Str)==s)=false):=by
     rw[Bool.eq_false_iff]
     intro z
     exact h2 (eq_of_beq z).symm
    rw[g1,g2,decide_eq_false (by rintro(z|z)<;>contradiction)]
    rfl
 rw[ak]
 refine zbn (fun c3=>?_) (fun c3=>?_)
 ·have e3:¬(s=("needs" : Str)∨s=("bans" : Str)):=by simpa using c3
  rw[if_neg e3] at q2
  exact q2 _ sm
 have e3:s=("needs" : Str)∨s=("bans" : Str):=by
  by_cases z:s=("needs" : Str)∨s=("bans" : Str)
  ·exact z
  ·exact absurd (by rw[decide_eq_false z];rfl) c3
 rw[if_pos e3] at q2
 refine⟨_,rfl,_,rfl,p,_,_,_,rfl,rfl,sqT ah,at1,x,xx,many,rfl,Dn.same sm _ _ hx,_,rfl,?_⟩
 refine zbn (fun c4=>?_) (fun c4=>?_)
 ·rw[c4,Bool.true_and] at q2
  refine⟨_,rfl,_,rfl,p,_,_,_,rfl,rfl,sqT ah,at2,y,xy,many,rfl,Dn.same sm _ _ hy,_,rfl,?_⟩
  refine zbn (fun c5=>?_) (fun c5=>?_)
  ·rw[c5,Bool.true_and] at q2
   obtain⟨i,rfl,_⟩:=zb0 c4
   obtain⟨j,rfl,_⟩:=zb0 c5
   cases zcc hx
   cases zcc hy
   refine⟨_,rfl,p,_,_,_,rfl,rfl,sqT ah,at1,_,rfl,p,_,_,_,rfl,rfl,sqT ah,at2,rfl,?_⟩
   have e5:(!decide (V.int i=V.int j))=neI (.int i) (.int j):=by
    show _=!decide (i=j)
    rw[zfq]
    by_cases z:i=j
    ·rw[decide_eq_true z]
     simpa using z
    ·rw[decide_eq_false z]
     simpa using z
   rw[e5]
   exact q2 _ sm
  ·rw[Bool.eq_false_iff.mpr c5,Bool.false_and] at q2
   exact q2 _ sm
 ·rw[Bool.eq_false_iff.mpr c4,Bool.false_and] at q2
  exact q2 _ sm
theorem zg2(T:Txt K mg a d):FnOk P w K mg base CX0 6 a.f_check_cross_ties d.f_check_cross_ties ["many", "cross"] zsu:=by
 have ae:=zi9 (P:=P) (w:=w) (base:=base) T
 obtain⟨_,ad⟩:=T.c_MOST_CROSS_TIES
 refine T.K_check_cross_ties.ok sc_check_cross_ties (fun vs H Q E h=>?_) (fun cdv A outer s H vs Q E hr h=>?_)
 ·obtain⟨many,p,xs,bs,rfl,_⟩:=h
  rfl
 obtain⟨many,p,xs,cs,rfl,hp,hl,G,h8,q⟩:=h
 refine⟨_,(zae (zaz (zar ze7 (zan (zb9 (K:=K)) rfl T.m_len PySem.boot_len (zaa (pv 1) zab)) (zdj (v:=.int 8) rfl ad ⟨_,rfl⟩) (zav _)) (zah zdr) zas)
   (zah (zde PassesOwn.never rfl (zq5 rfl T.m_enumerate (zaa (pv 1) zab)) (pgT (K:=K) (n:=2) rfl (za8 (zaw (i:=2) sc_check_cross_ties.nd rfl (Or.inl rfl)) (za8 (zaw (i:=3) sc_check_cross_ties.nd rfl (Or.inl rfl)) zdm))) (zah (zaz (zbt (za9 (zaf ae hr.lv rfl T.K_is_cross_tie (zaa (pv 0) (zaa (pv 3) zab))))) (zah zdr) zas))))),?_⟩
 refine⟨_,rfl,p,_,rfl,.inr (sqT hp),_,_,rfl,rfl,_,rfl,?_⟩
 have e8:decide ((8:Int)<((xs.length:Nat):Int))=false:=by
  rw[←hl.length]
  exact decide_eq_false (by omega)
 rw[e8]
 refine zc5 ?_
 refine⟨_,rfl,true,p,rfl,⟨xs,sqT hp⟩,?_⟩
 refine zof (K:=K) (b:=true) (a:=p) (xs:=xs) (fun i σ H2=>(∃v2 v3,σ=[some (.int many),some (.ref p),v2,v3])∧Same H H2) ⟨⟨none,none,rfl⟩,Same.refl H⟩ (fun i σ H2 _ z=>sqT (z.2 _ _ hp)) ?_ ?_
 ·rintro i x σ H2 hx ⟨⟨v2,v3,rfl⟩,sm⟩ TT hT
  obtain⟨b,hb,hd⟩:=hl.get hx
  obtain⟨gb,g3⟩:=G b (List.mem_of_getElem? hb)
  have af:Same H (upd H2 TT (.tup [.int i,x])):=sm.trans (zag hT _)
  refine⟨TT,_,rfl,sqT zac,rfl,_,_,rfl,_,_,rfl,rfl,?_⟩
  refine⟨_,rfl,_,rfl,b,x,many,rfl,Dn.same af _ _ hd,g3,fun H3 ag=>⟨_,rfl,?_⟩⟩
  rw[gb]
  refine zc5 ?_
  exact⟨⟨_,_,rfl⟩,af.trans ag⟩
 ·rintro σ H2 ⟨⟨v2,v3,rfl⟩,sm⟩
  exact q H2 sm
theorem zp4(T:Txt K mg a d):FnOk P w K mg base CX0 7 a.f_wood_of d.f_wood_of ["many", "boughs", "cross"] zxp:=by
 have ae:=zb6 (P:=P) (w:=w) (base:=base) T
 have ag:=zjb (P:=P) (w:=w) (base:=base) T
 have ad:=zg2 (P:=P) (w:=w) (base:=base) T
 obtain⟨_,af⟩:=T.c_MOST_OPTIONS
 refine T.K_wood_of.ok sc_wood_of (fun vs H Q E h=>?_) (fun cdv A outer s H vs Q E hr h=>?_)
 ·obtain⟨many,p,r,xs,ys,bs,cs,rfl,_⟩:=h
  rfl
 obtain⟨many,p,r,xs,ys,bs,cs,rfl,hp,ar,hl,av,G,m1,m9,b9,GT,c8,q⟩:=h
 refine⟨_,(zae (zaz (zbt (za9 (zaf ae hr.lv rfl T.K_is_whole_within (zaa (pv 0) (zaa zad (zaa (zdj (v:=.int 9) rfl af ⟨_,rfl⟩) zab)))))) (zah zdr) zas)
   (zae (zaz (zbt (za9 (zan (zii (K:=K)) rfl T.m_isinstance PyProof.Rows.boot_isinstance (zaa (pv 1) (zaa (zcd (v:=.ty "list") rfl T.m_list PyProof.Rows.boot_list rfl) zab))))) (zah zdr) zas)
   (zae (zaz (zbt (za9 (zan (zii (K:=K)) rfl T.m_isinstance PyProof.Rows.boot_isinstance (zaa (pv 2) (zaa (zcd (v:=.ty "list") rfl T.m_list PyProof.Rows.boot_list rfl) zab))))) (zah zdr) zas)
   (zae (zax (i:=3) sc_wood_of.nd rfl (Or.inl rfl) (zbc (zaa (pv 0) (zaa (za4 za5 rfl T.m_tuple PyProof.Rows.boot_tuple (zaa (pv 1) zab)) (zaa (za4 za5 rfl T.m_tuple PyProof.Rows.boot_tuple (zaa (pv 2) zab)) zab)))))
   (zae (zck (zaf ag hr.lv rfl T.K_check_boughs (zaa (pv 0) (zaa (zap (ixT (K:=K)) (pv 3) zad (fun _ _=>rfl)) zab))))
   (zae (zck (zaf ad hr.lv rfl T.K_check_cross_ties (zaa (pv 0) (zaa (zap (ixT (K:=K)) (pv 3) zad (fun _ _=>rfl)) zab))))
   (zah (zao (pv 3))))))))),?_⟩
 refine⟨_,rfl,.int many,.int many,1,9,rfl,rfl,_,rfl,?_⟩
 have ew:zbh (.int many) 1 9=true:=by
  show(decide (1≤many)&&decide (many≤9))=true
  rw[decide_eq_true m1,decide_eq_true m9]
  rfl
 rw[ew]
 refine zc5 ?_
 refine⟨_,rfl,_,_,_,_,rfl,.lst hp,zct,_,rfl,?_⟩
 refine zc5 ?_
 refine⟨_,rfl,_,_,_,_,rfl,.lst ar,zct,_,rfl,?_⟩
 refine zc5 ?_
 refine⟨_,rfl,_,rfl,p,xs,rfl,.inl ⟨SqL.of hp,fun tb au=>?_⟩⟩
 have aq:=zag au (.tup xs)
 refine⟨_,rfl,r,ys,rfl,.inl ⟨SqL.of (aq _ _ ar),fun tc am=>?_⟩⟩
 have aw:=aq.trans (zag am (.tup ys))
 refine⟨small (by show 3≤1000;decide),fun wd ak=>?_⟩
 have aj:=aw.trans (zag ak (.tup [.int many,.ref tb,.ref tc]))
 have ap:upd (upd (upd H tb (.tup xs)) tc (.tup ys)) wd (.tup [.int many,.ref tb,.ref tc]) tb=some (.tup xs):=(zag ak _) _ _ ((zag am _) _ _ zac)
 have al:upd (upd (upd H tb (.tup xs)) tc (.tup ys)) wd (.tup [.int many,.ref tb,.ref tc]) tc=some (.tup ys):=(zag ak _) _ _ zac
 refine⟨_,rfl,_,rfl,wd,_,_,_,rfl,rfl,sqT zac,at1,many,tb,xs,bs,rfl,ap,DnL.same aj _ _ hl,G,m1,m9,b9,fun H4 ah=>?_⟩
 have ao:=ah _ _ (show upd (upd (upd H tb (.tup xs)) tc (.tup ys)) wd (.tup [.int many,.ref tb,.ref tc]) wd=some (.tup [.int many,.ref tb,.ref tc]) from zac)
 refine⟨_,rfl,_,rfl,wd,_,_,_,rfl,rfl,sqT ao,at2,many,tc,ys,cs,rfl,ah _ _ al,DnL.same (aj.trans ah) _ _ av,GT,c8,fun H5 ai=>?_⟩
 exact⟨_,rfl,q wd tb tc H5 (aj.trans (ah.trans ai)) (ai _ _ ao) (ai _ _ (ah _ _ ap)) (ai _ _ (ah _ _ al))⟩
theorem zna(T:Txt K mg a d):FnOk P w K mg base CX0 1 a.f_many_ties d.f_many_ties ["wood"] zwq:=by
 refine T.K_many_ties.ok zm5 (fun vs H Q E h=>?_) (fun cdv A outer s H vs Q E hr h=>?_)
 ·obtain⟨wd,many,xs,ys,rfl,_⟩:=h
  rfl
 obtain⟨wd,many,xs,ys,rfl,⟨tb,tc,hw,hb,hc⟩,q⟩:=h
 refine⟨_,(zah (zao (za6 zca (zan (zb9 (K:=K)) rfl T.m_len PySem.boot_len (zaa (zap (ixT (K:=K)) (pv 0) zad (fun _ _=>rfl)) zab)) (zan (zb9 (K:=K)) rfl T.m_len PySem.boot_len (zaa (zap (ixT (K:=K)) (pv 0) zad (fun _ _=>rfl)) zab))))),?_⟩
 exact⟨_,rfl,wd,_,_,_,rfl,rfl,sqT hw,at1,tb,_,rfl,.inr (sqT hb),_,rfl,wd,_,_,_,rfl,rfl,sqT hw,at2,tc,_,rfl,.inr (sqT hc),_,_,rfl,rfl,q⟩
theorem zr6(T:Txt K mg a d):FnOk P w K mg base CX0 1 a.f_tie_at d.f_tie_at ["wood", "t"] zvg:=by
 refine T.K_tie_at.ok sc_tie_at (fun vs H Q E h=>?_) (fun cdv A outer s H vs Q E hr h=>?_)
 ·obtain⟨wd,many,xs,ys,t,v,rfl,_⟩:=h
  rfl
 obtain⟨wd,many,xs,ys,t,v,rfl,⟨tb,tc,hw,hb,hc⟩,hv,q⟩:=h
 refine⟨_,(zae (zax (i:=2) sc_tie_at.nd rfl (Or.inl rfl) (zap (ixT (K:=K)) (pv 0) zad (fun _ _=>rfl)))
   (zae (zaz (zar zo5 (pv 1) (zan (zb9 (K:=K)) rfl T.m_len PySem.boot_len (zaa (pv 2) zab)) (zav _)) (zah (zao (zap (ixT (K:=K)) (pv 2) (pv 1) (fun _ _=>rfl)))) zas)
   (zah (zao (zap (ixT (K:=K)) (zap (ixT (K:=K)) (pv 0) zad (fun _ _=>rfl)) (za6 zge (pv 1) (zan (zb9 (K:=K)) rfl T.m_len PySem.boot_len (zaa (pv 2) zab))) (fun _ _=>rfl)))))),?_⟩
 refine⟨_,rfl,wd,_,_,_,rfl,rfl,sqT hw,at1,?_⟩
 refine⟨_,rfl,_,rfl,tb,_,rfl,.inr (sqT hb),_,_,rfl,rfl,_,rfl,?_⟩
 refine zbn (fun c=>?_) (fun c=>?_)
 ·have c':(t:Int)<(xs.length:Nat):=of_decide_eq_true c
  rw[List.getElem?_append_left (by omega)] at hv
  exact⟨_,rfl,_,rfl,tb,_,_,_,rfl,rfl,sqT hb,zc8 hv,q⟩
 ·have c':¬(t:Int)<(xs.length:Nat):=of_decide_eq_false (Bool.eq_false_iff.mpr c)
  rw[List.getElem?_append_right (by omega)] at hv
  have e:((t:Int)-((xs.length:Nat):Int))=((t-xs.length:Nat):Int):=by omega
  refine⟨_,rfl,wd,_,_,_,rfl,rfl,sqT hw,at2,_,rfl,_,rfl,tb,_,rfl,.inr (sqT hb),_,_,rfl,rfl,tc,_,_,_,rfl,rfl,sqT hc,?_,q⟩
  show atI ys ((t:Int)-((xs.length:Nat):Int))=some v
  rw[e]
  exact zc8 hv
def zva:Sp:=fun vs H Q _=>∃(p:Addr)(ks:List Nat)(n:Nat),vs=[.ref p,.int n]∧H p=some (.tup (ks.map fun k:Nat=>V.int (k:Int)))∧ks.length≤1000∧∀H',Same H H'→Q (.int (cnt ks n:Nat)) H'
theorem zel(T:Txt K mg a d):FnOk P w K mg base CX0 2 a.f_count_in d.f_count_in ["kids", "some"] zva:=by
 have ad:=zew (P:=P) (w:=w) (base:=base) T
 refine T.K_count_in.ok zom (fun vs H Q E h=>?_) (fun cdv A outer s H vs Q E hr h=>?_)
 ·obtain⟨p,ks,n,rfl,_⟩:=h
  rfl
 obtain⟨p,ks,n,rfl,hp,hk,q⟩:=h
 refine⟨_,(zah (zao (zan (zb9 (K:=K)) rfl T.m_len PySem.boot_len (zaa (zdo (N':=["k", "some"]) (n:=1) (kp:=[1]) rfl (piT (K:=K) (pv 0)) rfl rfl rfl (fun _ _ _ _ _=>(zaw (i:=0) (of_decide_eq_true rfl) rfl (Or.inl rfl))) (fun _ _ _ _ _=>(zbz (za9 (zaf ad hr.lv rfl T.K_has (zaa (pv 1) (zaa (pv 0) zab)))))) (fun _ _ _ _ _=>(pv 0))) zab)))),?_⟩
 refine⟨_,rfl,p,rfl,⟨_,sqT hp⟩,?_⟩
 refine zey (K:=K) (a:=p) (xs:=ks.map fun k:Nat=>V.int (k:Int)) (fun i ys σ H2=>(∃v,σ=[v,some (.int n)])∧H2=H∧i≤ks.length∧ys=((ks.take i).filter fun k=>n.testBit k).map fun k:Nat=>V.int (k:Int)) ⟨⟨none,rfl⟩,rfl,Nat.zero_le _,rfl⟩ (fun i ys σ H2 hi pv=>?_) (fun i ys σ H2 hi pv=>?_) (fun i x ys σ H2 hx pv=>?_) (fun ys σ H2 pv l hl=>?_)
 ·obtain⟨_,_,h1,rfl⟩:=pv
  rw[List.length_map]
  refine small (Nat.le_trans (List.length_filter_le _ _) ?_)
  rw[List.length_take]
  omega
 ·rw[pv.2.1]
  exact sqT hp
 ·obtain⟨⟨v,rfl⟩,rfl,h1,rfl⟩:=pv
  rw[List.getElem?_map] at hx
  obtain⟨k,ae,rfl⟩:=Option.map_eq_some_iff.mp hx
  have hj:i<ks.length:=(List.getElem?_eq_some_iff.mp ae).1
  have ee:=PySem.take_succ_filter (fun k=>n.testBit k) ks i k ae
  refine⟨_,rfl,_,rfl,_,_,rfl,_,rfl,?_⟩
  rw[zbl]
  refine zbn (fun c=>?_) (fun c=>?_)
  ·refine⟨_,rfl,⟨_,rfl⟩,rfl,hj,?_⟩
   rw[ee,if_pos c,List.map_append]
   rfl
  ·refine⟨⟨_,rfl⟩,rfl,hj,?_⟩
   rw[ee,if_neg c,List.append_nil]
 ·obtain⟨_,rfl,_,rfl⟩:=pv
  have fin:∀L:List V,L.length=cnt ks n→∀H',Same H2 H'→Q (.int (L.length:Nat)) H':=fun L e H' sm=>by
   rw[e]
   exact q H' sm
  exact⟨l,_,rfl,.inl (SqL.of zac),fin _ (by simp[cnt]) _ (zag hl _)⟩
def zth:Sp:=fun vs H Q _=>∃(u:Nat)(lo hi:Int)(ks:List Nat)(n:Nat)(v:V),vs=[v,.int n]∧Dn H (Tie.bough u lo hi ks).toD v∧ks.length≤1000∧∀H',Same H H'→Q (.bl ((Tie.bough u lo hi ks).keep n)) H'
theorem zjt(T:Txt K mg a d):FnOk P w K mg base CX0 3 a.f_keeps_bough d.f_keeps_bough ["bough", "some"] zth:=by
 have ae:=zew (P:=P) (w:=w) (base:=base) T
 have ad:=zel (P:=P) (w:=w) (base:=base) T
 refine T.K_keeps_bough.ok sc_keeps_bough (fun vs H Q E h=>?_) (fun cdv A outer s H vs Q E hr h=>?_)
 ·obtain⟨u,lo,hi,ks,n,v,rfl,_⟩:=h
  rfl
 obtain⟨u,lo,hi,ks,n,v,rfl,hd,hk,q⟩:=h
 obtain⟨p,pk,rfl,hp,ag⟩:=zc6 hd
 refine⟨_,(zae (zax (i:=2) sc_keeps_bough.nd rfl (Or.inl rfl) (zaf ad hr.lv rfl T.K_count_in (zaa (zap (ixT (K:=K)) (pv 0) zad (fun _ _=>rfl)) (zaa (pv 1) zab))))
   (zae (zaz (za9 (zaf ae hr.lv rfl T.K_has (zaa (pv 1) (zaa (zap (ixT (K:=K)) (pv 0) zad (fun _ _=>rfl)) zab)))) (zah (zao (zns zjr zjr (zap (ixT (K:=K)) (pv 0) zad (fun _ _=>rfl)) (pv 2) (zap (ixT (K:=K)) (pv 0) zad (fun _ _=>rfl))))) zas)
   (zah (zao (zb2 zbp (pv 2) zad (zav _)))))),?_⟩
 refine⟨_,rfl,p,_,_,_,rfl,rfl,sqT hp,at3,_,rfl,pk,ks,n,rfl,ag,hk,fun H1 s1=>?_⟩
 have af:=s1 _ _ hp
 have q1:=q H1 s1
 refine⟨_,rfl,_,rfl,p,_,_,_,rfl,rfl,sqT af,at0,_,_,rfl,_,rfl,?_⟩
 rw[zbl]
 refine zbn (fun c=>?_) (fun c=>?_)
 ·rw[zu0 c] at q1
  refine⟨_,rfl,p,_,_,_,rfl,rfl,sqT af,at1,_,rfl,_,_,rfl,rfl,_,rfl,?_⟩
  refine zbn (fun c2=>?_) (fun c2=>?_)
  ·refine⟨_,rfl,p,_,_,_,rfl,rfl,sqT af,at2,_,_,rfl,rfl,?_⟩
   rw[c2,Bool.true_and] at q1
   exact q1
  ·rw[Bool.eq_false_iff.mpr c2,Bool.false_and] at q1
   exact q1
 ·rw[zvw c] at q1
  refine⟨_,rfl,rfl,?_⟩
  have e:decide (V.int (cnt ks n:Nat)=V.int 0)=decide (cnt ks n=0):=by
   rw[zfq]
   by_cases z:cnt ks n=0
   ·rw[z];rfl
   ·rw[decide_eq_false z]
    simpa using z
  show Q (.bl (decide (V.int (cnt ks n:Nat)=V.int 0))) H1
  rw[e]
  exact q1
theorem zsd(T:Txt K mg a d):FnOk P w K mg base CX0 4 a.f_keeps d.f_keeps ["tie", "some"] zu8:=by
 have ae:=zew (P:=P) (w:=w) (base:=base) T
 have ad:=zjt (P:=P) (w:=w) (base:=base) T
 refine T.K_keeps.ok zsp (fun vs H Q E h=>?_) (fun cdv A outer s H vs Q E hr h=>?_)
 ·obtain⟨t,m,n,v,rfl,_⟩:=h
  rfl
 obtain⟨t,m,n,v,rfl,hd,ok,hm,q⟩:=h
 have q0:=q H (Same.refl H)
 refine⟨_,(zae (zaz (zar zbp (zap (ixT (K:=K)) (pv 0) zad (fun _ _=>rfl)) zbq (zav _)) (zah (zao (zwb (zf8 (zaf ae hr.lv rfl T.K_has (zaa (pv 1) (zaa (zap (ixT (K:=K)) (pv 0) zad (fun _ _=>rfl)) zab)))) (zcn (zaf ae hr.lv rfl T.K_has (zaa (pv 1) (zaa (zap (ixT (K:=K)) (pv 0) zad (fun _ _=>rfl)) zab))))))) zas)
   (zae (zaz (zar zbp (zap (ixT (K:=K)) (pv 0) zad (fun _ _=>rfl)) zbq (zav _)) (zah (zao (zwb (zf8 (zaf ae hr.lv rfl T.K_has (zaa (pv 1) (zaa (zap (ixT (K:=K)) (pv 0) zad (fun _ _=>rfl)) zab)))) (zcn (zf8 (zaf ae hr.lv rfl T.K_has (zaa (pv 1) (zaa (zap (ixT (K:=K)) (pv 0) zad (fun _ _=>rfl)) zab)))))))) zas)
   (zae (zaz (zar zbp (zap (ixT (K:=K)) (pv 0) zad (fun _ _=>rfl)) zbq (zav _)) (zah (zao (zb2 zjr (zan (zg8 rfl) rfl T.m_sum PyProof.Rows.boot_sum (zaa (zdo (N':=["k", "number", "some"]) (n:=2) (kp:=[1]) rfl (piT (K:=K) (zap (ixT (K:=K)) (pv 0) zad (fun _ _=>rfl))) rfl rfl rfl (fun _ _ _ _ _=>(pgT (K:=K) (n:=2) rfl (za8 (zaw (i:=0) (of_decide_eq_true rfl) rfl (Or.inl rfl)) (za8 (zaw (i:=1) (of_decide_eq_true rfl) rfl (Or.inl rfl)) zdm)))) (fun _ _ _ _ _=>(zbz (za9 (zaf ae hr.lv rfl T.K_has (zaa (pv 2) (zaa (pv 0) zab)))))) (fun _ _ _ _ _=>(pv 1))) zab)) (zap (ixT (K:=K)) (pv 0) zad (fun _ _=>rfl)) (zav _)))) zas)
   (zah (zao (zaf ad hr.lv rfl T.K_keeps_bough (zaa (pv 0) (zaa (pv 1) zab)))))))),?_⟩
 cases t with
 |needs x y=>
  obtain⟨p,rfl,hp⟩:=zjn hd
  refine⟨_,rfl,p,_,_,_,rfl,rfl,sqT hp,at0,rfl,_,rfl,?_⟩
  refine zfz rfl ?_
  refine⟨_,rfl,_,rfl,p,_,_,_,rfl,rfl,sqT hp,at1,_,_,rfl,_,rfl,_,rfl,?_⟩
  rw[zbl]
  have q1:Q (.bl (!n.testBit x||n.testBit y)) H:=q0
  refine zbn (fun c=>?_) (fun c=>?_)
  ·rw[c,Bool.true_or] at q1
   exact q1
  ·refine⟨_,rfl,_,rfl,p,_,_,_,rfl,rfl,sqT hp,at2,_,_,rfl,?_⟩
   rw[zbl]
   rw[Bool.eq_false_iff.mpr c,Bool.false_or] at q1
   exact q1
 |bans x y=>
  obtain⟨p,rfl,hp⟩:=zjn hd
  refine⟨_,rfl,p,_,_,_,rfl,rfl,sqT hp,at0,rfl,_,rfl,?_⟩
  refine zb5 zjo ?_
  refine⟨_,rfl,p,_,_,_,rfl,rfl,sqT hp,at0,rfl,_,rfl,?_⟩
  refine zfz rfl ?_
  refine⟨_,rfl,_,rfl,p,_,_,_,rfl,rfl,sqT hp,at1,_,_,rfl,_,rfl,_,rfl,?_⟩
  rw[zbl]
  have q1:Q (.bl (!n.testBit x||!n.testBit y)) H:=q0
  refine zbn (fun c=>?_) (fun c=>?_)
  ·rw[c,Bool.true_or] at q1
   exact q1
  ·refine⟨_,rfl,_,rfl,p,_,_,_,rfl,rfl,sqT hp,at2,_,_,rfl,_,rfl,?_⟩
   rw[zbl]
   rw[Bool.eq_false_iff.mpr c,Bool.false_or] at q1
   exact q1
 |most top ps=>
  obtain⟨p,pq,xs,rfl,hp,hq,af⟩:=zq6 hd
  have lx:xs.length=ps.length:=by rw[←af.length,List.length_map]
  have few:ps.length≤m:=ok.2.2.2
  refine⟨_,rfl,p,_,_,_,rfl,rfl,sqT hp,at0,rfl,_,rfl,?_⟩
  refine zb5 zkh ?_
  refine⟨_,rfl,p,_,_,_,rfl,rfl,sqT hp,at0,rfl,_,rfl,?_⟩
  refine zb5 zlv ?_
  refine⟨_,rfl,p,_,_,_,rfl,rfl,sqT hp,at0,rfl,_,rfl,?_⟩
  refine zfz rfl ?_
  refine⟨_,rfl,p,_,_,_,rfl,rfl,sqT hp,at2,pq,rfl,⟨_,sqT hq⟩,?_⟩
  refine zey (K:=K) (a:=pq) (xs:=xs) (fun i ys σ H2=>(∃v v',σ=[v,v',some (.int n)])∧H2=H∧i≤ps.length∧ys=(((ps.take i).filter fun p=>n.testBit p.1).map (·.2)).map V.int) ⟨⟨none,none,rfl⟩,rfl,Nat.zero_le _,rfl⟩ (fun i ys σ H2 hi pv=>?_) (fun i ys σ H2 hi pv=>?_) (fun i x ys σ H2 hx pv=>?_) (fun ys σ H2 pv l hl=>?_)
  ·obtain⟨_,_,h1,rfl⟩:=pv
   rw[List.length_map,List.length_map]
   refine small (Nat.le_trans (List.length_filter_le _ _) ?_)
   rw[List.length_take]
   omega
  ·rw[pv.2.1]
   exact sqT hq
  ·obtain⟨⟨v,v',rfl⟩,rfl,h1,rfl⟩:=pv
   obtain⟨pr,r,ag,rfl,ai⟩:=zjm af hx
   have hj:i<ps.length:=(List.getElem?_eq_some_iff.mp ag).1
   have ee:=PySem.take_succ_filter (fun p:Nat×Int=>n.testBit p.1) ps i pr ag
   refine⟨r,_,rfl,sqT ai,rfl,_,_,rfl,_,_,rfl,rfl,?_⟩
   refine⟨_,rfl,_,rfl,_,_,rfl,_,rfl,?_⟩
   rw[zbl]
   refine zbn (fun c=>?_) (fun c=>?_)
   ·refine⟨_,rfl,⟨_,_,rfl⟩,rfl,hj,?_⟩
    rw[ee,if_pos c,List.map_append,List.map_append]
    rfl
   ·refine⟨⟨_,_,rfl⟩,rfl,hj,?_⟩
    rw[ee,if_neg c,List.append_nil]
  ·obtain⟨_,rfl,_,rfl⟩:=pv
   have sm:=zag hl (.lst ((((ps.take xs.length).filter fun p=>n.testBit p.1).map (·.2)).map V.int))
   refine⟨l,_,rfl,SqL.of zac,_,rfl,p,_,_,_,rfl,rfl,sqT (sm _ _ hp),at1,_,_,rfl,rfl,?_⟩
   have q1:=q _ sm
   have e:(Tie.most top ps).keep n=decide ((((ps.take xs.length).filter fun p=>n.testBit p.1).map (·.2)).sum≤top):=by
    rw[lx,List.take_length]
    rfl
   rw[e] at q1
   exact q1
 |bough u lo hi ks=>
  obtain⟨p,pk,e,hp,aj⟩:=zc6 hd
  have ah:Tie.BoughOkW m u lo hi ks:=ok
  have few:=ah.few
  subst e
  refine⟨_,rfl,p,_,_,_,rfl,rfl,sqT hp,at0,rfl,_,rfl,?_⟩
  refine zb5 int_str ?_
  refine⟨_,rfl,p,_,_,_,rfl,rfl,sqT hp,at0,rfl,_,rfl,?_⟩
  refine zb5 int_str ?_
  refine⟨_,rfl,p,_,_,_,rfl,rfl,sqT hp,at0,rfl,_,rfl,?_⟩
  refine zb5 int_str ?_
  exact⟨_,rfl,_,rfl,u,lo,hi,ks,n,_,rfl,hd,by omega,q⟩
theorem zmy(T:Txt K mg a d):FnOk P w K mg base CX0 2 a.f_every_tie d.f_every_tie ["wood"] zve:=by
 have ad:=zna (P:=P) (w:=w) (base:=base) T
 refine T.K_every_tie.ok zmj (fun vs H Q E h=>?_) (fun cdv A outer s H vs Q E hr h=>?_)
 ·obtain⟨wd,m,ts,rfl,_⟩:=h
  rfl
 obtain⟨wd,m,ts,rfl,W,q⟩:=h
 have ae:(2:Int)^62=4611686018427387904:=by decide
 obtain⟨xs,ys,WA,dn⟩:=W.ex
 have few:=W.few
 have ln:ts.length=xs.length+ys.length:=by
  have:=dn.length
  rw[List.length_map,List.length_append] at this
  exact this
 refine⟨_,(zah (zao (za4 (zg7 rfl) rfl T.m_list PyProof.Rows.boot_list (zaa (za4 zrb rfl T.m_range PyProof.Rows.boot_range (zaa (zaf ad hr.lv rfl T.K_many_ties (zaa (pv 0) zab)) zab)) zab)))),?_⟩
 refine⟨_,rfl,wd,m,xs,ys,rfl,WA,_,rfl,fun rp af=>?_⟩
 refine⟨rp,0,_,rfl,zac,by rw[ae];omega,by rw[ae];omega,by rw[ae];omega,by rw[ae];omega,by omega,fun l hl=>?_⟩
 have e:((List.range' 0 ((xs.length:Int)+(ys.length:Int)-0).toNat).map fun i:Nat=>V.int (0+(i:Int)))=(List.range ts.length).map fun i:Nat=>V.int (i:Int):=by
  have e1:((xs.length:Int)+(ys.length:Int)-0).toNat=ts.length:=by omega
  rw[e1,List.range_eq_range']
  simp
 rw[e]
 have s1:=(zag af (.rng 0 ((xs.length:Int)+(ys.length:Int)))).trans (zag hl (.lst ((List.range ts.length).map fun i:Nat=>V.int (i:Int))))
 exact q l _ s1 ((zag af (.rng 0 ((xs.length:Int)+(ys.length:Int)))).free hl) zac
theorem zgl(T:Txt K mg a d):FnOk P w K mg base CX0 3 a.f_sure_broken_bough d.f_sure_broken_bough ["bough", "yes", "no"] (zvs Tie.sb):=by
 have af:=zew (P:=P) (w:=w) (base:=base) T
 have ad:=zel (P:=P) (w:=w) (base:=base) T
 refine T.K_sure_broken_bough.ok sc_sure_broken_bough (fun vs H Q E h=>?_) (fun cdv A outer s H vs Q E hr h=>?_)
 ·obtain⟨u,lo,hi,ks,m,y,n,v,rfl,_⟩:=h
  rfl
 obtain⟨u,lo,hi,ks,m,y,n,v,rfl,hd,ok,hm,q⟩:=h
 obtain⟨p,pk,rfl,hp,ak⟩:=zc6 hd
 have few:=ok.few
 have aj:∃t,PSs (zdw CX0 P w K mg base ["bough", "yes", "no", "least", "greatest", "some_with_up", "some_without_up"] "sure_broken_bough" (zai za3) a.f_sure_broken_bough cdv A outer s H E).nox ((zbe za3).drop 4) t∧∀(v3 v4:Option V)(b5 b6:Bool)(H1:Hp),Same H H1→(!b5&&!b6)=(Tie.bough u lo hi ks).sb y n→t { nx:=fun _ H'=>Q .non H',rt:=Q } [some (.ref p),some (.int y),some (.int n),v3,v4,some (.bl b5),some (.bl b6)] H1:=by
  refine⟨_,(zah (zao (zco (zf8 (pv 5)) (zcn (zf8 (pv 6)))))),?_⟩
  intro v3 v4 b5 b6 H1 s1 e
  have q1:=q H1 s1
  rw[←e] at q1
  refine⟨_,rfl,_,rfl,_,rfl,?_⟩
  refine zbn (fun c=>?_) (fun c=>?_)
  ·rw[c,Bool.true_and] at q1
   exact⟨_,rfl,_,rfl,q1⟩
  ·rw[Bool.eq_false_iff.mpr c,Bool.false_and] at q1
   exact q1
 obtain⟨t4,h4,r4⟩:=aj
 have ah:∃t,PSs (zdw CX0 P w K mg base ["bough", "yes", "no", "least", "greatest", "some_with_up", "some_without_up"] "sure_broken_bough" (zai za3) a.f_sure_broken_bough cdv A outer s H E).nox ((zbe za3).drop 3) t∧∀(g:Int)(b5:Bool)(H1:Hp),Same H H1→g=(ks.length:Int)-cnt ks n→b5=(!n.testBit u&&(decide ((cnt ks y:Int)≤hi)&&decide (lo≤g)))→t { nx:=fun _ H'=>Q .non H',rt:=Q } [some (.ref p),some (.int y),some (.int n),some (.int (cnt ks y:Nat)),some (.int g),some (.bl b5),none] H1:=by
  refine⟨_,(zae (zax (i:=6) sc_sure_broken_bough.nd rfl (Or.inl rfl) (zco (zf8 (zaf af hr.lv rfl T.K_has (zaa (pv 1) (zaa (zap (ixT (K:=K)) (pv 0) zad (fun _ _=>rfl)) zab)))) (zcn (zb2 zbp (pv 3) zad (zav _)))))
   h4),?_⟩
  intro g b5 H1 s1 eg e5
  have ae:=s1 _ _ hp
  refine⟨_,rfl,_,rfl,p,_,_,_,rfl,rfl,sqT ae,at0,_,_,rfl,_,rfl,_,rfl,?_⟩
  rw[zbl]
  refine zbn (fun c=>?_) (fun c=>?_)
  ·refine⟨_,rfl,rfl,?_⟩
   refine r4 _ _ _ _ _ s1 ?_
   rw[e5,eg,zpb]
   show _=(!_&&!(!y.testBit u&&decide (cnt ks y=0)))
   rw[c,Bool.true_and]
  ·refine r4 _ _ _ _ _ s1 ?_
   rw[e5,eg]
   show _=(!_&&!(!y.testBit u&&decide (cnt ks y=0)))
   rw[Bool.eq_false_iff.mpr c,Bool.false_and]
 obtain⟨t3,h3,r3⟩:=ah
 have ai:∃t,PSs (zdw CX0 P w K mg base ["bough", "yes", "no", "least", "greatest", "some_with_up", "some_without_up"] "sure_broken_bough" (zai za3) a.f_sure_broken_bough cdv A outer s H E).nox ((zbe za3).drop 2) t∧∀(g:Int)(H1:Hp),Same H H1→g=(ks.length:Int)-cnt ks n→t { nx:=fun _ H'=>Q .non H',rt:=Q } [some (.ref p),some (.int y),some (.int n),some (.int (cnt ks y:Nat)),some (.int g),none,none] H1:=by
  refine⟨_,(zae (zax (i:=5) sc_sure_broken_bough.nd rfl (Or.inl rfl) (zco (zf8 (zaf af hr.lv rfl T.K_has (zaa (pv 2) (zaa (zap (ixT (K:=K)) (pv 0) zad (fun _ _=>rfl)) zab)))) (zco (zb2 zjr (pv 3) (zap (ixT (K:=K)) (pv 0) zad (fun _ _=>rfl)) (zav _)) (zcn (zb2 zjr (zap (ixT (K:=K)) (pv 0) zad (fun _ _=>rfl)) (pv 4) (zav _))))))
   h3),?_⟩
  intro g H1 s1 eg
  have ae:=s1 _ _ hp
  refine⟨_,rfl,_,rfl,p,_,_,_,rfl,rfl,sqT ae,at0,_,_,rfl,_,rfl,_,rfl,?_⟩
  rw[zbl]
  refine zbn (fun c=>?_) (fun c=>?_)
  ·refine⟨_,rfl,_,rfl,p,_,_,_,rfl,rfl,sqT ae,at2,_,_,rfl,rfl,_,rfl,?_⟩
   refine zbn (fun c2=>?_) (fun c2=>?_)
   ·refine⟨_,rfl,p,_,_,_,rfl,rfl,sqT ae,at1,_,rfl,_,_,rfl,rfl,?_⟩
    exact r3 _ _ _ s1 eg (by rw[c,Bool.true_and,c2,Bool.true_and])
   ·exact r3 _ _ _ s1 eg (by rw[c,Bool.true_and,Bool.eq_false_iff.mpr c2,Bool.false_and])
  ·exact r3 _ _ _ s1 eg (by rw[Bool.eq_false_iff.mpr c,Bool.false_and])
 obtain⟨t2,h2,r2⟩:=ai
 refine⟨_,(zae (zax (i:=3) sc_sure_broken_bough.nd rfl (Or.inl rfl) (zaf ad hr.lv rfl T.K_count_in (zaa (zap (ixT (K:=K)) (pv 0) zad (fun _ _=>rfl)) (zaa (pv 1) zab))))
   (zae (zax (i:=4) sc_sure_broken_bough.nd rfl (Or.inl rfl) (za6 zge (zan (zb9 (K:=K)) rfl T.m_len PySem.boot_len (zaa (zap (ixT (K:=K)) (pv 0) zad (fun _ _=>rfl)) zab)) (zaf ad hr.lv rfl T.K_count_in (zaa (zap (ixT (K:=K)) (pv 0) zad (fun _ _=>rfl)) (zaa (pv 2) zab)))))
   h2)),?_⟩
 refine⟨_,rfl,p,_,_,_,rfl,rfl,sqT hp,at3,_,rfl,pk,ks,y,rfl,ak,by omega,fun H1 s1=>?_⟩
 have ae:=s1 _ _ hp
 have ag:=s1 _ _ ak
 refine⟨_,rfl,p,_,_,_,rfl,rfl,sqT ae,at3,pk,_,rfl,.inr (sqT ag),?_⟩
 refine⟨_,rfl,p,_,_,_,rfl,rfl,sqT ae,at3,_,rfl,pk,ks,n,rfl,ag,by omega,fun H2 s2=>?_⟩
 refine⟨_,_,rfl,rfl,?_⟩
 exact r2 _ _ (s1.trans s2) (by rw[List.length_map])
theorem zla(T:Txt K mg a d):FnOk P w K mg base CX0 2 a.f_least_sum d.f_least_sum ["pairs", "yes", "no"] (zsr zd6):=by
 have ad:=zew (P:=P) (w:=w) (base:=base) T
 refine T.K_least_sum.ok zl4 (fun vs H Q E h=>?_) (fun cdv A outer s H vs Q E hr h=>?_)
 ·obtain⟨pq,xs,ps,y,n,rfl,_⟩:=h
  rfl
 obtain⟨pq,xs,ps,y,n,rfl,hq,ae,few,q⟩:=h
 have lx:xs.length=ps.length:=by rw[←ae.length,List.length_map]
 refine⟨_,(zah (zao (zan (zg8 rfl) rfl T.m_sum PyProof.Rows.boot_sum (zaa (zdo (N':=["k", "number", "yes", "no"]) (n:=2) (kp:=[1,2]) rfl (zue (pv 0)) rfl rfl rfl (fun _ _ _ _ _=>(pgT (K:=K) (n:=2) rfl (za8 (zaw (i:=0) (of_decide_eq_true rfl) rfl (Or.inl rfl)) (za8 (zaw (i:=1) (of_decide_eq_true rfl) rfl (Or.inl rfl)) zdm)))) (fun _ _ _ _ _=>(zbz (PW.pt (zfu (za9 (zaf ad hr.lv rfl T.K_has (zaa (pv 2) (zaa (pv 0) zab)))) (ze1 (PW.pt (zhk (zar zo5 (pv 1) zad (zav _)) (zfm (zbt (za9 (zaf ad hr.lv rfl T.K_has (zaa (pv 3) (zaa (pv 0) zab))))))))))))) (fun _ _ _ _ _=>(pv 1))) zab)))),?_⟩
 refine⟨_,rfl,pq,rfl,?_⟩
 refine zwz (K:=K) (a:=pq) (xs:=xs) hq (fun i ys σ H2=>(∃v v',σ=[v,v',some (.int y),some (.int n)])∧H2=H∧i≤ps.length∧ys=(((ps.take i).filter fun p=>y.testBit p.1||(decide (p.2<0)&&!n.testBit p.1)).map (·.2)).map V.int) ⟨⟨none,none,rfl⟩,rfl,Nat.zero_le _,rfl⟩ (fun i ys σ H2 hi pv=>?_) (fun i ys σ H2 hi pv=>?_) (fun i x ys σ H2 hx pv=>?_) (fun ys σ H2 pv l hl=>?_)
 ·obtain⟨_,_,h1,rfl⟩:=pv
  rw[List.length_map,List.length_map]
  refine small (Nat.le_trans (List.length_filter_le _ _) ?_)
  rw[List.length_take]
  omega
 ·rw[pv.2.1]
 ·obtain⟨⟨v,v',rfl⟩,rfl,h1,rfl⟩:=pv
  obtain⟨pr,r,af,rfl,ah⟩:=zjm ae hx
  have hj:i<ps.length:=(List.getElem?_eq_some_iff.mp af).1
  have ee:=PySem.take_succ_filter (fun p:Nat×Int=>y.testBit p.1||(decide (p.2<0)&&!n.testBit p.1)) ps i pr af
  have yes:(y.testBit pr.1||(decide (pr.2<0)&&!n.testBit pr.1))=true→((((ps.take i).filter fun p=>y.testBit p.1||(decide (p.2<0)&&!n.testBit p.1)).map (·.2)).map V.int)++[V.int pr.2]=(((ps.take (i+1)).filter fun p=>y.testBit p.1||(decide (p.2<0)&&!n.testBit p.1)).map (·.2)).map V.int:=fun c=>by
   rw[ee,if_pos c,List.map_append,List.map_append]
   rfl
  have ag:(y.testBit pr.1||(decide (pr.2<0)&&!n.testBit pr.1))=false→((((ps.take i).filter fun p=>y.testBit p.1||(decide (p.2<0)&&!n.testBit p.1)).map (·.2)).map V.int)=(((ps.take (i+1)).filter fun p=>y.testBit p.1||(decide (p.2<0)&&!n.testBit p.1)).map (·.2)).map V.int:=fun c=>by
   rw[ee,if_neg (by rw[c];exact Bool.false_ne_true),List.append_nil]
  refine⟨r,_,rfl,sqT ah,rfl,_,_,rfl,_,_,rfl,rfl,?_⟩
  refine⟨_,rfl,_,rfl,_,_,rfl,_,rfl,?_⟩
  rw[zbl]
  refine zbn (fun c=>?_) (fun c=>?_)
  ·refine zpq ?_
   exact⟨_,rfl,⟨_,_,rfl⟩,rfl,hj,yes (by rw[c,Bool.true_or])⟩
  ·have c':=Bool.eq_false_iff.mpr c
   refine⟨_,rfl,_,_,rfl,rfl,_,rfl,?_⟩
   refine zbn (fun c2=>?_) (fun c2=>?_)
   ·refine⟨_,rfl,_,rfl,_,_,rfl,_,rfl,?_⟩
    rw[zbl]
    refine zbn (fun c3=>?_) (fun c3=>?_)
    ·exact⟨_,rfl,⟨_,_,rfl⟩,rfl,hj,yes (by rw[c',Bool.false_or,c2,Bool.true_and,c3])⟩
    ·exact⟨⟨_,_,rfl⟩,rfl,hj,ag (by rw[c',Bool.false_or,c2,Bool.true_and,Bool.eq_false_iff.mpr c3])⟩
   ·refine zc5 ?_
    exact⟨⟨_,_,rfl⟩,rfl,hj,ag (by rw[c',Bool.false_or,Bool.eq_false_iff.mpr c2,Bool.false_and])⟩
 ·obtain⟨_,rfl,_,rfl⟩:=pv
  refine⟨l,_,rfl,SqL.of zac,?_⟩
  have q1:=q _ (zag hl (.lst ((((ps.take xs.length).filter fun p=>y.testBit p.1||(decide (p.2<0)&&!n.testBit p.1)).map (·.2)).map V.int)))
  have e:zd6 ps y n=(((ps.take xs.length).filter fun p=>y.testBit p.1||(decide (p.2<0)&&!n.testBit p.1)).map (·.2)).sum:=by
   rw[lx,List.take_length]
   rfl
  rw[e] at q1
  exact q1
theorem zm2(T:Txt K mg a d):FnOk P w K mg base CX0 2 a.f_least_sum d.f_least_sum ["pairs", "yes", "no"] (zwk zd6):=(zla T).imp fun _ _ _ _=>zr1
theorem zjx(T:Txt K mg a d):FnOk P w K mg base CX0 4 a.f_sure_broken d.f_sure_broken ["tie", "yes", "no"] (zxa Tie.sb):=by
 have af:=zew (P:=P) (w:=w) (base:=base) T
 have ae:=zm2 (P:=P) (w:=w) (base:=base) T
 have ad:=zgl (P:=P) (w:=w) (base:=base) T
 refine T.K_sure_broken.ok zj3 (fun vs H Q E h=>?_) (fun cdv A outer s H vs Q E hr h=>?_)
 ·obtain⟨t,m,y,n,v,rfl,_⟩:=h
  rfl
 obtain⟨t,m,y,n,v,rfl,hd,ok,hm,q⟩:=h
 have q0:=q H (Same.refl H)
 refine⟨_,(zae (zaz (zar zbp (zap (ixT (K:=K)) (pv 0) zad (fun _ _=>rfl)) zbq (zav _)) (zah (zao (zco (zaf af hr.lv rfl T.K_has (zaa (pv 1) (zaa (zap (ixT (K:=K)) (pv 0) zad (fun _ _=>rfl)) zab))) (zcn (zaf af hr.lv rfl T.K_has (zaa (pv 2) (zaa (zap (ixT (K:=K)) (pv 0) zad (fun _ _=>rfl)) zab))))))) zas)
   (zae (zaz (zar zbp (zap (ixT (K:=K)) (pv 0) zad (fun _ _=>rfl)) zbq (zav _)) (zah (zao (zco (zaf af hr.lv rfl T.K_has (zaa (pv 1) (zaa (zap (ixT (K:=K)) (pv 0) zad (fun _ _=>rfl)) zab))) (zcn (zaf af hr.lv rfl T.K_has (zaa (pv 1) (zaa (zap (ixT (K:=K)) (pv 0) zad (fun _ _=>rfl)) zab))))))) zas)
   (zae (zaz (zar zbp (zap (ixT (K:=K)) (pv 0) zad (fun _ _=>rfl)) zbq (zav _)) (zah (zao (zb2 ze7 (zaf ae hr.lv rfl T.K_least_sum (zaa (zap (ixT (K:=K)) (pv 0) zad (fun _ _=>rfl)) (zaa (pv 1) (zaa (pv 2) zab)))) (zap (ixT (K:=K)) (pv 0) zad (fun _ _=>rfl)) (zav _)))) zas)
   (zah (zao (zaf ad hr.lv rfl T.K_sure_broken_bough (zaa (pv 0) (zaa (pv 1) (zaa (pv 2) zab))))))))),?_⟩
 cases t with
 |needs x z=>
  obtain⟨p,rfl,hp⟩:=zjn hd
  refine⟨_,rfl,p,_,_,_,rfl,rfl,sqT hp,at0,rfl,_,rfl,?_⟩
  refine zfz rfl ?_
  refine⟨_,rfl,_,rfl,p,_,_,_,rfl,rfl,sqT hp,at1,_,_,rfl,_,rfl,?_⟩
  rw[zbl]
  have q1:Q (.bl (y.testBit x&&n.testBit z)) H:=q0
  refine zbn (fun c=>?_) (fun c=>?_)
  ·rw[c,Bool.true_and] at q1
   refine⟨_,rfl,_,rfl,p,_,_,_,rfl,rfl,sqT hp,at2,_,_,rfl,?_⟩
   rw[zbl]
   exact q1
  ·rw[Bool.eq_false_iff.mpr c,Bool.false_and] at q1
   exact q1
 |bans x z=>
  obtain⟨p,rfl,hp⟩:=zjn hd
  refine⟨_,rfl,p,_,_,_,rfl,rfl,sqT hp,at0,rfl,_,rfl,?_⟩
  refine zb5 zjo ?_
  refine⟨_,rfl,p,_,_,_,rfl,rfl,sqT hp,at0,rfl,_,rfl,?_⟩
  refine zfz rfl ?_
  refine⟨_,rfl,_,rfl,p,_,_,_,rfl,rfl,sqT hp,at1,_,_,rfl,_,rfl,?_⟩
  rw[zbl]
  have q1:Q (.bl (y.testBit x&&y.testBit z)) H:=q0
  refine zbn (fun c=>?_) (fun c=>?_)
  ·rw[c,Bool.true_and] at q1
   refine⟨_,rfl,_,rfl,p,_,_,_,rfl,rfl,sqT hp,at2,_,_,rfl,?_⟩
   rw[zbl]
   exact q1
  ·rw[Bool.eq_false_iff.mpr c,Bool.false_and] at q1
   exact q1
 |most top ps=>
  obtain⟨p,pq,xs,rfl,hp,hq,ag⟩:=zq6 hd
  have few:ps.length≤m:=ok.2.2.2
  refine⟨_,rfl,p,_,_,_,rfl,rfl,sqT hp,at0,rfl,_,rfl,?_⟩
  refine zb5 zkh ?_
  refine⟨_,rfl,p,_,_,_,rfl,rfl,sqT hp,at0,rfl,_,rfl,?_⟩
  refine zb5 zlv ?_
  refine⟨_,rfl,p,_,_,_,rfl,rfl,sqT hp,at0,rfl,_,rfl,?_⟩
  refine zfz rfl ?_
  refine⟨_,rfl,p,_,_,_,rfl,rfl,sqT hp,at2,_,rfl,_,rfl,pq,xs,ps,y,n,rfl,hq,ag,by omega,fun H1 s1=>?_⟩
  exact⟨_,rfl,p,_,_,_,rfl,rfl,sqT (s1 _ _ hp),at1,_,_,rfl,rfl,q H1 s1⟩
 |bough u lo hi ks=>
  obtain⟨p,pk,e,hp,ah⟩:=zc6 hd
  subst e
  refine⟨_,rfl,p,_,_,_,rfl,rfl,sqT hp,at0,rfl,_,rfl,?_⟩
  refine zb5 int_str ?_
  refine⟨_,rfl,p,_,_,_,rfl,rfl,sqT hp,at0,rfl,_,rfl,?_⟩
  refine zb5 int_str ?_
  refine⟨_,rfl,p,_,_,_,rfl,rfl,sqT hp,at0,rfl,_,rfl,?_⟩
  refine zb5 int_str ?_
  exact⟨_,rfl,_,rfl,_,rfl,u,lo,hi,ks,m,y,n,_,rfl,hd,ok,hm,q⟩
theorem zgc(T:Txt K mg a d):FnOk P w K mg base CX0 5 a.f_first_sure_broken d.f_first_sure_broken ["wood", "ties", "yes", "no"] zrl:=by
 have ae:=zr6 (P:=P) (w:=w) (base:=base) T
 have ad:=zjx (P:=P) (w:=w) (base:=base) T
 refine T.K_first_sure_broken.ok sc_first_sure_broken (fun vs H Q E h=>?_) (fun cdv A outer s H vs Q E hr h=>?_)
 ·obtain⟨wd,m,ts,tl,il,y,n,rfl,_⟩:=h
  rfl
 obtain⟨wd,m,ts,tl,il,y,n,rfl,W,ai,aj,q⟩:=h
 have m9:=W.m9
 refine⟨_,(zae (zde PassesOwn.never rfl (piL (K:=K) (pv 1)) (zaw (i:=4) sc_first_sure_broken.nd rfl (Or.inl rfl)) (zah (zaz (za9 (zaf ad hr.lv rfl T.K_sure_broken (zaa (zaf ae hr.lv rfl T.K_tie_at (zaa (pv 0) (zaa (pv 4) zab))) (zaa (pv 2) (zaa (pv 3) zab))))) (zah (zao (pv 4))) zas)))
   (zah (zao zhv))),?_⟩
 refine⟨_,rfl,tl,rfl,⟨_,SqL.of ai⟩,?_⟩
 refine zh4 (K:=K) (a:=tl) (xs:=zaj il) (fun i σ H2=>(∃v,σ=[some (.ref wd),some (.ref tl),some (.int y),some (.int n),v])∧Same H H2∧(il.take i).find? (fun i=>zjy ts i y n)=none) ⟨⟨_,rfl⟩,Same.refl _,rfl⟩ (fun i σ H2 _ z=>SqL.of (z.2.1 _ _ ai)) ?_ ?_
 ·rintro i x σ H2 hx ⟨⟨v,rfl⟩,s2,hb⟩
  rw[List.getElem?_map] at hx
  obtain⟨t,ht,rfl⟩:=Option.map_eq_some_iff.mp hx
  have af:=aj t (List.mem_of_getElem? ht)
  have W2:=W.same s2
  obtain⟨xs,ys,WA,dn⟩:=W2.ex
  have ag:ts[t]?=some ts[t]:=List.getElem?_eq_getElem af
  obtain⟨v2,ak,hd⟩:=DnL.get' dn (i:=t) (d:=ts[t].toD) (by rw[List.getElem?_map,ag];rfl)
  have ah:zjy ts t y n=ts[t].sb y n:=by unfold zjy;rw[ag]
  refine⟨_,rfl,_,rfl,wd,m,xs,ys,t,v2,rfl,WA,ak,?_⟩
  refine⟨_,rfl,_,rfl,ts[t],m,y,n,v2,rfl,hd,W.ok _ (List.getElem_mem af),by omega,fun H3 s3=>?_⟩
  refine⟨_,rfl,?_⟩
  refine zbn (fun c=>?_) (fun c=>?_)
  ·have q1:=q H3 (s2.trans s3)
   have e:zbm ts il y n=some t:=by
    unfold zbm
    have el:il=il.take i++t::il.drop (i+1):=by
     obtain⟨hi,e⟩:=List.getElem?_eq_some_iff.mp ht
     rw[←e,List.getElem_cons_drop,List.take_append_drop]
    rw[el,List.find?_append,hb]
    simp[ah,c]
   rw[e] at q1
   exact⟨_,rfl,q1⟩
  ·refine⟨⟨_,rfl⟩,s2.trans s3,?_⟩
   rw[List.take_add_one,ht,Option.toList_some,List.find?_append,hb]
   simp[ah,c]
 ·rintro σ H2 ⟨⟨v,rfl⟩,s2,hb⟩
  have q1:=q H2 s2
  rw[List.length_map,List.take_length] at hb
  have e:zbm ts il y n=none:=hb
  rw[e] at q1
  exact q1
theorem zl1(T:Txt K mg a d)(f:Nat){p:Addr}{C:Hp→Prop}{m:Nat}{leaf:Nat→Nat→Option PyData}{fdL:FuncData}{pl:List Str}{φ:Heap→Prop}
  (L_leaf_at:FnOk P w K mg base CX0 7 p fdL pl (zxo C leaf)) (LB_leaf_at:Binds K fdL pl []) (LP_leaf_at:∀h:Heap,φ h→∃o fd',h.get? p=some o∧o.data=.func fd') (hC:∀H H',Same H H'→C H→C H') (hCp:∀H,C H→H p=some (.ext φ))
  (G_told_tree:f≠0→FnOk P w K mg base CX0 (f+7) a.f_told_tree d.f_told_tree ["wood", "ties", "yes", "no", "leaf_at"] (zl8 (f-1) p C m leaf)):FnOk P w K mg base CX0 (f+8) a.f_told_tree d.f_told_tree ["wood", "ties", "yes", "no", "leaf_at"] (zl8 f p C m leaf):=by
 have ad:=zgc (P:=P) (w:=w) (base:=base) T
 have af:=zfx (P:=P) (w:=w) (base:=base) T
 have ae:=zec (P:=P) (w:=w) (base:=base) T
 refine T.K_told_tree.ok sc_told_tree (fun vs H Q E h=>?_) (fun cdv A outer s H vs Q E hr h=>?_)
 ·obtain⟨wd,ts,tl,il,y,n,rfl,_⟩:=h
  rfl
 obtain⟨wd,ts,tl,il,y,n,rfl,W,ak,ag,hf,c0,ah,q⟩:=h
 have m9:=W.m9
 obtain⟨R,r0,rs,re⟩:=ah
 have rest:∃t,PSs (zdw CX0 P w K mg base ["wood", "ties", "yes", "no", "leaf_at", "broken", "leaf", "k", "one", "other"] "told_tree" (zai zdq) a.f_told_tree cdv A outer s H E).nox ((zbe zdq).drop 5) t∧(∀(k:Nat)(r:List Nat)(v5 v6:Option V)(H1:Hp),Same H H1→zbb m y n=k::r→zbm ts il y n=none→leaf y n=none→t { nx:=fun _ H'=>Q .non H',rt:=Q } [some (.ref wd),some (.ref tl),some (.int y),some (.int n),some (.ref p),v5,v6,some (.int (k:Int)),none,none] H1):=by
  by_cases ao:f=0
  ·refine⟨zqa,zgy,?_⟩
   intro k r v5 v6 H1 s1 ho hb
   rw[ho,ao] at hf
   simp at hf
  ·have G_told_tree:=G_told_tree ao
   refine⟨_,(zae (zax (i:=8) sc_told_tree.nd rfl (Or.inl rfl) (zaf G_told_tree hr.lv rfl T.K_told_tree (zaa (pv 0) (zaa (pv 1) (zaa (zaf ae hr.lv rfl T.K_with_option (zaa (pv 2) (zaa (pv 7) zab))) (zaa (pv 3) (zaa (pv 4) zab)))))))
   (zae (zax (i:=9) sc_told_tree.nd rfl (Or.inl rfl) (zaf G_told_tree hr.lv rfl T.K_told_tree (zaa (pv 0) (zaa (pv 1) (zaa (pv 2) (zaa (zaf ae hr.lv rfl T.K_with_option (zaa (pv 3) (zaa (pv 7) zab))) (zaa (pv 4) zab)))))))
   (zah (zao (zbc (zaa zbq (zaa (pv 7) (zaa (pv 8) (zaa (pv 9) zab))))))))),?_⟩
   intro k r v5 v6 H1 s1 ho hb ap
   have hk:k∈zbb m y n:=by rw[ho];exact List.mem_cons_self
   have km:=(mem_open.mp hk).1
   have l1:=zfg hk
   have l2:=zfp hk
   refine⟨_,rfl,_,rfl,_,rfl,_,rfl,y,k,rfl,by omega,_,rfl,_,rfl,wd,ts,tl,il,y|||2^k,n,rfl,W.same s1,s1 _ _ ak,ag,by omega,hC _ _ s1 c0,⟨R,(rs y n k r0 hk).1,rs,re⟩,fun v1 H2 s2 d1=>?_⟩
   refine⟨_,rfl,_,rfl,_,rfl,_,rfl,_,rfl,n,k,rfl,by omega,_,rfl,wd,ts,tl,il,y,n|||2^k,rfl,W.same (s1.trans s2),(s1.trans s2) _ _ ak,ag,by omega,hC _ _ (s1.trans s2) c0,⟨R,(rs y n k r0 hk).2,rs,re⟩,fun v2 H3 s3 d2=>?_⟩
   refine⟨_,rfl,_,rfl,_,rfl,small (by show 4≤1000;decide),fun tp aj=>?_⟩
   have s4:=zag aj (.tup [.str ("split" : Str),.int (k:Int),v1,v2])
   refine q _ _ (((s1.trans s2).trans s3).trans s4) ?_
   obtain⟨f',rfl⟩:∃f',f=f'+1:=⟨f-1,by omega⟩
   rw[zi4 hb ap ho]
   exact⟨tp,_,rfl,zac,_,_,rfl,rfl,_,_,rfl,rfl,_,_,rfl,Dn.same (s3.trans s4) _ _ d1,_,_,rfl,Dn.same s4 _ _ d2,rfl⟩
 obtain⟨t4,h4,r4⟩:=rest
 refine⟨_,(zae (zax (i:=5) sc_told_tree.nd rfl (Or.inl rfl) (zaf ad hr.lv rfl T.K_first_sure_broken (zaa (pv 0) (zaa (pv 1) (zaa (pv 2) (zaa (pv 3) zab))))))
   (zae (zaz (zar zqq (pv 5) zhv (zav _)) (zah (zao (zbc (zaa zbq (zaa (pv 5) zab))))) zas)
   (zae (zax (i:=6) sc_told_tree.nd rfl (Or.inl rfl) (zt2 (i:=4) L_leaf_at hr.lv rfl (.inl rfl) LB_leaf_at LP_leaf_at (zaa (pv 2) (zaa (pv 3) zab))))
   (zae (zaz (zar zqq (pv 6) zhv (zav _)) (zah (zao (pv 6))) zas)
   (zae (zax (i:=7) sc_told_tree.nd rfl (Or.inl rfl) (zap (ixL (K:=K)) (zaf af hr.lv rfl T.K_open_options (zaa (zap (ixT (K:=K)) (pv 0) zad (fun _ _=>rfl)) (zaa (pv 2) (zaa (pv 3) zab)))) zad (fun _ _=>rfl)))
   h4))))),?_⟩
 refine⟨_,rfl,_,rfl,_,rfl,_,rfl,wd,m,ts,tl,il,y,n,rfl,W,ak,ag,fun H1 s1=>?_⟩
 obtain⟨o,ho⟩:∃o,zbm ts il y n=o:=⟨_,rfl⟩
 rw[ho]
 obtain⟨xs,ys,⟨tb,tc,hw,hb,hc⟩,dn⟩:=W.ex
 rcases o with _|t
 ·refine⟨_,rfl,rfl,_,rfl,?_⟩
  refine zkp rfl ?_
  refine⟨rfl,_,rfl,_,rfl,hCp _ (hC _ _ s1 c0),y,n,rfl,hC _ _ s1 c0,fun v H2 s2 lv=>?_⟩
  unfold zlm at lv
  cases hl:leaf y n with
  |some dd=>
   rw[hl] at lv
   obtain⟨dv,pp,rfl⟩:=lv
   refine⟨_,rfl,rfl,_,rfl,?_⟩
   refine zwe (by intro z;cases z) ?_
   refine⟨_,rfl,?_⟩
   refine q _ _ (s1.trans s2) ?_
   rw[zk0 ho hl]
   exact dv
  |none=>
   rw[hl] at lv
   subst lv
   refine⟨_,rfl,rfl,_,rfl,?_⟩
   refine zkp rfl ?_
   have am:=s1.trans s2
   refine⟨_,rfl,wd,_,_,_,rfl,rfl,sqT (am _ _ hw),at0,_,rfl,_,rfl,m,y,n,rfl,by omega,fun l H3 s3 nl al=>?_⟩
   obtain⟨ol,ai⟩:∃ol,zbb m y n=ol:=⟨_,rfl⟩
   rw[ai] at al
   rcases ol with _|⟨k,r⟩
   ·exact absurd hl (re y n r0 ho ai)
   ·refine⟨l,_,_,_,rfl,rfl,SqL.of al,at0,?_⟩
    exact r4 k r _ _ H3 (am.trans s3) ai ho hl
 ·refine⟨_,rfl,rfl,_,rfl,?_⟩
  refine zwe (by intro z;cases z) ?_
  refine⟨_,rfl,small (by show 2≤1000;decide),fun tp aj=>?_⟩
  have s2:=zag aj (.tup [.str ("broken" : Str),.int (t:Int)])
  refine q _ _ (s1.trans s2) ?_
  rw[zhw ho]
  exact⟨tp,_,rfl,zac,_,_,rfl,rfl,_,_,rfl,rfl,rfl⟩
theorem zh3(T:Txt K mg a d){p:Addr}{C:Hp→Prop}{m:Nat}{leaf:Nat→Nat→Option PyData}{fdL:FuncData}{pl:List Str}{φ:Heap→Prop}
  (L:FnOk P w K mg base CX0 7 p fdL pl (zxo C leaf)) (LB:Binds K fdL pl []) (LP:∀h:Heap,φ h→∃o fd',h.get? p=some o∧o.data=.func fd') (hC:∀H H',Same H H'→C H→C H') (hCp:∀H,C H→H p=some (.ext φ)):
  ∀f:Nat,FnOk P w K mg base CX0 (f+8) a.f_told_tree d.f_told_tree ["wood", "ties", "yes", "no", "leaf_at"] (zl8 f p C m leaf)
 |0=>zl1 T 0 L LB LP hC hCp fun h=>absurd rfl h
 |f+1=>zl1 T (f+1) L LB LP hC hCp fun _=>zh3 T L LB LP hC hCp f
def zpe:Sp:=fun vs H Q _=>∃(wd:Addr)(m:Nat)(ts:List Tie)(y n:Nat),vs=[.ref wd,.int y,.int n]∧WoodT H wd m ts∧∀(v:V)(H':Hp),Same H H'→zlm (zdn m) y n H' v→Q v H'
theorem zl3(T:Txt K mg a d):FnOk P w K mg base CX0 3 a.f_ware_leaf d.f_ware_leaf ["wood", "yes", "no"] zpe:=by
 have ad:=zfx (P:=P) (w:=w) (base:=base) T
 refine T.K_ware_leaf.ok zmr (fun vs H Q E h=>?_) (fun cdv A outer s H vs Q E hr h=>?_)
 ·obtain⟨wd,m,ts,y,n,rfl,_⟩:=h
  rfl
 obtain⟨wd,m,ts,y,n,rfl,W,q⟩:=h
 have m9:=W.m9
 refine⟨_,(zae (zaz (zar zbp (zan (zb9 (K:=K)) rfl T.m_len PySem.boot_len (zaa (zaf ad hr.lv rfl T.K_open_options (zaa (zap (ixT (K:=K)) (pv 0) zad (fun _ _=>rfl)) (zaa (pv 1) (zaa (pv 2) zab)))) zab)) zad (zav _)) (zah (zao (zbc (zaa zbq zab)))) zas)
   (zah (zao zhv))),?_⟩
 obtain⟨xs,ys,⟨tb,tc,hw,hb,hc⟩,dn⟩:=W.ex
 refine⟨_,rfl,wd,_,_,_,rfl,rfl,sqT hw,at0,_,rfl,_,rfl,m,y,n,rfl,by omega,fun l H2 s2 nl hl=>?_⟩
 refine⟨l,_,rfl,.inl (SqL.of hl),rfl,_,rfl,?_⟩
 rw[zpb,List.length_map]
 obtain⟨ol,ae⟩:∃ol,zbb m y n=ol:=⟨_,rfl⟩
 rw[ae]
 rcases ol with _|⟨k,r⟩
 ·refine zfz rfl ?_
  refine⟨small (by show 1≤1000;decide),fun tp af=>?_⟩
  have s3:=zag af (.tup [.str ("ware" : Str)])
  refine q _ _ (s2.trans s3) ?_
  unfold zlm zdn
  rw[if_pos ae]
  exact⟨⟨tp,_,rfl,zac,_,_,rfl,rfl,rfl⟩,tp,rfl⟩
 ·refine zb5 (by simp) ?_
  refine q _ _ s2 ?_
  unfold zlm zdn
  rw[if_neg (by rw[ae];simp)]
theorem zng(T:Txt K mg a d)(LB:zhn mg base a.c_cases_of a.t_cases_of)(f:Nat):FnOk P w K mg base CX0 (f+9) a.f_cases_of d.f_cases_of ["wood", "ties", "yes", "no"] (spT a.t_cases_of (ztv f)):=by
 refine T.K_cases_of.okC zn2 (fun vs H Q E h=>?_) (fun cdv A outer s H vs Q E ai hr h=>?_)
 ·obtain⟨_,wd,m,ts,tl,il,y,n,rfl,_⟩:=h
  rfl
 obtain⟨tb,wd,m,ts,tl,il,y,n,rfl,W,ak,aj,hf,q⟩:=h
 have LC:((zdw CX0 P w K mg base ["wood", "ties", "yes", "no"] "cases_of" (zai zcf) a.f_cases_of cdv A outer s H E).nox).env.code=.ref a.c_cases_of:=ai.symm.trans T.code_cases_of
 have LF:∀y∈(zo3 (zqi (zx8 (zbe zcf)[0]?))).names,y.2=.free→∃c,((zdw CX0 P w K mg base ["wood", "ties", "yes", "no"] "cases_of" (zai zcf) a.f_cases_of cdv A outer s H E).nox).env.cells.lookup y.1=some c:=by
  intro y hy hz
  have e:y=(("wood" : Str),NameKind.free):=by
   have h:=(by decide +kernel:∀y∈(zo3 (zqi (zx8 (zbe zcf)[0]?))).names,y.2=NameKind.free→y=(("wood" : Str),NameKind.free))
   exact h y hy hz
  subst e
  exact⟨_,rfl⟩
 refine⟨_,(zah (zao (zt0 (k:=f+8) hr.lv rfl T.K_told_tree.g T.K_told_tree.kp T.K_told_tree.B (fun _=>rfl) (zaa (pv 0) (zaa (pv 1) (zaa (pv 2) (zaa (pv 3) (zaa (zxn LC LB rfl LF) zab)))))))),?_⟩
 refine⟨_,rfl,_,rfl,_,rfl,_,rfl,tb,fun p c' H1 np s1 hp hc ae ci _ _=>?_⟩
 obtain⟨cw,u,e1,r1,ic⟩:=ci 0 "wood" (.ref wd) rfl rfl rfl
 have af:((zdw CX0 P w K mg base ["wood", "ties", "yes", "no"] "cases_of" (zai zcf) a.f_cases_of cdv A outer s H E).nox).env.cells=[(("wood" : Str),cw)]:=by
  have z:cw=s.heap.objs.size+1:=(Option.some.inj (show some (s.heap.objs.size+1)=some cw from e1)).symm
  rw[z]
  rfl
 have ad:=zl3 (P:=P) (w:=w) (base:=ae) T
 have L:=zw8 (P:=P) (w:=w) (K:=K) (mg:=mg) (base:=ae) (ps:=["come", "gone"]) (fr:=["wood"]) (fv:=[.ref wd]) (k:=6) (leaf:=zdn m) (fun H=>WoodT H wd m ts) hp ⟨rfl,rfl,rfl,by decide +kernel,by decide +kernel,by decide +kernel,by decide +kernel⟩
  (fun x cc h=>by
   have h':=zbj LF h
   rw[af] at h'
   obtain⟨_,rfl⟩:=zhg h'
   exact⟨_,ic⟩)
  (fun x y cc h1 h2=>by
   have ah:=zbj LF h1
   have ag:=zbj LF h2
   rw[af] at ah ag
   rw[(zhg ah).1,(zhg ag).1])
  (fun y hy hz=>by
   obtain⟨c,hc⟩:=LF y hy hz
   exact⟨c,zg0 LF (by rw[←hz];exact hy) hc⟩)
  (fun i x v h1 h2=>by
   cases i with
   |zero=>
    cases h1
    cases h2
    exact⟨cw,u,zg0 LF (by decide +kernel) e1,r1,ic⟩
   |succ i=>cases h1)
  rfl (fun _ _ _=>rfl) rfl
  (fun q A outer s H y n Q hr W0 q'=>⟨_,zmf ad (hr.mono (by decide)) rfl T.K_ware_leaf.g T.K_ware_leaf.kp T.K_ware_leaf.B .nil zta (zaa (pv 2) (zaa (pv 0) (zaa (pv 1) zab))),⟨_,rfl,_,rfl,_,rfl,wd,m,ts,y,n,rfl,W0,q'⟩⟩)
 have G:=zh3 (P:=P) (w:=w) (base:=ae) (m:=m) T L (.all fun us hl=>match us,hl with|[_,_],_=>rfl) zvm (fun H H' s h=>⟨h.1.same s,s _ _ h.2.1,s _ _ h.2.2⟩) (fun H h=>h.2.1) f
 refine⟨_,G,wd,ts,tl,il,y,n,rfl,W.same s1,s1 _ _ ak,aj,hf,⟨W.same s1,hp,hc⟩,EndsR.all (fun y n hb ho=>by unfold zdn;rw[if_pos ho];simp) _ _,fun v H' s2 dv=>q v H' (s1.trans s2) ?_⟩
 rw[←zhp f y n hf]
 exact dv
theorem zut(T:Txt K mg a d)(LB:zhn mg base a.c_cases_of a.t_cases_of):FnOk P w K mg base CX0 19 a.f_cases d.f_cases ["wood", "yes", "no"] (spT a.t_cases_of zv1):=by
 have ae:=zng (P:=P) (w:=w) (base:=base) T LB 9
 have ad:=zmy (P:=P) (w:=w) (base:=base) T
 refine T.K_cases.ok zum (fun vs H Q E h=>?_) (fun cdv A outer s H vs Q E hr h=>?_)
 ·obtain⟨_,wd,m,ts,y,n,rfl,_⟩:=h
  rfl
 obtain⟨tb,wd,m,ts,y,n,rfl,W,m9,q⟩:=h
 have of:=zn8 m y n
 refine⟨_,(zah (zao (zaf ae hr.lv rfl T.K_cases_of (zaa (pv 0) (zaa (zaf ad hr.lv rfl T.K_every_tie (zaa (pv 0) zab)) (zaa (pv 1) (zaa (pv 2) zab))))))),?_⟩
 refine⟨_,rfl,_,rfl,wd,m,ts,rfl,W,fun l H1 s1 nl hl=>?_⟩
 refine⟨_,rfl,_,rfl,s1.tab tb,wd,m,ts,l,znx ts,y,n,rfl,W.same s1,hl,fun i hi=>List.mem_range.mp hi,by omega,fun v H2 s2 dv=>?_⟩
 exact q v H2 (s1.trans s2) dv
theorem zg9(T:Txt K mg a d)(f:Nat)(G_wares_in:f≠0→FnOk P w K mg base CX0 (f+1) a.f_wares_in d.f_wares_in ["yes", "tree"] (zj0 (f-1))):FnOk P w K mg base CX0 (f+2) a.f_wares_in d.f_wares_in ["yes", "tree"] (zj0 f):=by
 have ad:=zec (P:=P) (w:=w) (base:=base) T
 refine T.K_wares_in.ok zn4 (fun vs H Q E h=>?_) (fun cdv A outer s H vs Q E hr h=>?_)
 ·obtain⟨y,t,v,rfl,_⟩:=h
  rfl
 obtain⟨y,t,v,rfl,hd,ae,f9,ag,q⟩:=h
 cases t with
 |ware=>
  refine⟨_,zae (zaz (zar zbp (zap zmv (pv 1) zad (fun _ _=>rfl)) zbq (zav _)) (zah (zao (zb1 (zaa (pv 0) zab)))) zas) zgy,?_⟩
  obtain⟨p,rfl,hp⟩:=zv9 hd
  refine⟨_,rfl,p,_,_,_,rfl,rfl,sqT hp,at0,rfl,_,rfl,?_⟩
  refine zfz rfl ?_
  refine⟨_,rfl,small (by show 1≤1000;decide),fun l hl=>?_⟩
  exact q l _ (zag hl _) hl zac
 |broken tt=>
  refine⟨_,zae (zaz (zar zbp (zap zmv (pv 1) zad (fun _ _=>rfl)) zbq (zav _)) zgy zas) (zae (zaz (zar zbp (zap zmv (pv 1) zad (fun _ _=>rfl)) zbq (zav _)) zgy zas) (zah (zao (zb1 zab)))),?_⟩
  obtain⟨p,rfl,hp⟩:=zr3 hd
  refine⟨_,rfl,p,_,_,_,rfl,rfl,sqT hp,at0,rfl,_,rfl,?_⟩
  refine zb5 zn3 ?_
  refine⟨_,rfl,p,_,_,_,rfl,rfl,sqT hp,at0,rfl,_,rfl,?_⟩
  refine zb5 zmh ?_
  refine⟨small (by decide),fun l hl=>?_⟩
  exact q l _ (zag hl _) hl zac
 |split k ta tb=>
  have ah:f≠0:=fun z=>by rw[z] at ae;simp[CT.depth] at ae
  have G_wares_in:=G_wares_in ah
  have af:max ta.depth tb.depth+1≤f:=ae
  refine⟨_,(zae (zaz (zar zbp (zap (ixT (K:=K)) (pv 1) zad (fun _ _=>rfl)) zbq (zav _)) (zah (zao (zb1 (zaa (pv 0) zab)))) zas)
   (zae (zaz (zar zbp (zap (ixT (K:=K)) (pv 1) zad (fun _ _=>rfl)) zbq (zav _)) (zah (zao (za6 zty (zaf G_wares_in hr.lv rfl T.K_wares_in (zaa (zaf ad hr.lv rfl T.K_with_option (zaa (pv 0) (zaa (zap (ixT (K:=K)) (pv 1) zad (fun _ _=>rfl)) zab))) (zaa (zap (ixT (K:=K)) (pv 1) zad (fun _ _=>rfl)) zab))) (zaf G_wares_in hr.lv rfl T.K_wares_in (zaa (pv 0) (zaa (zap (ixT (K:=K)) (pv 1) zad (fun _ _=>rfl)) zab)))))) zas)
   (zah (zao (zb1 zab))))),?_⟩
  obtain⟨p,va,vb,rfl,hp,da,db⟩:=zud hd
  obtain⟨k1,sa,sb⟩:=ag
  refine⟨_,rfl,p,_,_,_,rfl,rfl,sqT hp,at0,rfl,_,rfl,?_⟩
  refine zb5 zps ?_
  refine⟨_,rfl,p,_,_,_,rfl,rfl,sqT hp,at0,rfl,_,rfl,?_⟩
  refine zfz rfl ?_
  refine⟨_,rfl,_,rfl,p,_,_,_,rfl,rfl,sqT hp,at1,y,k,rfl,k1,_,rfl,p,_,_,_,rfl,rfl,sqT hp,at2,y|||2^k,ta,va,rfl,da,by omega,by omega,sa,fun l1 H1 s1 n1 h1=>?_⟩
  refine⟨_,rfl,_,rfl,p,_,_,_,rfl,rfl,sqT (s1 _ _ hp),at3,y,tb,vb,rfl,Dn.same s1 _ _ db,by omega,by omega,sb,fun l2 H2 s2 n2 h2=>?_⟩
  have f1:=zfl ta (y|||2^k)
  have f2:=zfl tb y
  have p1:2^ta.depth≤2^8:=Nat.pow_le_pow_right (by decide) (by omega)
  have p2:2^tb.depth≤2^8:=Nat.pow_le_pow_right (by decide) (by omega)
  refine⟨l1,l2,_,_,rfl,rfl,s2 _ _ h1,h2,(by rw[List.length_map,List.length_map];exact small (by omega)),fun l3 h3=>?_⟩
  have e:zaj (ta.leaves (y|||2^k))++zaj (tb.leaves y)=zaj ((CT.split k ta tb).leaves y):=by
   show _=zaj (ta.leaves (y|||2^k)++tb.leaves y)
   rw[zaj,zaj,zaj,List.map_append]
  rw[e]
  exact q l3 _ ((s1.trans s2).trans (zag h3 _)) ((s1.trans s2).free h3) zac
theorem zi2(T:Txt K mg a d):∀f:Nat,FnOk P w K mg base CX0 (f+2) a.f_wares_in d.f_wares_in ["yes", "tree"] (zj0 f)
 |0=>zg9 T 0 fun h=>absurd rfl h
 |f+1=>zg9 T (f+1) fun _=>zi2 T f
theorem zh2(T:Txt K mg a d)(LB:zhn mg base a.c_cases_of a.t_cases_of):FnOk P w K mg base CX0 20 a.f_wares d.f_wares ["wood"] (spT a.t_cases_of zu1):=by
 have af:=zut (P:=P) (w:=w) (base:=base) T LB
 have ae:=zi2 (P:=P) (w:=w) (base:=base) T 9
 have ad:=zec (P:=P) (w:=w) (base:=base) T
 refine T.K_wares.ok sc_wares (fun vs H Q E h=>?_) (fun cdv A outer s H vs Q E hr h=>?_)
 ·obtain⟨_,wd,m,ts,rfl,_⟩:=h
  rfl
 obtain⟨tb,wd,m,ts,rfl,W,m1,m9,q⟩:=h
 have of:=zn8 m 1 0
 have dp:=zfh (ts:=ts) (il:=znx ts) (m:=m) 9 1 0
 have ag:=zfc (ts:=ts) (il:=znx ts) (m:=m) (by omega) 9 1 0
 have pm:=zpn W.ok m1 9 (by omega)
 refine⟨_,(zae (zax (i:=1) sc_wares.nd rfl (Or.inl rfl) (zaf ad hr.lv rfl T.K_with_option (zaa zad (zaa zad zab))))
   (zah (zao (zan zmc rfl T.m_sorted PyProof.Rows.boot_sorted (zaa (zaf ae hr.lv rfl T.K_wares_in (zaa (pv 1) (zaa (zaf af hr.lv rfl T.K_cases (zaa (pv 0) (zaa (pv 1) (zaa zad zab)))) zab))) zab))))),?_⟩
 refine⟨0,0,rfl,by decide,?_⟩
 refine⟨_,rfl,_,rfl,_,rfl,tb,wd,m,ts,1,0,rfl,W,m9,fun v H1 s1 dv=>?_⟩
 refine⟨1,_,v,rfl,dv,dp,by omega,ag,fun l H2 s2 n2 ah=>?_⟩
 refine⟨l,((zbr ts (znx ts) m 9 1 0).leaves 1).map (fun k:Nat=>(k:Int)),rfl,SqL.of (by rw[ah];exact congrArg some (congrArg HO.lst (zf7 _).symm)),fun ms h1 h2 l3 h3=>?_⟩
 rw[zpd h1 h2 pm (zib m ts),zf7]
 exact q l3 _ ((s1.trans s2).trans (zag h3 _)) ((s1.trans s2).free h3) zac
theorem zku(T:Txt K mg a d):FnOk P w K mg base CX0 1 a.f_boughs_left d.f_boughs_left ["boughs", "kept"] zm4:=by
 refine T.K_boughs_left.ok sc_boughs_left (fun vs H Q E h=>?_) (fun cdv A outer s H vs Q E hr h=>?_)
 ·obtain⟨tb,lk,L,kept,m,rfl,_⟩:=h
  rfl
 obtain⟨tb,lk,L,kept,m,rfl,⟨xs,ao,dn⟩,az,pw,kl,Ll,m9,ok,up,q⟩:=h
 have lx:xs.length=L.length:=by
  have:=dn.length
  rw[List.length_map,List.length_map] at this
  exact this.symm
 refine⟨_,(zae (zax (i:=2) sc_boughs_left.nd rfl (Or.inl rfl) (zb1 zab))
   (zae (zde PassesOwn.never rfl (piT (K:=K) (pv 0)) (pgT (K:=K) (n:=4) rfl (za8 (zaw (i:=3) sc_boughs_left.nd rfl (Or.inl rfl)) (za8 (zaw (i:=4) sc_boughs_left.nd rfl (Or.inl rfl)) (za8 (zaw (i:=5) sc_boughs_left.nd rfl (Or.inl rfl)) (za8 (zaw (i:=6) sc_boughs_left.nd rfl (Or.inl rfl)) zdm))))) (zae (zax (i:=7) sc_boughs_left.nd rfl (Or.inl rfl) (za4 za5 rfl T.m_tuple PyProof.Rows.boot_tuple (zaa (zdo (N':=["k", "kept"]) (n:=1) (kp:=[1]) rfl (piT (K:=K) (pv 6)) rfl rfl rfl (fun _ _ _ _ _=>(zaw (i:=0) (of_decide_eq_true rfl) rfl (Or.inl rfl))) (fun _ _ _ _ _=>(zbz (zar (inS (K:=K)) (pv 0) (pv 1) (by with_unfolding_all rfl)))) (fun _ _ _ _ _=>(zb3 (K:=K) PySem.F.plainAttrs_list PySem.F.slot_list_index PySem.F.type_list_index zcu (pv 1) (zaa (pv 0) zab)))) zab)))
   (zah (zaz (zar ze7 (zan (zb9 (K:=K)) rfl T.m_len PySem.boot_len (zaa (pv 7) zab)) zad (zav _)) (zah (zck (zb3 (K:=K) PySem.F.plainAttrs_list PySem.F.slot_list_append PySem.F.type_list_append zc1 (pv 2) (zaa (zbc (zaa (zb3 (K:=K) PySem.F.plainAttrs_list PySem.F.slot_list_index PySem.F.type_list_index zcu (pv 1) (zaa (pv 3) zab)) (zaa (pv 4) (zaa (pv 5) (zaa (pv 7) zab))))) zab)))) zas))))
   (zah (zao (za4 za5 rfl T.m_tuple PyProof.Rows.boot_tuple (zaa (pv 2) zab)))))),?_⟩
 refine⟨small (by show 0≤1000;decide),fun lf ar=>?_⟩
 have s1:=zag ar (.lst [])
 have g1:L2.upd H lf (.lst []) lf=some (.lst []):=zac
 generalize L2.upd H lf (.lst [])=H1 at s1 g1 ⊢
 refine⟨_,rfl,tb,rfl,⟨_,sqT (s1 _ _ ao)⟩,?_⟩
 have aF:∀i,∀t∈((L.take i).filterMap (mvB kept)).map Bg.tie,t.Ok kept.length:=fun i t ht=>by
  obtain⟨b',ay,rfl⟩:=List.mem_map.mp ht
  obtain⟨b,hb,e⟩:=List.mem_filterMap.mp ay
  have ae:=List.mem_of_mem_take hb
  exact zmb pw (ok b ae) (up b ae) e
 refine zgx (K:=K) (a:=tb) (xs:=xs) (fun i σ H2=>∃(v3 v4 v5 v6 v7:Option V)(ys:List V),σ=[some (.ref tb),some (.ref lk),some (.ref lf),v3,v4,v5,v6,v7]∧Same H H2∧H2 lf=some (.lst ys)∧DnL H2 ((((L.take i).filterMap (mvB kept)).map Bg.tie).map Tie.toD) ys∧ys.length≤i) ⟨none,none,none,none,none,[],rfl,s1,g1,rfl,Nat.le_refl _⟩ (fun i σ H2 _ z=>?_) ?_ ?_
 ·obtain⟨_,_,_,_,_,_,_,s2,_⟩:=z
  exact sqT (s2 _ _ ao)
 ·rintro i x σ H2 hx ⟨v3,v4,v5,v6,v7,ys,rfl,s2,g2,dy,yl⟩
  obtain⟨d0,au,hd⟩:=dn.get hx
  rw[List.getElem?_map,List.getElem?_map] at au
  obtain⟨t0,aE,rfl⟩:=Option.map_eq_some_iff.mp au
  obtain⟨b,hb,rfl⟩:=Option.map_eq_some_iff.mp aE
  have ae:=List.mem_of_getElem? hb
  have av:=ok b ae
  have aI:=av.few
  obtain⟨p,pk,rfl,hp,aG⟩:=zc6 hd
  have et:L.take (i+1)=L.take i++[b]:=by rw[List.take_add_one,hb,Option.toList_some]
  have il:=(List.getElem?_eq_some_iff.mp hb).1
  have ad:H2 lk=some (.lst (zaj kept)):=s2 _ _ az
  have ai:=s2 _ _ aG
  refine⟨p,_,rfl,sqT (s2 _ _ hp),rfl,_,_,rfl,_,_,rfl,_,_,rfl,_,_,rfl,rfl,?_⟩
  refine⟨_,rfl,pk,rfl,⟨_,sqT ai⟩,?_⟩
  refine zey (K:=K) (a:=pk) (xs:=zaj b.ks) (fun j zs σ H3=>(∃v,σ=[v,some (.ref lk)])∧H3=H2∧zs=zaj (((b.ks.take j).filter fun k=>decide (k∈kept)).map (mv kept))) ⟨⟨none,rfl⟩,rfl,rfl⟩ (fun j zs σ H3 hj pv=>?_) (fun j zs σ H3 hj pv=>?_) (fun j x zs σ H3 hx pv=>?_) (fun zs σ H3 pv l1 aD=>?_)
  ·obtain⟨_,_,rfl⟩:=pv
   rw[List.length_map,List.length_map]
   refine small (Nat.le_trans (List.length_filter_le _ _) ?_)
   rw[List.length_take]
   omega
  ·rw[pv.2.1]
   exact sqT ai
  ·obtain⟨⟨v,rfl⟩,rfl,rfl⟩:=pv
   rw[List.getElem?_map] at hx
   obtain⟨k,hk,rfl⟩:=Option.map_eq_some_iff.mp hx
   have ek:(b.ks.take (j+1)).filter (fun k=>decide (k∈kept))=(b.ks.take j).filter (fun k=>decide (k∈kept))++(if k∈kept then [k] else []):=by
    rw[List.take_add_one,hk,Option.toList_some,List.filter_append]
    by_cases z:k∈kept<;>simp[z]
   refine⟨_,rfl,_,rfl,lk,_,rfl,.inl (SqL.of ad),rfl,za0 _,_,rfl,?_⟩
   by_cases c:k∈kept
   ·refine zf0 (show inV (.int (k:Int)) (zaj kept)=true by rw[za7,decide_eq_true c]) ?_
    obtain⟨r1,r2⟩:=zbx c
    refine⟨_,rfl,.inl ⟨rfl,_,SqL.of ad⟩,_,rfl,lk,_,_,mv kept k,rfl,rfl,ad,rfl,za0 _,r1,r2,⟨_,rfl⟩,rfl,?_⟩
    rw[ek,if_pos c,List.map_append,zcz]
    rfl
   ·refine zdc (show inV (.int (k:Int)) (zaj kept)=false by rw[za7,decide_eq_false c]) ?_
    refine⟨⟨_,rfl⟩,rfl,?_⟩
    rw[ek,if_neg c,List.append_nil]
  obtain⟨_,rfl,rfl⟩:=pv
  have aH:(zaj b.ks).length=b.ks.length:=List.length_map _
  rw[aH,List.take_length]
  have s4:=zag aD (.lst (zaj ((b.ks.filter fun k=>decide (k∈kept)).map (mv kept))))
  have g4:L2.upd H3 l1 (.lst (zaj ((b.ks.filter fun k=>decide (k∈kept)).map (mv kept)))) l1=some (.lst (zaj ((b.ks.filter fun k=>decide (k∈kept)).map (mv kept)))):=zac
  have ap:=DnL.same s4 _ _ dy
  generalize L2.upd H3 l1 (.lst (zaj ((b.ks.filter fun k=>decide (k∈kept)).map (mv kept))))=H4 at s4 g4 ap ⊢
  refine⟨l1,_,rfl,.inl ⟨SqL.of g4,fun tk aB=>?_⟩⟩
  have aj:=zag aB (.tup (zaj ((b.ks.filter fun k=>decide (k∈kept)).map (mv kept))))
  have s5:=s4.trans aj
  have g5:L2.upd H4 tk (.tup (zaj ((b.ks.filter fun k=>decide (k∈kept)).map (mv kept)))) tk=some (.tup (zaj ((b.ks.filter fun k=>decide (k∈kept)).map (mv kept)))):=zac
  have al:=DnL.same aj _ _ ap
  generalize L2.upd H4 tk (.tup (zaj ((b.ks.filter fun k=>decide (k∈kept)).map (mv kept))))=H5 at s5 g5 al aj ⊢
  have am:=s2.trans s5
  have ak:H5 lf=some (.lst ys):=s5 _ _ g2
  refine⟨_,rfl,tk,_,rfl,.inr (sqT g5),_,_,rfl,rfl,_,rfl,?_⟩
  have len:(zaj ((b.ks.filter fun k=>decide (k∈kept)).map (mv kept))).length=(b.ks.filter fun k=>decide (k∈kept)).length:=by rw[List.length_map,List.length_map]
  by_cases e:b.ks.filter (fun k=>decide (k∈kept))=[]
  ·refine zdc (decide_eq_false (show ¬(((zaj ((b.ks.filter fun k=>decide (k∈kept)).map (mv kept))).length:Nat):Int)>0 by rw[len,e];decide)) ?_
   refine⟨_,_,_,_,_,ys,rfl,am,ak,?_,by omega⟩
   have:(L.take (i+1)).filterMap (mvB kept)=(L.take i).filterMap (mvB kept):=by
    rw[et,List.filterMap_append]
    simp[mvB,e]
   rw[this]
   exact al
  ·have lp:=List.length_pos_iff.mpr e
   refine zf0 (decide_eq_true (show(((zaj ((b.ks.filter fun k=>decide (k∈kept)).map (mv kept))).length:Nat):Int)>0 by rw[len];omega)) ?_
   obtain⟨k,hk⟩:=List.exists_mem_of_ne_nil _ e
   have aq:=List.mem_filter.mp hk
   have hu:=up b ae ⟨k,aq.1,of_decide_eq_true aq.2⟩
   obtain⟨r1,r2⟩:=zbx hu
   have af:H5 lk=some (.lst (zaj kept)):=s5 _ _ ad
   refine⟨_,rfl,.inl ⟨rfl,_,SqL.of ak⟩,_,rfl,.inl ⟨rfl,_,SqL.of af⟩,_,rfl,lk,_,_,mv kept b.u,rfl,rfl,af,rfl,za0 _,r1,r2,_,rfl,_,rfl,_,rfl,small (by show 4≤1000;decide),fun tn aA=>?_⟩
   have ag:=zag aA (.tup [.int ((mv kept b.u:Nat):Int),.int b.lo,.int b.hi,.ref tk])
   have s6:=am.trans ag
   have g6:L2.upd H5 tn (.tup [.int ((mv kept b.u:Nat):Int),.int b.lo,.int b.hi,.ref tk]) tn=some (.tup [.int ((mv kept b.u:Nat):Int),.int b.lo,.int b.hi,.ref tk]):=zac
   have ah:=ag _ _ ak
   have ax:=ag _ _ g5
   have aw:=DnL.same ag _ _ al
   generalize L2.upd H5 tn (.tup [.int ((mv kept b.u:Nat):Int),.int b.lo,.int b.hi,.ref tk])=H6 at s6 g6 ah ax aw ag ⊢
   refine⟨lf,_,_,rfl,rfl,ah,zbo (by omega),?_⟩
   have em:mvB kept b=some ⟨mv kept b.u,b.lo,b.hi,(b.ks.filter fun k=>decide (k∈kept)).map (mv kept)⟩:=by
    unfold mvB
    rw[if_neg e]
   have ee:(L.take (i+1)).filterMap (mvB kept)=(L.take i).filterMap (mvB kept)++[⟨mv kept b.u,b.lo,b.hi,(b.ks.filter fun k=>decide (k∈kept)).map (mv kept)⟩]:=by
    rw[et,List.filterMap_append,List.filterMap_cons,em]
    rfl
   have aC:=zmb pw av (up b ae) em
   refine⟨_,_,_,_,_,ys++[.ref tn],rfl,Same.put s6 ar ah,zac,?_,by rw[List.length_append,List.length_singleton];omega⟩
   rw[ee,List.map_append,List.map_append]
   refine(DnL.pen ah (zd1 (aF i) (by omega)) aw).append ⟨_,[],rfl,Dn.pen ah (zfs (Nat.le_trans aC.few (by omega))) ⟨tn,_,rfl,g6,_,_,rfl,rfl,_,_,rfl,rfl,_,_,rfl,rfl,_,_,rfl,⟨tk,_,rfl,ax,zjj _⟩,rfl⟩,rfl⟩
 ·rintro σ H2 ⟨v3,v4,v5,v6,v7,ys,rfl,s2,g2,dy,yl⟩
  rw[lx,List.take_length] at dy
  refine⟨_,rfl,lf,_,rfl,.inl ⟨SqL.of g2,fun t ht=>?_⟩⟩
  have s3:=zag ht (.tup ys)
  exact q t _ (s2.trans s3) ⟨ys,zac,DnL.same s3 _ _ dy⟩
theorem zk6(T:Txt K mg a d):FnOk P w K mg base CX0 1 a.f_cross_left d.f_cross_left ["cross", "kept"] znv:=by
 refine T.K_cross_left.ok sc_cross_left (fun vs H Q E h=>?_) (fun cdv A outer s H vs Q E hr h=>?_)
 ·obtain⟨tc,lk,C,kept,m,rfl,_⟩:=h
  rfl
 obtain⟨tc,lk,C,kept,m,rfl,⟨xs,aw,dn⟩,ax,pw,kl,Cl,m9,ok,nb,q⟩:=h
 have lx:xs.length=C.length:=by
  have:=dn.length
  rw[List.length_map] at this
  exact this.symm
 refine⟨_,(zae (zax (i:=2) sc_cross_left.nd rfl (Or.inl rfl) (zb1 zab))
   (zae (zde PassesOwn.never rfl (piT (K:=K) (pv 0)) (zaw (i:=3) sc_cross_left.nd rfl (Or.inl rfl)) (zah (zaz (zar zbp (zap (ixT (K:=K)) (pv 3) zad (fun _ _=>rfl)) zbq (zav _)) (zae (zax (i:=4) sc_cross_left.nd rfl (Or.inl rfl) (za4 za5 rfl T.m_tuple PyProof.Rows.boot_tuple (zaa (zdo (N':=["k", "number", "kept"]) (n:=2) (kp:=[1]) rfl (piT (K:=K) (zap (ixT (K:=K)) (pv 3) zad (fun _ _=>rfl))) rfl rfl rfl (fun _ _ _ _ _=>(pgT (K:=K) (n:=2) rfl (za8 (zaw (i:=0) (of_decide_eq_true rfl) rfl (Or.inl rfl)) (za8 (zaw (i:=1) (of_decide_eq_true rfl) rfl (Or.inl rfl)) zdm)))) (fun _ _ _ _ _=>(zbz (zar (inS (K:=K)) (pv 0) (pv 2) (by with_unfolding_all rfl)))) (fun _ _ _ _ _=>(zbc (zaa (zb3 (K:=K) PySem.F.plainAttrs_list PySem.F.slot_list_index PySem.F.type_list_index zcu (pv 2) (zaa (pv 0) zab)) (zaa (pv 1) zab))))) zab)))
   (zah (zaz (zar ze7 (zan (zb9 (K:=K)) rfl T.m_len PySem.boot_len (zaa (pv 4) zab)) zad (zav _)) (zah (zck (zb3 (K:=K) PySem.F.plainAttrs_list PySem.F.slot_list_append PySem.F.type_list_append zc1 (pv 2) (zaa (zbc (zaa zbq (zaa (zap (ixT (K:=K)) (pv 3) zad (fun _ _=>rfl)) (zaa (pv 4) zab)))) zab)))) zas))) (zah (zaz (PW.pt (zhk (zar (inS (K:=K)) (zap (ixT (K:=K)) (pv 3) zad (fun _ _=>rfl)) (pv 1) (by with_unfolding_all rfl)) (zfm (zar (inS (K:=K)) (zap (ixT (K:=K)) (pv 3) zad (fun _ _=>rfl)) (pv 1) (by with_unfolding_all rfl))))) (zah (zck (zb3 (K:=K) PySem.F.plainAttrs_list PySem.F.slot_list_append PySem.F.type_list_append zc1 (pv 2) (zaa (zbc (zaa (zap (ixT (K:=K)) (pv 3) zad (fun _ _=>rfl)) (zaa (zb3 (K:=K) PySem.F.plainAttrs_list PySem.F.slot_list_index PySem.F.type_list_index zcu (pv 1) (zaa (zap (ixT (K:=K)) (pv 3) zad (fun _ _=>rfl)) zab)) (zaa (zb3 (K:=K) PySem.F.plainAttrs_list PySem.F.slot_list_index PySem.F.type_list_index zcu (pv 1) (zaa (zap (ixT (K:=K)) (pv 3) zad (fun _ _=>rfl)) zab)) zab)))) zab)))) zas)))))
   (zah (zao (za4 za5 rfl T.m_tuple PyProof.Rows.boot_tuple (zaa (pv 2) zab)))))),?_⟩
 refine⟨small (by show 0≤1000;decide),fun lf ar=>?_⟩
 have s1:=zag ar (.lst [])
 have g1:L2.upd H lf (.lst []) lf=some (.lst []):=zac
 generalize L2.upd H lf (.lst [])=H1 at s1 g1 ⊢
 refine⟨_,rfl,tc,rfl,⟨_,sqT (s1 _ _ aw)⟩,?_⟩
 have okC:∀i,∀t∈(C.take i).filterMap (mvT kept),t.Ok kept.length:=fun i t ht=>by
  obtain⟨c,hc,e⟩:=List.mem_filterMap.mp ht
  have ai:=List.mem_of_mem_take hc
  exact zm7 pw (ok c ai) (nb c ai) e
 refine zgx (K:=K) (a:=tc) (xs:=xs) (fun i σ H2=>∃(v3 v4:Option V)(ys:List V),σ=[some (.ref tc),some (.ref lk),some (.ref lf),v3,v4]∧Same H H2∧H2 lf=some (.lst ys)∧DnL H2 (((C.take i).filterMap (mvT kept)).map Tie.toD) ys∧ys.length≤i) ⟨none,none,[],rfl,s1,g1,rfl,Nat.le_refl _⟩ (fun i σ H2 _ z=>?_) ?_ ?_
 ·obtain⟨_,_,_,_,s2,_⟩:=z
  exact sqT (s2 _ _ aw)
 ·rintro i x σ H2 hx ⟨v3,v4,ys,rfl,s2,g2,dy,yl⟩
  obtain⟨c,hc,hd⟩:=zm9 dn hx
  have ai:=List.mem_of_getElem? hc
  have av:=ok c ai
  have aq:=nb c ai
  have et:C.take (i+1)=C.take i++[c]:=by rw[List.take_add_one,hc,Option.toList_some]
  have il:=(List.getElem?_eq_some_iff.mp hc).1
  have ad:H2 lk=some (.lst (zaj kept)):=s2 _ _ ax
  have af:∀(v4:Option V)(H5:Hp),Same H2 H5→mvT kept c=none→∃(v3 v4':Option V)(ys:List V),[some (.ref tc),some (.ref lk),some (.ref lf),some x,v4]=[some (.ref tc),some (.ref lk),some (.ref lf),v3,v4']∧Same H H5∧H5 lf=some (.lst ys)∧DnL H5 (((C.take (i+1)).filterMap (mvT kept)).map Tie.toD) ys∧ys.length≤i+1:=fun v4 H5 s5 e=>⟨_,_,ys,rfl,s2.trans s5,s5 _ _ g2,by
   have:(C.take (i+1)).filterMap (mvT kept)=(C.take i).filterMap (mvT kept):=by
    rw[et,List.filterMap_append,List.filterMap_cons,e]
    simp
   rw[this]
   exact DnL.same s5 _ _ dy,by omega⟩
  have put:∀(v4:Option V)(H6:Hp)(c':Tie)(v:V),Same H2 H6→mvT kept c=some c'→Dn H6 c'.toD v→∃(v3 v4':Option V)(ys':List V),[some (.ref tc),some (.ref lk),some (.ref lf),some x,v4]=[some (.ref tc),some (.ref lk),some (.ref lf),v3,v4']∧Same H (L2.upd H6 lf (.lst (ys++[v])))∧(L2.upd H6 lf (.lst (ys++[v]))) lf=some (.lst ys')∧DnL (L2.upd H6 lf (.lst (ys++[v]))) (((C.take (i+1)).filterMap (mvT kept)).map Tie.toD) ys'∧ys'.length≤i+1:=fun v4 H6 c' v s6 e dv=>by
   have g6:H6 lf=some (.lst ys):=s6 _ _ g2
   refine⟨_,_,ys++[v],rfl,Same.put (s2.trans s6) ar g6,zac,?_,by rw[List.length_append,List.length_singleton];omega⟩
   have:(C.take (i+1)).filterMap (mvT kept)=(C.take i).filterMap (mvT kept)++[c']:=by
    rw[et,List.filterMap_append,List.filterMap_cons,e]
    rfl
   rw[this,List.map_append]
   have ao:=zm7 pw av aq e
   exact(DnL.pen g6 (zd1 (okC i) (by omega)) (DnL.same s6 _ _ dy)).append ⟨v,[],rfl,Dn.pen g6 (zkb ao (by omega)) dv,rfl⟩
  cases c with
  |bough u lo hi ks=>exact absurd rfl (aq u lo hi ks)
  |most top ps=>
   obtain⟨p,pk,zs,rfl,hp,aB,dz⟩:=znk hd
   have lz:=dz.length
   rw[List.length_map] at lz
   have pl:=av.2.2.2
   have ae:=s2 _ _ hp
   have aj:=s2 _ _ aB
   refine⟨_,rfl,p,_,_,_,rfl,rfl,sqT ae,at0,rfl,_,rfl,?_⟩
   refine zfz rfl ?_
   refine⟨_,rfl,p,_,_,_,rfl,rfl,sqT ae,at2,pk,rfl,⟨_,sqT aj⟩,?_⟩
   refine zey (K:=K) (a:=pk) (xs:=zs) (fun j rs σ H3=>(∃v v',σ=[v,v',some (.ref lk)])∧Same H2 H3∧DnL H3 ((((ps.take j).filter fun p=>decide (p.1∈kept)).map fun p=>(mv kept p.1,p.2)).map zfv) rs∧rs.length≤j) ⟨⟨none,none,rfl⟩,Same.refl _,rfl,Nat.le_refl _⟩ (fun j rs σ H3 hj pv=>?_) (fun j rs σ H3 hj pv=>?_) (fun j x rs σ H3 hx pv=>?_) (fun rs σ H3 pv l1 aA=>?_)
   ·exact small (by have:=pv.2.2.2;omega)
   ·exact sqT (pv.2.1 _ _ aj)
   ·obtain⟨⟨v,v',rfl⟩,s3,dr,rl⟩:=pv
    obtain⟨pp,r,az,rfl,aC⟩:=zjm (DnL.same (s2.trans s3) _ _ dz) hx
    have ek:(ps.take (j+1)).filter (fun p=>decide (p.1∈kept))=(ps.take j).filter (fun p=>decide (p.1∈kept))++(if pp.1∈kept then [pp] else []):=by
     rw[List.take_add_one,az,Option.toList_some,List.filter_append]
     by_cases z:pp.1∈kept<;>simp[z]
    have ag:H3 lk=some (.lst (zaj kept)):=s3 _ _ ad
    refine⟨r,_,rfl,sqT aC,rfl,_,_,rfl,_,_,rfl,rfl,?_⟩
    refine⟨_,rfl,_,rfl,lk,_,rfl,.inl (SqL.of ag),rfl,za0 _,_,rfl,?_⟩
    by_cases c:pp.1∈kept
    ·refine zf0 (show inV (.int (pp.1:Int)) (zaj kept)=true by rw[za7,decide_eq_true c]) ?_
     obtain⟨r1,r2⟩:=zbx c
     refine⟨_,rfl,.inl ⟨rfl,_,SqL.of ag⟩,_,rfl,lk,_,_,mv kept pp.1,rfl,rfl,ag,rfl,za0 _,r1,r2,_,rfl,small (by show 2≤1000;decide),fun tn ah=>?_⟩
     have s4:=zag ah (.tup [.int ((mv kept pp.1:Nat):Int),.int pp.2])
     refine⟨⟨_,_,rfl⟩,s3.trans s4,?_,by rw[List.length_append,List.length_singleton];omega⟩
     rw[ek,if_pos c,List.map_append,List.map_append]
     exact(DnL.same s4 _ _ dr).append ⟨_,[],rfl,⟨tn,_,rfl,zac,_,_,rfl,rfl,_,_,rfl,rfl,rfl⟩,rfl⟩
    ·refine zdc (show inV (.int (pp.1:Int)) (zaj kept)=false by rw[za7,decide_eq_false c]) ?_
     refine⟨⟨_,_,rfl⟩,s3,?_,by omega⟩
     rw[ek,if_neg c,List.append_nil]
     exact dr
   obtain⟨_,s3,dr,rl⟩:=pv
   rw[←lz,List.take_length] at dr
   have lr:=dr.length
   rw[List.length_map,List.length_map] at lr
   have am:=zag aA (.lst rs)
   have s4:=s3.trans am
   have g4:L2.upd H3 l1 (.lst rs) l1=some (.lst rs):=zac
   have au:=DnL.same am _ _ dr
   generalize L2.upd H3 l1 (.lst rs)=H4 at s4 g4 au am ⊢
   refine⟨l1,_,rfl,.inl ⟨SqL.of g4,fun tk ay=>?_⟩⟩
   have ak:=zag ay (.tup rs)
   have s5:=s4.trans ak
   have g5:L2.upd H4 tk (.tup rs) tk=some (.tup rs):=zac
   have ap:=DnL.same ak _ _ au
   generalize L2.upd H4 tk (.tup rs)=H5 at s5 g5 ap ak ⊢
   refine⟨_,rfl,tk,_,rfl,.inr (sqT g5),_,_,rfl,rfl,_,rfl,?_⟩
   by_cases e:ps.filter (fun p=>decide (p.1∈kept))=[]
   ·refine zdc (decide_eq_false (show ¬((rs.length:Nat):Int)>0 by rw[←lr,e];decide)) ?_
    exact af _ H5 s5 (by simp only[mvT];rw[if_pos e])
   ·have lp:=List.length_pos_iff.mpr e
    refine zf0 (decide_eq_true (show((rs.length:Nat):Int)>0 by omega)) ?_
    refine⟨_,rfl,.inl ⟨rfl,_,SqL.of (s5 _ _ g2)⟩,_,rfl,p,_,_,_,rfl,rfl,sqT (s5 _ _ ae),at1,_,rfl,small (by show 3≤1000;decide),fun tn ah=>?_⟩
    have al:=zag ah (.tup [.str ("most" : Str),.int top,.ref tk])
    have s6:=s5.trans al
    refine⟨lf,_,_,rfl,rfl,s6 _ _ g2,zbo (by omega),?_⟩
    exact put _ _ (.most top ((ps.filter (fun p=>decide (p.1∈kept))).map fun p=>(mv kept p.1,p.2))) (.ref tn) s6 (by simp only[mvT];rw[if_neg e]) ⟨tn,_,rfl,zac,_,_,rfl,rfl,_,_,rfl,rfl,_,_,rfl,⟨tk,_,rfl,al _ _ g5,DnL.same al _ _ ap⟩,rfl⟩
  |needs aa bb=>
   obtain⟨p,rfl,hp⟩:=zmi hd
   have ae:=s2 _ _ hp
   refine⟨_,rfl,p,_,_,_,rfl,rfl,sqT ae,at0,rfl,_,rfl,?_⟩
   refine zb5 (by decide +kernel) ?_
   refine⟨_,rfl,p,_,_,_,rfl,rfl,sqT ae,at1,_,rfl,lk,_,rfl,.inl (SqL.of ad),rfl,za0 _,_,rfl,?_⟩
   by_cases ca:aa∈kept
   ·refine zf0 (show inV (.int (aa:Int)) (zaj kept)=true by rw[za7,decide_eq_true ca]) ?_
    refine⟨_,rfl,p,_,_,_,rfl,rfl,sqT ae,at2,_,rfl,lk,_,rfl,.inl (SqL.of ad),rfl,za0 _,_,rfl,?_⟩
    by_cases cb:bb∈kept
    ·refine zf0 (show inV (.int (bb:Int)) (zaj kept)=true by rw[za7,decide_eq_true cb]) ?_
     obtain⟨r1,r2⟩:=zbx ca
     obtain⟨r3,r4⟩:=zbx cb
     refine⟨_,rfl,.inl ⟨rfl,_,SqL.of g2⟩,_,rfl,p,_,_,_,rfl,rfl,sqT ae,at0,_,rfl,.inl ⟨rfl,_,SqL.of ad⟩,_,rfl,p,_,_,_,rfl,rfl,sqT ae,at1,lk,_,_,mv kept aa,rfl,rfl,ad,rfl,za0 _,r1,r2,_,rfl,.inl ⟨rfl,_,SqL.of ad⟩,_,rfl,p,_,_,_,rfl,rfl,sqT ae,at2,lk,_,_,mv kept bb,rfl,rfl,ad,rfl,za0 _,r3,r4,small (by show 3≤1000;decide),fun tn ah=>?_⟩
     have s6:=zag ah (.tup [.str ("needs" : Str),.int ((mv kept aa:Nat):Int),.int ((mv kept bb:Nat):Int)])
     refine⟨lf,_,_,rfl,rfl,s6 _ _ g2,zbo (by omega),?_⟩
     exact put _ _ (.needs (mv kept aa) (mv kept bb)) (.ref tn) s6 (by simp only[mvT];rw[if_pos ⟨ca,cb⟩]) ⟨tn,_,rfl,zac,_,_,rfl,rfl,_,_,rfl,rfl,_,_,rfl,rfl,rfl⟩
    ·refine zdc (show inV (.int (bb:Int)) (zaj kept)=false by rw[za7,decide_eq_false cb]) ?_
     exact af _ H2 (Same.refl _) (by simp only[mvT];rw[if_neg fun z=>cb z.2])
   ·refine zdc (show inV (.int (aa:Int)) (zaj kept)=false by rw[za7,decide_eq_false ca]) ?_
    refine zc5 ?_
    exact af _ H2 (Same.refl _) (by simp only[mvT];rw[if_neg fun z=>ca z.1])
  |bans aa bb=>
   obtain⟨p,rfl,hp⟩:=zmi hd
   have ae:=s2 _ _ hp
   refine⟨_,rfl,p,_,_,_,rfl,rfl,sqT ae,at0,rfl,_,rfl,?_⟩
   refine zb5 (by decide +kernel) ?_
   refine⟨_,rfl,p,_,_,_,rfl,rfl,sqT ae,at1,_,rfl,lk,_,rfl,.inl (SqL.of ad),rfl,za0 _,_,rfl,?_⟩
   by_cases ca:aa∈kept
   ·refine zf0 (show inV (.int (aa:Int)) (zaj kept)=true by rw[za7,decide_eq_true ca]) ?_
    refine⟨_,rfl,p,_,_,_,rfl,rfl,sqT ae,at2,_,rfl,lk,_,rfl,.inl (SqL.of ad),rfl,za0 _,_,rfl,?_⟩
    by_cases cb:bb∈kept
    ·refine zf0 (show inV (.int (bb:Int)) (zaj kept)=true by rw[za7,decide_eq_true cb]) ?_
     obtain⟨r1,r2⟩:=zbx ca
     obtain⟨r3,r4⟩:=zbx cb
     refine⟨_,rfl,.inl ⟨rfl,_,SqL.of g2⟩,_,rfl,p,_,_,_,rfl,rfl,sqT ae,at0,_,rfl,.inl ⟨rfl,_,SqL.of ad⟩,_,rfl,p,_,_,_,rfl,rfl,sqT ae,at1,lk,_,_,mv kept aa,rfl,rfl,ad,rfl,za0 _,r1,r2,_,rfl,.inl ⟨rfl,_,SqL.of ad⟩,_,rfl,p,_,_,_,rfl,rfl,sqT ae,at2,lk,_,_,mv kept bb,rfl,rfl,ad,rfl,za0 _,r3,r4,small (by show 3≤1000;decide),fun tn ah=>?_⟩
     have s6:=zag ah (.tup [.str ("bans" : Str),.int ((mv kept aa:Nat):Int),.int ((mv kept bb:Nat):Int)])
     refine⟨lf,_,_,rfl,rfl,s6 _ _ g2,zbo (by omega),?_⟩
     exact put _ _ (.bans (mv kept aa) (mv kept bb)) (.ref tn) s6 (by simp only[mvT];rw[if_pos ⟨ca,cb⟩]) ⟨tn,_,rfl,zac,_,_,rfl,rfl,_,_,rfl,rfl,_,_,rfl,rfl,rfl⟩
    ·refine zdc (show inV (.int (bb:Int)) (zaj kept)=false by rw[za7,decide_eq_false cb]) ?_
     exact af _ H2 (Same.refl _) (by simp only[mvT];rw[if_neg fun z=>cb z.2])
   ·refine zdc (show inV (.int (aa:Int)) (zaj kept)=false by rw[za7,decide_eq_false ca]) ?_
    refine zc5 ?_
    exact af _ H2 (Same.refl _) (by simp only[mvT];rw[if_neg fun z=>ca z.1])
 ·rintro σ H2 ⟨v3,v4,ys,rfl,s2,g2,dy,yl⟩
  rw[lx,List.take_length] at dy
  refine⟨_,rfl,lf,_,rfl,.inl ⟨SqL.of g2,fun t ht=>?_⟩⟩
  have s3:=zag ht (.tup ys)
  exact q t _ (s2.trans s3) ⟨ys,zac,DnL.same s3 _ _ dy⟩
theorem ze6(T:Txt K mg a d):FnOk P w K mg base CX0 1 a.f_without_place d.f_without_place ["cross", "place"] zrv:=by
 refine T.K_without_place.ok ziq (fun vs H Q E h=>?_) (fun cdv A outer s H vs Q E hr h=>?_)
 ·obtain⟨tc,C,p,rfl,_⟩:=h
  rfl
 obtain⟨tc,C,p,rfl,⟨xs,ae,dn⟩,pC,few,q⟩:=h
 have lx:xs.length=C.length:=by
  have:=dn.length
  rw[List.length_map] at this
  exact this.symm
 refine⟨_,(zah (zao (za6 zod (zkc zmk (pv 0) zmp (zl7 (pv 1))) (zkc zmk (pv 0) (zl7 (za6 zca (pv 1) zad)) zmp)))),?_⟩
 refine⟨_,rfl,_,rfl,_,rfl,tc,xs,rfl,ae,fun t1 H1 s1 h1=>?_⟩
 refine⟨_,rfl,_,rfl,_,_,rfl,rfl,_,rfl,tc,xs,rfl,s1 _ _ ae,fun t2 H2 s2 h2=>?_⟩
 rw[zot xs p (by omega)] at h1
 have e1:((p:Int)+1)=((p+1:Nat):Int):=by omega
 have af:H2 t2=some (.tup (xs.drop (p+1))):=by
  rw[←zs9 xs (p+1) (by omega)]
  rw[show(((p+1:Nat):Nat):Int)=(p:Int)+1 by omega]
  exact h2
 refine⟨t1,t2,_,_,rfl,rfl,s2 _ _ h1,af,small (by rw[List.length_take,List.length_drop];omega),fun c H3 s3 h3=>?_⟩
 have ad:=(s1.trans s2).trans s3
 refine q c H3 ad ⟨_,h3,?_⟩
 rw[List.eraseIdx_eq_take_drop_succ,List.map_append,List.map_take,List.map_drop]
 have d3:=DnL.same ad _ _ dn
 exact(DnL.take p d3).append (DnL.drop (p+1) d3)
theorem zeq(T:Txt K mg a d)(LB:zhn mg base a.c_cases_of a.t_cases_of):FnOk P w K mg base CX0 22 a.f_first_breaking d.f_first_breaking ["many", "boughs", "cross", "place"] (spT a.t_cases_of zpx):=by
 have af:=zh2 (P:=P) (w:=w) (base:=base) T LB
 have ae:=zsd (P:=P) (w:=w) (base:=base) T
 have ad:=ze6 (P:=P) (w:=w) (base:=base) T
 refine T.K_first_breaking.ok sc_first_breaking (fun vs H Q E h=>?_) (fun cdv A outer s H vs Q E hr h=>?_)
 ·obtain⟨_,tb,tc,m,p,B,C,rfl,_⟩:=h
  rfl
 obtain⟨ta,tb,tc,m,p,B,C,rfl,hB,hC,pC,m1,m9,ap,okC,Bl,Cl,q⟩:=h
 refine⟨_,(zae (zde PassesOwn.never rfl (piL (K:=K) (zaf af hr.lv rfl T.K_wares (zaa (zbc (zaa (pv 0) (zaa (pv 1) (zaa (zaf ad hr.lv rfl T.K_without_place (zaa (pv 2) (zaa (pv 3) zab))) zab)))) zab))) (zaw (i:=4) sc_first_breaking.nd rfl (Or.inl rfl)) (zah (zaz (zbt (za9 (zaf ae hr.lv rfl T.K_keeps (zaa (zap (ixT (K:=K)) (pv 2) (pv 3) (fun _ _=>rfl)) (zaa (pv 4) zab))))) (zah (zao (pv 4))) zas)))
   (zah (zao zhv))),?_⟩
 refine⟨_,rfl,_,rfl,_,rfl,_,rfl,tc,C,p,rfl,hC,pC,by omega,fun te H1 s1 hE=>?_⟩
 refine⟨small (by show 3≤1000;decide),fun wd am=>?_⟩
 have s2:=s1.trans (zag am (.tup [.int (m:Int),.ref tb,.ref te]))
 have g2:L2.upd H1 wd (.tup [.int (m:Int),.ref tb,.ref te]) wd=some (.tup [.int (m:Int),.ref tb,.ref te]):=zac
 have aj:=hE.same (zag am (.tup [.int (m:Int),.ref tb,.ref te]))
 generalize L2.upd H1 wd (.tup [.int (m:Int),.ref tb,.ref te])=H2 at s2 g2 aj ⊢
 have aq:∀t∈C.eraseIdx p,t.Ok m:=fun t ht=>okC t (List.mem_of_mem_eraseIdx ht)
 have El:(C.eraseIdx p).length≤20:=Nat.le_trans (List.length_eraseIdx_le _ _) Cl
 have W:=zfo g2 (hB.same s2) aj (fun t ht=>(List.mem_append.mp ht).elim (ap t) (aq t)) (by rw[List.length_append];omega) (by omega)
 refine⟨s2.tab ta,wd,m,B++C.eraseIdx p,rfl,W,m1,m9,fun ls H3 s3 ar al=>?_⟩
 have ai:=s2.trans s3
 refine⟨ls,rfl,⟨_,SqL.of al⟩,?_⟩
 have ah:C[p]?=some C[p]:=List.getElem?_eq_getElem pC
 refine zh4 (K:=K) (a:=ls) (xs:=zaj (za1 m (B++C.eraseIdx p))) (fun i σ H4=>(∃v4:Option V,σ=[some (.int (m:Int)),some (.ref tb),some (.ref tc),some (.int (p:Int)),v4])∧Same H3 H4∧∀w∈(za1 m (B++C.eraseIdx p)).take i,C[p].keep w=true) ⟨⟨none,rfl⟩,Same.refl _,fun _ z=>nomatch z⟩ (fun i σ H4 _ z=>SqL.of (z.2.1 _ _ al)) ?_ ?_
 ·rintro i x σ H4 hx ⟨⟨v4,rfl⟩,s4,all⟩
  rw[List.getElem?_map] at hx
  obtain⟨wa,ak,rfl⟩:=Option.map_eq_some_iff.mp hx
  obtain⟨xs,ao,dC⟩:=hC.same (ai.trans s4)
  obtain⟨v,hv,dv⟩:=DnL.get' (i:=p) (d:=C[p].toD) dC (by rw[List.getElem?_map,ah];rfl)
  refine⟨_,rfl,_,rfl,tc,_,_,v,rfl,rfl,sqT ao,zc8 hv,_,rfl,C[p],m,wa,v,rfl,dv,okC _ (List.getElem_mem pC),by omega,fun H5 s5=>?_⟩
  refine⟨_,rfl,?_⟩
  cases hk:C[p].keep wa
  ·refine zpq ?_
   refine⟨_,rfl,?_⟩
   have e:zei m B C p=some wa:=by
    unfold zei
    rw[ah,List.find?_eq_some_iff_getElem]
    obtain⟨il,ei⟩:=List.getElem?_eq_some_iff.mp ak
    refine⟨by simp[hk],i,il,ei,fun j hj=>?_⟩
    have:=all (za1 m (B++C.eraseIdx p))[j] (List.mem_take_iff_getElem.mpr ⟨j,by omega,rfl⟩)
    simp[this]
   have q':=q H5 (ai.trans (s4.trans s5))
   rw[e] at q'
   exact q'
  ·refine zc5 ?_
   refine⟨⟨_,rfl⟩,s4.trans s5,fun w' ag=>?_⟩
   rw[List.take_add_one,ak,Option.toList_some] at ag
   rcases List.mem_append.mp ag with z|z
   ·exact all w' z
   ·rw[List.mem_singleton.mp z];exact hk
 ·rintro σ H4 ⟨⟨v4,rfl⟩,s4,all⟩
  rw[List.length_map,List.take_length] at all
  have e:zei m B C p=none:=by
   unfold zei
   rw[ah,List.find?_eq_none]
   intro w' ag
   simp[all w' ag]
  have q':=q H4 (ai.trans s4)
  rw[e] at q'
  exact q'
theorem zg4(T:Txt K mg a d)(LB:zhn mg base a.c_cases_of a.t_cases_of):FnOk P w K mg base CX0 23 a.f_without_needless d.f_without_needless ["many", "boughs", "cross"] (spT a.t_cases_of zp5):=by
 have ad:=zeq (P:=P) (w:=w) (base:=base) T LB
 have ae:=ze6 (P:=P) (w:=w) (base:=base) T
 refine T.K_without_needless.ok sc_without_needless (fun vs H Q E h=>?_) (fun cdv A outer s H vs Q E hr h=>?_)
 ·obtain⟨_,tb,tc,m,B,C,rfl,_⟩:=h
  rfl
 obtain⟨ta,tb,tc,m,B,C,rfl,hB,hC,m1,m9,ak,okC,Bl,Cl,q⟩:=h
 refine⟨_,(zae (zax (i:=3) sc_without_needless.nd rfl (Or.inl rfl) (pv 2))
   (zae (zax (i:=4) sc_without_needless.nd rfl (Or.inl rfl) zad)
   (zae (ztu PassesOwn.never (zar zo5 (pv 4) (zan (zb9 (K:=K)) rfl T.m_len PySem.boot_len (zaa (pv 3) zab)) (zav _)) (zah (zaz (zar zxi (zaf ad hr.lv rfl T.K_first_breaking (zaa (pv 0) (zaa (pv 1) (zaa (pv 3) (zaa (pv 4) zab))))) zhv (zav _)) (zah (zax (i:=3) sc_without_needless.nd rfl (Or.inl rfl) (zaf ae hr.lv rfl T.K_without_place (zaa (pv 3) (zaa (pv 4) zab))))) (zah (zax (i:=4) sc_without_needless.nd rfl (Or.inl rfl) (za6 zca (pv 4) zad))))))
   (zah (zao (pv 3)))))),?_⟩
 refine⟨_,rfl,?_⟩
 refine zt3 (fun σ H2=>∃(tl:Addr)(D:List Tie)(p f:Nat),σ=[some (.int (m:Int)),some (.ref tb),some (.ref tc),some (.ref tl),some (.int (p:Int))]∧Same H H2∧TiesAt H2 tl D∧(∀t∈D,t.Ok m)∧D.length=p+f∧D.length≤20∧zb8 m B f D p=zb8 m B C.length C 0) (fun σ H2=>match σ with|[_,_,_,some (.ref tl),some (.int p)]=>(match H2 tl with|some (.tup xs)=>xs.length-p.toNat|_=>0)|_=>0) ⟨tc,C,0,C.length,rfl,Same.refl _,hC,okC,by omega,Cl,rfl⟩ ?_ ?_
 ·rintro σ H2 ⟨tl,D,p,f,rfl,s2,⟨xs,ag,dn⟩,ai,eD,Dl,eN⟩
  have lx:xs.length=D.length:=by
   have:=dn.length
   rw[List.length_map] at this
   exact this.symm
  refine⟨_,rfl,_,rfl,tl,_,rfl,.inr (sqT ag),_,_,rfl,rfl,_,rfl,?_⟩
  by_cases c:p<D.length
  ·refine zf0 (decide_eq_true (show(p:Int)<((xs.length:Nat):Int) by omega)) ?_
   obtain⟨f',rfl⟩:∃f',f=f'+1:=⟨f-1,by omega⟩
   refine⟨_,rfl,_,rfl,_,rfl,_,rfl,s2.tab ta,tb,tl,m,p,B,D,rfl,hB.same s2,⟨xs,ag,dn⟩,c,m1,m9,ak,ai,Bl,Dl,fun H3 s3=>?_⟩
   have af:H3 tl=some (.tup xs):=s3 _ _ ag
   refine⟨rfl,_,rfl,?_⟩
   have ah:(if zei m B D p=none then zb8 m B f' (D.eraseIdx p) p else zb8 m B f' D (p+1))=zb8 m B C.length C 0:=eN
   cases e:zei m B D p with
   |none=>
    refine zfz rfl ?_
    rw[if_pos e] at ah
    refine⟨_,rfl,_,rfl,tl,D,p,rfl,⟨xs,af,DnL.same s3 _ _ dn⟩,c,by omega,fun t4 H4 s4 ⟨ys,h4,d4⟩=>?_⟩
    have le:(D.eraseIdx p).length+1=D.length:=by
     rw[List.length_eraseIdx,if_pos c]
     omega
    have ly:=d4.length
    rw[List.length_map] at ly
    refine⟨⟨t4,D.eraseIdx p,p,f',rfl,s2.trans (s3.trans s4),⟨ys,h4,d4⟩,fun t ht=>ai t (List.mem_of_mem_eraseIdx ht),by omega,by omega,ah⟩,?_⟩
    show(match H4 t4 with|some (.tup xs)=>xs.length-((p:Nat):Int).toNat|_=>0)<(match H2 tl with|some (.tup xs)=>xs.length-((p:Nat):Int).toNat|_=>0)
    rw[h4,ag]
    show ys.length-((p:Nat):Int).toNat<xs.length-((p:Nat):Int).toNat
    omega
   |some w0=>
    refine zb5 (fun z=>nomatch z) ?_
    rw[e,if_neg (fun z=>nomatch z)] at ah
    refine⟨_,rfl,_,_,rfl,rfl,?_⟩
    have e1:(p:Int)+1=((p+1:Nat):Int):=by omega
    refine⟨⟨tl,D,p+1,f',by rw[←e1];rfl,s2.trans s3,⟨xs,af,DnL.same s3 _ _ dn⟩,ai,by omega,Dl,ah⟩,?_⟩
    show(match H3 tl with|some (.tup xs)=>xs.length-((p:Int)+1).toNat|_=>0)<(match H2 tl with|some (.tup xs)=>xs.length-((p:Nat):Int).toNat|_=>0)
    rw[af,ag]
    show xs.length-((p:Int)+1).toNat<xs.length-((p:Nat):Int).toNat
    omega
  ·refine zdc (decide_eq_false (show ¬(p:Int)<((xs.length:Nat):Int) by omega)) ?_
   obtain rfl:f=0:=by omega
   refine⟨_,rfl,?_⟩
   have aj:D=zb8 m B C.length C 0:=eN
   exact q tl H2 s2 ⟨xs,ag,by rw[←aj];exact dn⟩
 ·rintro σ H2 Q1 Q2 mono ⟨x1,h1,x2,h2,pq,ys,h3,h4,i,j,h5,h6,b,h7,h8⟩
  exact⟨x1,h1,x2,h2,pq,ys,h3,h4,i,j,h5,h6,b,h7,mono _ _ h8⟩
theorem zm3(T:Txt K mg a d):FnOk P w K mg base CX0 3 a.f_tightened d.f_tightened ["bough", "sold"] zv7:=by
 have ae:=zew (P:=P) (w:=w) (base:=base) T
 have ad:=zel (P:=P) (w:=w) (base:=base) T
 refine T.K_tightened.ok sc_tightened (fun vs H Q E h=>?_) (fun cdv A outer s H vs Q E hr h=>?_)
 ·obtain⟨v,ls,b,sold,rfl,_⟩:=h
  rfl
 obtain⟨v,ls,b,sold,rfl,hd,kl,ag,sl,⟨w0,ar,aq⟩,q⟩:=h
 obtain⟨p,pk,rfl,hp,ai⟩:=zc6 hd
 refine⟨_,(zae (zgm (i:=2) sc_tightened.nd rfl rfl rfl (N':=["ware", "bough"]) (n:=1) (kp:=[0]) rfl (piL (K:=K) (pv 1)) rfl rfl rfl (fun _ _ _ _ _=>(zaw (i:=0) (of_decide_eq_true rfl) rfl (Or.inl rfl))) (fun _ _ _ _ _=>(zbz (za9 (zaf ae hr.lv rfl T.K_has (zaa (pv 0) (zaa (zap (ixT (K:=K)) (pv 1) zad (fun _ _=>rfl)) zab)))))) (fun _ _ _ _ _=>(zaf ad hr.lv rfl T.K_count_in (zaa (zap (ixT (K:=K)) (pv 1) zad (fun _ _=>rfl)) (zaa (pv 0) zab)))))
   (zah (zao (zbc (zaa (zap (ixT (K:=K)) (pv 0) zad (fun _ _=>rfl)) (zaa (zan (zlw (K:=K) rfl) rfl T.m_min PyProof.Rows.boot_min (zaa (pv 2) zab)) (zaa (zan (zle (K:=K) rfl) rfl T.m_max PyProof.Rows.boot_max (zaa (pv 2) zab)) (zaa (zap (ixT (K:=K)) (pv 0) zad (fun _ _=>rfl)) zab)))))))),?_⟩
 refine⟨_,rfl,ls,rfl,⟨_,SqL.of ag⟩,?_⟩
 refine zdl (K:=K) (a:=ls) (xs:=zaj sold) (fun i ys σ H2=>(∃v,σ=[v,some (.ref p)])∧Same H H2∧ys=zaj (((sold.take i).filter fun w=>w.testBit b.u).map (cnt b.ks))) ⟨⟨none,rfl⟩,Same.refl _,rfl⟩ (fun i ys σ H2 hi pv=>?_) (fun i ys σ H2 hi pv=>?_) (fun i x ys σ H2 hx pv=>?_) (fun ys σ H2 pv lc aj=>?_)
 ·obtain⟨_,_,rfl⟩:=pv
  rw[List.length_map,List.length_map]
  refine small (Nat.le_trans (List.length_filter_le _ _) ?_)
  rw[List.length_take]
  omega
 ·exact SqL.of (pv.2.1 _ _ ag)
 ·obtain⟨⟨v,rfl⟩,s2,rfl⟩:=pv
  rw[List.getElem?_map] at hx
  obtain⟨wa,ao,rfl⟩:=Option.map_eq_some_iff.mp hx
  have ek:(sold.take (i+1)).filter (fun w=>w.testBit b.u)=(sold.take i).filter (fun w=>w.testBit b.u)++(if wa.testBit b.u=true then [wa] else []):=by
   rw[List.take_add_one,ao,Option.toList_some,List.filter_append]
   cases z:wa.testBit b.u<;>simp[z]
  refine⟨_,rfl,_,rfl,p,_,_,_,rfl,rfl,sqT (s2 _ _ hp),at0,_,_,rfl,_,rfl,?_⟩
  rw[zbl]
  refine zbn (fun c=>?_) (fun c=>?_)
  ·refine⟨_,rfl,p,_,_,_,rfl,rfl,sqT (s2 _ _ hp),at3,_,rfl,pk,b.ks,wa,rfl,s2 _ _ ai,kl,fun H3 s3=>?_⟩
   refine⟨⟨_,rfl⟩,s2.trans s3,?_⟩
   rw[ek,if_pos c,List.map_append,zcz]
   rfl
  ·refine⟨⟨_,rfl⟩,s2,?_⟩
   rw[ek,if_neg c,List.append_nil]
 obtain⟨_,s2,rfl⟩:=pv
 have am:(zaj sold).length=sold.length:=List.length_map _
 rw[am,List.take_length]
 have ah:=zag aj (.lst (zaj ((sold.filter fun w=>w.testBit b.u).map (cnt b.ks))))
 have s3:=s2.trans ah
 have g3:L2.upd H2 lc (.lst (zaj ((sold.filter fun w=>w.testBit b.u).map (cnt b.ks)))) lc=some (.lst (zaj ((sold.filter fun w=>w.testBit b.u).map (cnt b.ks)))):=zac
 generalize L2.upd H2 lc (.lst (zaj ((sold.filter fun w=>w.testBit b.u).map (cnt b.ks))))=H3 at s3 g3 ah ⊢
 have af:=s3 _ _ hp
 have cm:∀M:Int,M∈((sold.filter fun w=>w.testBit b.u).map (cnt b.ks)).map (fun k:Nat=>(k:Int))↔∃w∈sold,w.testBit b.u=true∧M=(cnt b.ks w:Int):=fun M=>by
  rw[List.map_map,List.mem_map]
  constructor
  ·rintro⟨w,hw,e⟩
   obtain⟨h1,h2⟩:=List.mem_filter.mp hw
   exact⟨w,h1,h2,e.symm⟩
  ·rintro⟨w,h1,h2,e⟩
   exact⟨w,List.mem_filter.mpr ⟨h1,h2⟩,e.symm⟩
 have pos:0<(((sold.filter fun w=>w.testBit b.u).map (cnt b.ks)).map (fun k:Nat=>(k:Int))).length:=by
  rw[List.length_map,List.length_map]
  exact List.length_pos_of_mem (List.mem_filter.mpr ⟨ar,aq⟩)
 have sq:SqL K H3 lc ((((sold.filter fun w=>w.testBit b.u).map (cnt b.ks)).map (fun k:Nat=>(k:Int))).map V.int):=SqL.of (by rw[zf7];exact g3)
 refine⟨_,rfl,p,_,_,_,rfl,rfl,sqT af,at0,_,rfl,lc,_,rfl,sq,pos,fun lo au al=>?_⟩
 refine⟨_,rfl,lc,_,rfl,sq,pos,fun hi ap av=>?_⟩
 refine⟨_,rfl,p,_,_,_,rfl,rfl,sqT af,at3,small (by show 4≤1000;decide),fun tn ak=>?_⟩
 have s4:=zag ak (.tup [.int (b.u:Int),.int lo,.int hi,.ref pk])
 refine q ⟨b.u,lo,hi,b.ks⟩ _ _ (s3.trans s4) ⟨rfl,rfl,(cm lo).mp au,fun w hw hb=>al _ ((cm _).mpr ⟨w,hw,hb,rfl⟩),(cm hi).mp ap,fun w hw hb=>av _ ((cm _).mpr ⟨w,hw,hb,rfl⟩)⟩ ?_
 exact⟨tn,_,rfl,zac,_,_,rfl,rfl,_,_,rfl,rfl,_,_,rfl,rfl,_,_,rfl,⟨pk,_,rfl,s4 _ _ (s3 _ _ ai),zjj _⟩,rfl⟩
theorem zk5(T:Txt K mg a d):FnOk P w K mg base CX0 3 a.f_first_with d.f_first_with ["sold", "bough", "count"] zol:=by
 have ae:=zew (P:=P) (w:=w) (base:=base) T
 have ad:=zel (P:=P) (w:=w) (base:=base) T
 refine T.K_first_with.ok zk8 (fun vs H Q E h=>?_) (fun cdv A outer s H vs Q E hr h=>?_)
 ·obtain⟨ls,v,b,sold,c,w0,rfl,_⟩:=h
  rfl
 obtain⟨ls,v,b,sold,c,w0,rfl,hd,kl,af,sl,hf,q⟩:=h
 obtain⟨p,pk,rfl,hp,ak⟩:=zc6 hd
 refine⟨_,(zah (zao (zap (ixL (K:=K)) (zdo (N':=["ware", "count", "bough"]) (n:=1) (kp:=[2,1]) rfl (piL (K:=K) (pv 0)) rfl rfl rfl (fun _ _ _ _ _=>(zaw (i:=0) (of_decide_eq_true rfl) rfl (Or.inl rfl))) (fun _ _ _ _ _=>(zbz (PW.pt (zhk (za9 (zaf ae hr.lv rfl T.K_has (zaa (pv 0) (zaa (zap (ixT (K:=K)) (pv 2) zad (fun _ _=>rfl)) zab)))) (zfm (zar zbp (zaf ad hr.lv rfl T.K_count_in (zaa (zap (ixT (K:=K)) (pv 2) zad (fun _ _=>rfl)) (zaa (pv 0) zab))) (pv 1) (zav _))))))) (fun _ _ _ _ _=>(pv 0))) zad (fun _ _=>rfl)))),?_⟩
 refine⟨_,rfl,ls,rfl,⟨_,SqL.of af⟩,?_⟩
 refine zdl (K:=K) (a:=ls) (xs:=zaj sold) (fun i ys σ H2=>(∃v,σ=[v,some (.int c),some (.ref p)])∧Same H H2∧ys=zaj ((sold.take i).filter fun w=>w.testBit b.u&&decide ((cnt b.ks w:Int)=c))) ⟨⟨none,rfl⟩,Same.refl _,rfl⟩ (fun i ys σ H2 hi pv=>?_) (fun i ys σ H2 hi pv=>?_) (fun i x ys σ H2 hx pv=>?_) (fun ys σ H2 pv lc ah=>?_)
 ·obtain⟨_,_,rfl⟩:=pv
  rw[List.length_map]
  refine small (Nat.le_trans (List.length_filter_le _ _) ?_)
  rw[List.length_take]
  omega
 ·exact SqL.of (pv.2.1 _ _ af)
 ·obtain⟨⟨v,rfl⟩,s2,rfl⟩:=pv
  rw[List.getElem?_map] at hx
  obtain⟨wa,aj,rfl⟩:=Option.map_eq_some_iff.mp hx
  have ek:∀z,(wa.testBit b.u&&decide ((cnt b.ks wa:Int)=c))=z→(sold.take (i+1)).filter (fun w=>w.testBit b.u&&decide ((cnt b.ks w:Int)=c))=(sold.take i).filter (fun w=>w.testBit b.u&&decide ((cnt b.ks w:Int)=c))++(if z=true then [wa] else []):=fun z hz=>by
   rw[List.take_add_one,aj,Option.toList_some,List.filter_append]
   congr 1
   cases z
   ·rw[List.filter_cons_of_neg (by rw[hz];exact Bool.false_ne_true)];rfl
   ·rw[List.filter_cons_of_pos (by exact hz)];rfl
  refine⟨_,rfl,_,rfl,p,_,_,_,rfl,rfl,sqT (s2 _ _ hp),at0,_,_,rfl,_,rfl,?_⟩
  rw[zbl]
  refine zbn (fun c1=>?_) (fun c1=>?_)
  ·refine⟨_,rfl,p,_,_,_,rfl,rfl,sqT (s2 _ _ hp),at3,_,rfl,pk,b.ks,wa,rfl,s2 _ _ ak,kl,fun H3 s3=>?_⟩
   refine⟨_,rfl,rfl,_,rfl,?_⟩
   by_cases c2:(cnt b.ks wa:Int)=c
   ·refine zfz (by rw[c2]) ?_
    refine⟨_,rfl,⟨_,rfl⟩,s2.trans s3,?_⟩
    rw[ek true (by rw[c1,decide_eq_true c2];rfl),if_pos rfl,zcz]
    rfl
   ·refine zb5 (fun z=>c2 (by injection z)) ?_
    refine⟨⟨_,rfl⟩,s2.trans s3,?_⟩
    rw[ek false (by rw[decide_eq_false c2,Bool.and_false]),if_neg Bool.false_ne_true,List.append_nil]
  ·refine zc5 ?_
   refine⟨⟨_,rfl⟩,s2,?_⟩
   rw[ek false (by rw[Bool.eq_false_iff.mpr c1,Bool.false_and]),if_neg Bool.false_ne_true,List.append_nil]
 obtain⟨_,s2,rfl⟩:=pv
 have ai:(zaj sold).length=sold.length:=List.length_map _
 rw[ai,List.take_length]
 have h0:(sold.filter fun w=>w.testBit b.u&&decide ((cnt b.ks w:Int)=c))[0]?=some w0:=by
  rw[←List.head?_eq_getElem?,List.head?_filter]
  exact hf
 have ag:=zag ah (.lst (zaj (sold.filter fun w=>w.testBit b.u&&decide ((cnt b.ks w:Int)=c))))
 have g3:L2.upd H2 lc (.lst (zaj (sold.filter fun w=>w.testBit b.u&&decide ((cnt b.ks w:Int)=c)))) lc=some (.lst (zaj (sold.filter fun w=>w.testBit b.u&&decide ((cnt b.ks w:Int)=c)))):=zac
 generalize L2.upd H2 lc (.lst (zaj (sold.filter fun w=>w.testBit b.u&&decide ((cnt b.ks w:Int)=c))))=H3 at ag g3 ⊢
 refine⟨lc,_,_,.int (w0:Int),rfl,rfl,SqL.of g3,zc8 (by rw[List.getElem?_map,h0];rfl),?_⟩
 exact q H3 (s2.trans ag)
theorem zrj(T:Txt K mg a d)(LB:zhn mg base a.c_cases_of a.t_cases_of):FnOk P w K mg base CX0 25 a.f_folded d.f_folded ["wood"] (spT a.t_cases_of ztg):=by
 have ak:=zh2 (P:=P) (w:=w) (base:=base) T LB
 have aD:=zew (P:=P) (w:=w) (base:=base) T
 have ag:=zku (P:=P) (w:=w) (base:=base) T
 have ah:=zk6 (P:=P) (w:=w) (base:=base) T
 have ai:=zm3 (P:=P) (w:=w) (base:=base) T
 have ae:=zk5 (P:=P) (w:=w) (base:=base) T
 have af:=zeq (P:=P) (w:=w) (base:=base) T LB
 have ad:=zg4 (P:=P) (w:=w) (base:=base) T LB
 refine T.K_folded.ok sc_folded (fun vs H Q E h=>?_) (fun cdv A outer s H vs Q E hr h=>?_)
 ·obtain⟨_,wd,tb,tc,m,L,C,rfl,_⟩:=h
  rfl
 obtain⟨ta,wd,tb,tc,m,L,C,rfl,W,aC,q⟩:=h
 have aJ:(2:Int)^62=4611686018427387904:=by decide
 have m1:=W.m1
 have m9:=W.m9
 have kpos:=zj8 aC
 have cn:=zgu m (zal L C)
 have few:=zgz (m:=m) (ts:=zal L C) m9
 obtain⟨cF,cg,cj⟩:=zt6 (X:=(zdw CX0 P w K mg base ["wood", "sold", "kept", "boughs", "cross", "tight", "needed"] "folded" (zai zb4) a.f_folded cdv A outer s H E).nox) (st:=(zbe zb4).drop 3) (zae (zax (i:=3) sc_folded.nd rfl (Or.inr rfl) (zaf ag hr.lv rfl T.K_boughs_left (zaa (zap (ixT (K:=K)) (pv 0) zad (fun _ _=>rfl)) (zaa (pv 2) zab))))
   (zae (zax (i:=4) sc_folded.nd rfl (Or.inr rfl) (zaf ah hr.lv rfl T.K_cross_left (zaa (zap (ixT (K:=K)) (pv 0) zad (fun _ _=>rfl)) (zaa (pv 2) zab))))
   (zae (zax (i:=1) sc_folded.nd rfl (Or.inr rfl) (zaf ak hr.lv rfl T.K_wares (zaa (zbc (zaa (zan (zb9 (K:=K)) rfl T.m_len PySem.boot_len (zaa (pv 2) zab)) (zaa (pv 3) (zaa (pv 4) zab)))) zab)))
   (zae (zax (i:=3) sc_folded.nd rfl (Or.inr rfl) (za4 za5 rfl T.m_tuple PyProof.Rows.boot_tuple (zaa (zdo (N':=["bough", "sold"]) (n:=1) (kp:=[1]) rfl (piT (K:=K) (pv 3)) rfl rfl rfl (fun _ _ _ _ _=>(zaw (i:=0) (of_decide_eq_true rfl) rfl (Or.inl rfl))) (fun _ _ _ _ _=>zes) (fun _ _ _ _ _=>(zaf ai hr.lv rfl T.K_tightened (zaa (pv 0) (zaa (pv 1) zab))))) zab)))
   (zae (zax (i:=4) sc_folded.nd rfl (Or.inr rfl) (zaf ad hr.lv rfl T.K_without_needless (zaa (zan (zb9 (K:=K)) rfl T.m_len PySem.boot_len (zaa (pv 2) zab)) (zaa (pv 3) (zaa (pv 4) zab)))))
   (zae (zgm (i:=5) sc_folded.nd rfl rfl rfl (N':=["bough", "sold"]) (n:=1) (kp:=[1]) rfl (piT (K:=K) (pv 3)) rfl rfl rfl (fun _ _ _ _ _=>(zaw (i:=0) (of_decide_eq_true rfl) rfl (Or.inl rfl))) (fun _ _ _ _ _=>zes) (fun _ _ _ _ _=>(zbc (zaa (zaf ae hr.lv rfl T.K_first_with (zaa (pv 1) (zaa (pv 0) (zaa (zap (ixT (K:=K)) (pv 0) zad (fun _ _=>rfl)) zab)))) (zaa (zaf ae hr.lv rfl T.K_first_with (zaa (pv 1) (zaa (pv 0) (zaa (zap (ixT (K:=K)) (pv 0) zad (fun _ _=>rfl)) zab)))) zab)))))
   (zae (zgm (i:=6) sc_folded.nd rfl rfl rfl (N':=["place", "boughs", "cross", "kept"]) (n:=1) (kp:=[3,4,2]) rfl (zd0 rfl T.m_range (zaa (zan (zb9 (K:=K)) rfl T.m_len PySem.boot_len (zaa (pv 4) zab)) zab)) rfl rfl rfl (fun _ _ _ _ _=>(zaw (i:=0) (of_decide_eq_true rfl) rfl (Or.inl rfl))) (fun _ _ _ _ _=>zes) (fun _ _ _ _ _=>(zaf af hr.lv rfl T.K_first_breaking (zaa (zan (zb9 (K:=K)) rfl T.m_len PySem.boot_len (zaa (pv 3) zab)) (zaa (pv 1) (zaa (pv 2) (zaa (pv 0) zab)))))))
   (zah (zao (zbc (zaa (zbc (zaa (zan (zb9 (K:=K)) rfl T.m_len PySem.boot_len (zaa (pv 2) zab)) (zaa (pv 3) (zaa (pv 4) zab)))) (zaa (pv 2) (zaa (pv 5) (zaa (pv 6) zab))))))))))))))
 refine⟨_,(zae (zax (i:=1) sc_folded.nd rfl (Or.inr rfl) (zaf ak hr.lv rfl T.K_wares (zaa (pv 0) zab)))
   (zae (zaz (zar zbp (zan (zb9 (K:=K)) rfl T.m_len PySem.boot_len (zaa (pv 1) zab)) zad (zav _)) (zah zdr) zas)
   (zae (zax (i:=2) sc_folded.nd rfl (Or.inr rfl) (zw3 (N':=["k", "sold"]) (n:=1) (kp:=[1]) rfl (zd0 rfl T.m_range (zaa (zap (ixT (K:=K)) (pv 0) zad (fun _ _=>rfl)) zab)) rfl rfl rfl (fun _ _ _ _ _=>(zaw (i:=0) (of_decide_eq_true rfl) rfl (Or.inr rfl))) (fun _ _ _ _ _=>(zbz (za9 (zan (zo1 (K:=K) rfl) rfl T.m_any PyProof.Rows.boot_any (zaa (zdo (sc0:=(zgd (lcS (zxk (zbe zb4)[2]?)) (zai zb4))) (N':=["ware", "k"]) (n:=1) (kp:=[0]) rfl (piL (K:=K) (pv 1)) rfl rfl rfl (fun _ _ _ _ _=>(zaw (i:=0) (of_decide_eq_true rfl) rfl (Or.inl rfl))) (fun _ _ _ _ _=>zes) (fun _ _ _ _ _=>(zaf aD hr.lv rfl T.K_has (zaa (pv 0) (zaa (pv 1) zab))))) zab))))) (fun _ _ _ _ _=>(pv 0))))
   cg))),?_⟩
 refine⟨_,rfl,ta,wd,m,zal L C,rfl,W.woodT,m1,m9,fun ls H1 s1 cJ bx=>?_⟩
 have cD:za1 m (zal L C)≠[]:=fun z=>by
  obtain⟨w0,h1,h2⟩:=aC
  have:=mem_wareL.mpr ⟨h1,h2⟩
  rw[z] at this
  cases this
 have lw:(zaj (za1 m (zal L C))).length=(za1 m (zal L C)).length:=List.length_map _
 have cC:=List.length_pos_iff.mpr cD
 refine⟨_,rfl,ls,_,rfl,.inl (SqL.of bx),rfl,_,rfl,?_⟩
 refine zb5 (fun z=>?_) ?_
 ·injection z with z
  omega
 have W1:=W.same s1
 refine⟨_,rfl,wd,_,_,_,rfl,rfl,sqT W1.at_,at0,_,rfl,by rw[aJ];omega,by rw[aJ];omega,?_⟩
 rw[Int.toNat_natCast]
 refine zfa (k:=m) (fun i zs σ H2=>(∃v,σ=[v,some (.ref ls)])∧Same H1 H2∧zs=zaj ((List.range i).filter fun k=>(za1 m (zal L C)).any fun w=>w.testBit k)) ⟨⟨none,rfl⟩,Same.refl _,rfl⟩ (fun i zs σ H2 hi pv=>?_) (fun i zs σ H2 hi pv=>?_) (fun zs σ H2 pv lk br=>?_)
 ·obtain⟨_,_,rfl⟩:=pv
  rw[List.length_map]
  refine small (Nat.le_trans (List.length_filter_le _ _) ?_)
  rw[List.length_range]
  omega
 ·obtain⟨⟨v,rfl⟩,s2,rfl⟩:=pv
  have am:H2 ls=some (.lst (zaj (za1 m (zal L C)))):=s2 _ _ bx
  refine⟨_,rfl,ls,rfl,⟨_,SqL.of am⟩,?_⟩
  refine zdl (K:=K) (a:=ls) (xs:=zaj (za1 m (zal L C))) (fun j ys σ H3=>(∃v,σ=[v,some (.int (i:Int))])∧H3=H2∧ys=(((za1 m (zal L C)).take j).map fun w=>w.testBit i).map V.bl) ⟨⟨none,rfl⟩,rfl,rfl⟩ (fun j ys σ H3 hj pv=>?_) (fun j ys σ H3 hj pv=>?_) (fun j x ys σ H3 hx pv=>?_) (fun ys σ H3 pv la b7=>?_)
  ·obtain⟨_,_,rfl⟩:=pv
   rw[List.length_map,List.length_map,List.length_take]
   exact small (by omega)
  ·rw[pv.2.1]
   exact SqL.of am
  ·obtain⟨⟨v,rfl⟩,rfl,rfl⟩:=pv
   rw[List.getElem?_map] at hx
   obtain⟨wa,cA,rfl⟩:=Option.map_eq_some_iff.mp hx
   refine⟨_,rfl,_,rfl,_,_,rfl,⟨_,rfl⟩,rfl,?_⟩
   rw[zbl,zev cA,List.map_append]
   rfl
  obtain⟨_,rfl,rfl⟩:=pv
  rw[lw,List.take_length]
  have s3:=zag b7 (.lst (((za1 m (zal L C)).map fun w=>w.testBit i).map V.bl))
  have g3:L2.upd H3 la (.lst (((za1 m (zal L C)).map fun w=>w.testBit i).map V.bl)) la=some (.lst (((za1 m (zal L C)).map fun w=>w.testBit i).map V.bl)):=zac
  generalize L2.upd H3 la (.lst (((za1 m (zal L C)).map fun w=>w.testBit i).map V.bl))=H4 at s3 g3 ⊢
  refine⟨la,_,rfl,SqL.of g3,_,rfl,?_⟩
  have ea:((za1 m (zal L C)).map fun w=>w.testBit i).any id=(za1 m (zal L C)).any fun w=>w.testBit i:=by
   rw[List.any_map]
   rfl
  rw[ea]
  have er:∀z,((za1 m (zal L C)).any fun w=>w.testBit i)=z→(List.range (i+1)).filter (fun k=>(za1 m (zal L C)).any fun w=>w.testBit k)=(List.range i).filter (fun k=>(za1 m (zal L C)).any fun w=>w.testBit k)++(if z=true then [i] else []):=fun z hz=>by
   rw[List.range_succ,List.filter_append]
   congr 1
   cases z
   ·rw[List.filter_cons_of_neg (by rw[hz];exact Bool.false_ne_true)];rfl
   ·rw[List.filter_cons_of_pos (by exact hz)];rfl
  refine zbn (fun c=>?_) (fun c=>?_)
  ·refine⟨_,rfl,⟨_,rfl⟩,s2.trans s3,?_⟩
   rw[er true c,if_pos rfl,zcz]
   rfl
  ·refine⟨⟨_,rfl⟩,s2.trans s3,?_⟩
   rw[er false (Bool.eq_false_iff.mpr c),if_neg Bool.false_ne_true,List.append_nil]
 obtain⟨_,s2,rfl⟩:=pv
 have hk:(List.range m).filter (fun k=>(za1 m (zal L C)).any fun w=>w.testBit k)=zak m (zal L C):=rfl
 rw[hk]
 have bW:H lk=none:=(s1.trans s2).free br
 have bv:=zag br (.lst (zaj (zak m (zal L C))))
 have s3:=(s1.trans s2).trans bv
 have g3:L2.upd H2 lk (.lst (zaj (zak m (zal L C)))) lk=some (.lst (zaj (zak m (zal L C)))):=zac
 generalize L2.upd H2 lk (.lst (zaj (zak m (zal L C))))=H3 at bv s3 g3 ⊢
 refine cj _ _ _ ?_
 have W3:=W.same s3
 have pw:=zgo m (zal L C)
 refine⟨_,rfl,wd,_,_,_,rfl,rfl,sqT W3.at_,at1,_,rfl,tb,lk,L,zak m (zal L C),m,rfl,W3.bs,g3,pw,by omega,W.fewb,m9,W.okb,fun b hb=>zeg (List.mem_append.mpr (.inl (List.mem_map.mpr ⟨b,hb,rfl⟩))),fun aw H4 s4 bY=>?_⟩
 have W4:=W3.same s4
 have g4:H4 lk=some (.lst (zaj (zak m (zal L C)))):=s4 _ _ g3
 refine⟨_,rfl,wd,_,_,_,rfl,rfl,sqT W4.at_,at2,_,rfl,tc,lk,C,zak m (zal L C),m,rfl,W4.cs,g4,pw,by omega,W.fewc,m9,W.okc,W.nb,fun aA H5 s5 bS=>?_⟩
 have bX:=s4.trans s5
 have g5:H5 lk=some (.lst (zaj (zak m (zal L C)))):=s5 _ _ g4
 have aF:(zaj (zak m (zal L C))).length=(zak m (zal L C)).length:=List.length_map _
 have bd:∀b∈fL1 m L C,Tie.BoughOkW (zak m (zal L C)).length b.u b.lo b.hi b.ks:=fun b' aN=>by
  obtain⟨b,hb,e⟩:=List.mem_filterMap.mp aN
  exact zmb pw (W.okb b hb) (zeg (List.mem_append.mpr (.inl (List.mem_map.mpr ⟨b,hb,rfl⟩)))) e
 have ar:∀t∈fC1 m L C,t.Ok (zak m (zal L C)).length:=fun t ht=>by
  obtain⟨c,hc,e⟩:=List.mem_filterMap.mp ht
  exact zm7 pw (W.okc c hc) (W.nb c hc) e
 have cG:True:=trivial
 have bR:(fL1 m L C).length≤20:=Nat.le_trans (List.length_filterMap_le _ _) W.fewb
 have bw:(fC1 m L C).length≤20:=Nat.le_trans (List.length_filterMap_le _ _) W.fewc
 have al:∀(M:List Bg),(∀b∈M,Tie.BoughOkW (zak m (zal L C)).length b.u b.lo b.hi b.ks)→∀t∈M.map Bg.tie,t.Ok (zak m (zal L C)).length:=fun M hM t ht=>by
  obtain⟨b,hb,rfl⟩:=List.mem_map.mp ht
  exact hM b hb
 refine⟨_,rfl,lk,_,rfl,.inl (SqL.of g5),?_⟩
 rw[aF]
 refine⟨_,rfl,_,rfl,small (by show 3≤1000;decide),fun w1 bU=>?_⟩
 have aG:=zag bU (.tup [.int ((zak m (zal L C)).length:Int),.ref aw,.ref aA])
 have s6:=bX.trans aG
 have gw:L2.upd H5 w1 (.tup [.int ((zak m (zal L C)).length:Int),.ref aw,.ref aA]) w1=some (.tup [.int ((zak m (zal L C)).length:Int),.ref aw,.ref aA]):=zac
 generalize L2.upd H5 w1 (.tup [.int ((zak m (zal L C)).length:Int),.ref aw,.ref aA])=H6 at aG s6 gw ⊢
 have bg:=(bY.same s5).same aG
 have bi:=bS.same aG
 have Wf:WoodT H6 w1 (zak m (zal L C)).length (zal (fL1 m L C) (fC1 m L C)):=zfo gw bg bi (fun t ht=>(List.mem_append.mp ht).elim (al _ bd t) (ar t)) (by rw[List.length_append,List.length_map];omega) (by omega)
 have bO:=s3.trans s6
 refine⟨bO.tab ta,w1,(zak m (zal L C)).length,zal (fL1 m L C) (fC1 m L C),rfl,Wf,kpos,by omega,fun au H7 s7 bT am=>?_⟩
 have aZ:=zgz (m:=(zak m (zal L C)).length) (ts:=zal (fL1 m L C) (fC1 m L C)) (by omega)
 have bt:(zcs m L C).length≤512:=aZ
 have ax:H7 au=some (.lst (zaj (zcs m L C))):=am
 obtain⟨xb,bp,bz⟩:=bg.same s7
 have cx:xb.length=(fL1 m L C).length:=by
  have:=bz.length
  rw[List.length_map,List.length_map] at this
  exact this.symm
 refine⟨_,rfl,aw,rfl,⟨_,sqT bp⟩,?_⟩
 refine zey (K:=K) (a:=aw) (xs:=xb) (fun i ys σ H8=>(∃v,σ=[v,some (.ref au)])∧Same H7 H8∧∃M2:List Bg,TightL (zcs m L C) ((fL1 m L C).take i) M2∧DnL H8 ((M2.map Bg.tie).map Tie.toD) ys) ⟨⟨none,rfl⟩,Same.refl _,[],rfl,rfl⟩ (fun i ys σ H8 hi pv=>?_) (fun i ys σ H8 hi pv=>?_) (fun i x ys σ H8 hx pv=>?_) (fun ys σ H8 pv aI aW=>?_)
 ·obtain⟨_,_,M2,tl,dl⟩:=pv
  have:=dl.length
  rw[List.length_map,List.length_map,tl.length,List.length_take] at this
  exact small (by omega)
 ·exact sqT (pv.2.1 _ _ bp)
 ·obtain⟨⟨v,rfl⟩,s8,M2,tl,dl⟩:=pv
  obtain⟨t0,az,hd⟩:=zm9 (DnL.same s8 _ _ bz) hx
  rw[List.getElem?_map] at az
  obtain⟨b,hb,rfl⟩:=Option.map_eq_some_iff.mp az
  have bN:=List.mem_of_getElem? hb
  have aQ:=bd b bN
  refine⟨_,rfl,_,rfl,x,au,b,zcs m L C,rfl,hd,Nat.le_trans aQ.few (by omega),s8 _ _ ax,by omega,zu7 (w0:=0) W.nb bN,fun b' v' H9 s9 tg dv=>?_⟩
  refine⟨⟨_,rfl⟩,s8.trans s9,M2++[b'],?_,?_⟩
  ·have aN:(fL1 m L C)[i]?=some b:=hb
   rw[List.take_add_one,aN,Option.toList_some]
   exact tl.snoc tg
  ·rw[List.map_append,List.map_append]
   exact(DnL.same s9 _ _ dl).append ⟨v',[],rfl,dv,rfl⟩
 obtain⟨_,s8,M2,tl,dl⟩:=pv
 rw[cx,List.take_length] at tl
 have aP:=zag aW (.lst ys)
 have bM:L2.upd H8 aI (.lst ys) aI=some (.lst ys):=zac
 have bK:=DnL.same aP _ _ dl
 generalize L2.upd H8 aI (.lst ys)=H9 at aP bM bK ⊢
 refine⟨aI,_,rfl,.inl ⟨SqL.of bM,fun aj aX=>?_⟩⟩
 have ba:=zag aX (.tup ys)
 have gA:L2.upd H9 aj (.tup ys) aj=some (.tup ys):=zac
 have bu:=DnL.same ba _ _ bK
 generalize L2.upd H9 aj (.tup ys)=HA at ba gA bu ⊢
 have bq:=(s8.trans aP).trans ba
 have aL:TiesAt HA aj (M2.map Bg.tie):=⟨ys,gA,bu⟩
 have aY:=tl.ok bd
 have bG:M2.length≤20:=by rw[tl.length];exact bR
 have aT:=s7.trans bq
 have aH:=bO.trans aT
 have av:HA lk=some (.lst (zaj (zak m (zal L C)))):=(s6.trans aT) _ _ g3
 refine⟨_,rfl,lk,_,rfl,.inl (SqL.of av),?_⟩
 rw[aF]
 refine⟨_,rfl,_,rfl,aH.tab ta,aj,aA,(zak m (zal L C)).length,M2.map Bg.tie,fC1 m L C,rfl,aL,bi.same aT,kpos,by omega,al _ aY,ar,by rw[List.length_map];exact bG,bw,fun ao HB sB cy=>?_⟩
 have aq:TiesAt HB ao (fC2 m L C M2):=cy
 have cB:=aL.same sB
 obtain⟨bB,ay,aE⟩:=cB
 have aU:bB.length=M2.length:=by
  have:=aE.length
  rw[List.length_map,List.length_map] at this
  exact this.symm
 have cp:=bq.trans sB
 have aB:HB au=some (.lst (zaj (zcs m L C))):=cp _ _ ax
 refine⟨_,rfl,aj,rfl,⟨_,sqT ay⟩,?_⟩
 refine zey (K:=K) (a:=aj) (xs:=bB) (fun i ys σ H8=>(∃v,σ=[v,some (.ref au)])∧Same HB H8∧DnL H8 ((M2.take i).map (zpw (zcs m L C))) ys) ⟨⟨none,rfl⟩,Same.refl _,rfl⟩ (fun i ys σ H8 hi pv=>?_) (fun i ys σ H8 hi pv=>?_) (fun i x ys σ H8 hx pv=>?_) (fun xt σ H8 pv lt aV=>?_)
 ·have:=pv.2.2.length
  rw[List.length_map,List.length_take] at this
  exact small (by omega)
 ·exact sqT (pv.2.1 _ _ ay)
 ·obtain⟨⟨v,rfl⟩,s8,dl⟩:=pv
  obtain⟨t0,az,hd⟩:=zm9 (DnL.same s8 _ _ aE) hx
  rw[List.getElem?_map] at az
  obtain⟨b,hb,rfl⟩:=Option.map_eq_some_iff.mp az
  have aQ:=aY b (List.mem_of_getElem? hb)
  have bH:b.ks.length≤1000:=Nat.le_trans aQ.few (by omega)
  obtain⟨b0,cH,tg⟩:=tl.get hb
  obtain⟨wl,bE⟩:=tg.first_lo
  obtain⟨wh,bF⟩:=tg.first_hi
  obtain⟨p,pk,rfl,hp,cI⟩:=zc6 hd
  refine⟨_,rfl,_,rfl,_,rfl,p,_,_,_,rfl,rfl,sqT hp,at1,au,.ref p,b,zcs m L C,b.lo,wl,rfl,hd,bH,s8 _ _ aB,by omega,bE,fun H9 s9=>?_⟩
  refine⟨_,rfl,_,rfl,_,rfl,p,_,_,_,rfl,rfl,sqT (s9 _ _ hp),at2,au,.ref p,b,zcs m L C,b.hi,wh,rfl,Dn.same s9 _ _ hd,bH,(s8.trans s9) _ _ aB,by omega,bF,fun HC sC=>?_⟩
  refine⟨small (by show 2≤1000;decide),fun tn ce=>?_⟩
  have sD:=zag ce (.tup [.int (wl:Int),.int (wh:Int)])
  refine⟨⟨_,rfl⟩,s8.trans ((s9.trans sC).trans sD),?_⟩
  rw[zev hb]
  refine(DnL.same ((s9.trans sC).trans sD) _ _ dl).append ⟨_,[],rfl,?_,rfl⟩
  unfold zpw
  rw[bE,bF]
  exact⟨tn,_,rfl,zac,_,_,rfl,rfl,_,_,rfl,rfl,rfl⟩
 obtain⟨_,s8,dt⟩:=pv
 rw[aU,List.take_length] at dt
 have bZ:H8 lt=none:=aV
 have be:=zag aV (.lst xt)
 have gD:L2.upd H8 lt (.lst xt) lt=some (.lst xt):=zac
 have bL:=DnL.same be _ _ dt
 generalize L2.upd H8 lt (.lst xt)=HD at be gD bL ⊢
 have ap:=s8.trans be
 have aS:=aq.same ap
 obtain⟨xc,bQ,cz⟩:=aS
 have bP:xc.length=(fC2 m L C M2).length:=by
  have:=cz.length
  rw[List.length_map] at this
  exact this.symm
 have cE:(fC2 m L C M2).length≤20:=Nat.le_trans (needless_sub.length_le) bw
 have aR:∀t∈fC2 m L C M2,t.Ok (zak m (zal L C)).length:=fun t ht=>ar t (needless_sub.mem ht)
 have bh:=(aH.trans sB).trans ap
 refine⟨_,rfl,ao,_,rfl,.inr (sqT bQ),_,rfl,by rw[aJ];omega,by rw[aJ];omega,?_⟩
 rw[Int.toNat_natCast,bP]
 refine zfa (k:=(fC2 m L C M2).length) (fun i ys σ HE=>(∃v,σ=[v,some (.ref aj),some (.ref ao),some (.ref lk)])∧Same HD HE∧ys=(List.range i).map fun p=>zo4 (zei (zak m (zal L C)).length (M2.map Bg.tie) (fC2 m L C M2) p)) ⟨⟨none,rfl⟩,Same.refl _,rfl⟩ (fun i ys σ HE hi pv=>?_) (fun i ys σ HE hi pv=>?_) (fun ys σ HE pv ln aK=>?_)
 ·obtain⟨_,_,rfl⟩:=pv
  rw[List.length_map,List.length_range]
  exact small (by omega)
 ·obtain⟨⟨v,rfl⟩,sE,rfl⟩:=pv
  have cq:HE lk=some (.lst (zaj (zak m (zal L C)))):=(((sB.trans ap).trans sE) _ _ av)
  refine⟨_,rfl,lk,_,rfl,.inl (SqL.of cq),?_⟩
  rw[aF]
  refine⟨_,rfl,_,rfl,_,rfl,(bh.trans sE).tab ta,aj,ao,(zak m (zal L C)).length,i,M2.map Bg.tie,fC2 m L C M2,rfl,aL.same ((sB.trans ap).trans sE),aq.same (ap.trans sE),hi,kpos,by omega,al _ aY,aR,by rw[List.length_map];exact bG,cE,fun HF sF=>?_⟩
  refine⟨⟨_,rfl⟩,sE.trans sF,?_⟩
  rw[List.range_succ,List.map_append]
  rfl
 obtain⟨_,sE,rfl⟩:=pv
 have bI:=zag aK (.lst ((List.range (fC2 m L C M2).length).map fun p=>zo4 (zei (zak m (zal L C)).length (M2.map Bg.tie) (fC2 m L C M2) p)))
 have gF:L2.upd HE ln (.lst ((List.range (fC2 m L C M2).length).map fun p=>zo4 (zei (zak m (zal L C)).length (M2.map Bg.tie) (fC2 m L C M2) p))) ln=some (.lst ((List.range (fC2 m L C M2).length).map fun p=>zo4 (zei (zak m (zal L C)).length (M2.map Bg.tie) (fC2 m L C M2) p))):=zac
 generalize L2.upd HE ln (.lst ((List.range (fC2 m L C M2).length).map fun p=>zo4 (zei (zak m (zal L C)).length (M2.map Bg.tie) (fC2 m L C M2) p)))=HF at bI gF ⊢
 have bA:=sE.trans bI
 have bo:=(sB.trans ap).trans bA
 have bV:HF lk=some (.lst (zaj (zak m (zal L C)))):=bo _ _ av
 refine⟨_,rfl,lk,_,rfl,.inl (SqL.of bV),?_⟩
 rw[aF]
 refine⟨_,rfl,_,rfl,small (by show 3≤1000;decide),fun w2 cr=>?_⟩
 have bJ:=zag cr (.tup [.int ((zak m (zal L C)).length:Int),.ref aj,.ref ao])
 have gG:L2.upd HF w2 (.tup [.int ((zak m (zal L C)).length:Int),.ref aj,.ref ao]) w2=some (.tup [.int ((zak m (zal L C)).length:Int),.ref aj,.ref ao]):=zac
 generalize L2.upd HF w2 (.tup [.int ((zak m (zal L C)).length:Int),.ref aj,.ref ao])=HG at bJ gG ⊢
 refine⟨_,rfl,_,rfl,_,rfl,small (by show 4≤1000;decide),fun f hf=>?_⟩
 have bj:=zag hf (.tup [.ref w2,.ref lk,.ref lt,.ref ln])
 have aM:=bJ.trans bj
 have aO:=bA.trans aM
 have bf:=ap.trans aO
 refine q f M2 _ ((aH.trans sB).trans bf) ⟨tl,w2,lk,lt,ln,aj,ao,xt,zac,bj _ _ gG,aL.same (sB.trans bf),aq.same bf,(bo.trans aM) _ _ av,aO _ _ gD,DnL.same aO _ _ bL,aM _ _ gF,bW,?_,?_,?_,?_,?_⟩
 ·exact((aH.trans sB).trans s8).free aV
 ·exact(bh.trans sE).free aK
 ·exact fun z=>by
   have:H8 lk=some (.lst (zaj (zak m (zal L C)))):=(sB.trans s8) _ _ av
   rw[z,bZ] at this
   cases this
 ·exact fun z=>by
   have:HE lk=some (.lst (zaj (zak m (zal L C)))):=((sB.trans ap).trans sE) _ _ av
   rw[z,aK] at this
   cases this
 ·exact fun z=>by
   have:HE lt=some (.lst xt):=sE _ _ gD
   rw[z,aK] at this
   cases this
theorem zp2(T:Txt K mg a d)(LB:zhn mg base a.c_cases_of a.t_cases_of):FnOk P w K mg base (CXR P w) 25 a.f_folded d.f_folded ["wood"] (spT a.t_cases_of (zry a.x_NoWares)):=by
 have ad:=zh2 (P:=P) (w:=w) (base:=base) T LB
 refine T.K_folded.okR sc_folded (fun vs H Q E h=>?_) (fun cdv A outer s H vs Q E hr h=>?_)
 ·obtain⟨_,wd,tb,tc,m,L,C,rfl,_⟩:=h
  rfl
 obtain⟨ta,wd,tb,tc,m,L,C,rfl,W,ae,hE⟩:=h
 have rest:PSs (zdw (CXR P w) P w K mg base ["wood", "sold", "kept", "boughs", "cross", "tight", "needed"] "folded" (zai zb4) a.f_folded cdv A outer s H E) ((zbe zb4).drop 2) (fun _ _ _=>False):=fun _ _ _ _ _ _ h=>h.elim
 refine⟨_,(zae (zax (i:=1) sc_folded.nd rfl (Or.inr rfl) (zaf ad hr.lv rfl T.K_wares (zaa (pv 0) zab)))
   (zae (zaz (zar zbp (zan (zb9 (K:=K)) rfl T.m_len PySem.boot_len (zaa (pv 1) zab)) zad (zav _)) (zah (zsj rfl rfl T.g_NoWares T.x_NoWares.cl (zaa zbq zab) (fun _ _ _ _ _ _ _ I hx hW=>zux I hx hW))) zas)
   rest)),?_⟩
 refine⟨_,rfl,ta,wd,m,zal L C,rfl,W.woodT,W.m1,W.m9,fun ls H1 s1 ag af=>?_⟩
 have e:za1 m (zal L C)=[]:=by
  rw[List.eq_nil_iff_forall_not_mem]
  intro s hs
  obtain⟨h1,h2⟩:=mem_wareL.mp hs
  rw[ae s h1] at h2
  cases h2
 rw[e] at af
 refine⟨_,rfl,ls,_,rfl,.inl (SqL.of af),rfl,_,rfl,?_⟩
 refine zfz rfl ?_
 exact⟨by show 1≤1000;decide,hE _ s1⟩
theorem zc0(T:Txt K mg a d):FnOk P w K mg base CX0 1 a.f_law_take d.f_law_take ["_law_state", "_law_most_here"] (zwm K):=by
 refine T.K_law_take.ok sc_law_take (fun vs H Q E h=>?_) (fun cdv A outer s H vs Q E hr h=>?_)
 ·obtain⟨pen,sp,ns,ae,k,rfl,_⟩:=h
  rfl
 obtain⟨pen,sp,ns,ae,k,rfl,pn,k0,k1,m0,q⟩:=h
 have hp:=pn.at_
 have el:(ns.map V.int).length=ns.length:=List.length_map _
 have ak:0≤k*k:=Int.mul_nonneg k0 k0
 have al:k*k≤1000000*1000000:=Int.mul_le_mul k1 k1 k0 (by decide)
 have ag:(2:Int)^64=18446744073709551616:=by decide
 have ad:∀j:Int,0≤j→j<ns.length→∃v:Int,atI (ns.map V.int) j=some (.int v):=fun j j0 j1=>by
  obtain⟨m,rfl⟩:∃m:Nat,j=(m:Int):=⟨j.toNat,by omega⟩
  have hj:m<ns.length:=by omega
  refine⟨ns[m],zc8 ?_⟩
  rw[List.getElem?_map,List.getElem?_eq_getElem hj]
  rfl
 have last:∃t,PSs (zdw CX0 P w K mg base ["_law_state", "_law_most_here", "_law_at", "_law_script", "_law_mingled"] "_law_take" (zai zeb) a.f_law_take cdv A outer s H E).nox ((zbe zeb).drop 6) t∧∀(N:Int)(v0 v2 v3:Option V),0≤N→N≤1000000000000000→t { nx:=fun _ H'=>Q .non H',rt:=Q } [v0,some (.int ae),v2,v3,some (.int N)] (L2.upd H pen (.lst [.ref sp,.int (k+1)])):=by
  refine⟨_,(zah (zao (za6 zhl (za6 zhl (za6 zf4 (pv 4) (pv 4)) zad) (pv 1)))),fun N v0 v2 v3 n0 n1=>?_⟩
  refine⟨_,rfl,_,rfl,_,_,rfl,rfl,.inl ⟨by rw[ag];omega,by rw[ag];omega⟩,_,_,rfl,rfl,(by show(0:Int)<2147483647;decide),_,rfl,_,_,rfl,rfl,m0,?_⟩
  exact q _ (Int.emod_nonneg _ (by omega)) (Int.emod_lt_of_pos _ m0)
 obtain⟨t6,h6,r6⟩:=last
 refine⟨_,(zae (zax (i:=2) sc_law_take.nd rfl (Or.inl rfl) (zap (ixL (K:=K)) (pv 0) zad (fun _ _=>rfl)))
   (zae (zts (za6 zca (pv 2) zad) (zwy (pv 0) zad zt5))
   (zae (zax (i:=3) sc_law_take.nd rfl (Or.inl rfl) (zap (ixL (K:=K)) (pv 0) zad (fun _ _=>rfl)))
   (zae (zaz (zar zo5 (pv 2) (zan (zb9 (K:=K)) rfl T.m_len PySem.boot_len (zaa (pv 3) zab)) (zav _)) (zah (zao (za6 zhl (zap (ixL (K:=K)) (pv 3) (pv 2) (fun _ _=>rfl)) (pv 1)))) zas)
   (zae (zax (i:=4) sc_law_take.nd rfl (Or.inl rfl) (za6 zca (za6 zca (za6 zf4 (pv 2) (pv 2)) (za6 zf4 zad (pv 2))) zad))
   (zae (zaz (zar ze7 (zan (zb9 (K:=K)) rfl T.m_len PySem.boot_len (zaa (pv 3) zab)) zad (zav _)) (zah (zax (i:=4) sc_law_take.nd rfl (Or.inl rfl) (za6 zca (pv 4) (za6 zf4 (za6 zhl (zap (ixL (K:=K)) (pv 3) (za6 zhl (za6 zca (za6 zf4 zad (pv 2)) zad) (zan (zb9 (K:=K)) rfl T.m_len PySem.boot_len (zaa (pv 3) zab))) (fun _ _=>rfl)) zad) zad)))) zas)
   h6)))))),?_⟩
 refine⟨_,rfl,pen,_,_,_,rfl,rfl,SqL.of hp,rfl,?_⟩
 refine⟨_,rfl,_,_,rfl,rfl,_,rfl,pen,_,_,_,rfl,rfl,hp,rfl,?_⟩
 have hS:=pn.scr _ (zay (pen:=pen) (H:=H) (.lst [.ref sp,.int (k+1)]))
 have ai:L2.upd H pen (.lst [.ref sp,.int (k+1)]) pen=some (.lst [.ref sp,.int (k+1)]):=zac
 refine⟨_,rfl,pen,_,_,_,rfl,rfl,SqL.of ai,rfl,?_⟩
 refine⟨_,rfl,_,rfl,sp,_,rfl,.inl hS,_,_,rfl,rfl,_,rfl,?_⟩
 refine zbn (fun c=>?_) (fun c=>?_)
 ·have c':k<((ns.map V.int).length:Nat):=of_decide_eq_true c
  rw[el] at c'
  obtain⟨v,hv⟩:=ad k k0 c'
  exact⟨_,rfl,_,rfl,sp,_,_,_,rfl,rfl,hS,hv,_,rfl,_,_,rfl,rfl,m0,q _ (Int.emod_nonneg _ (by omega)) (Int.emod_lt_of_pos _ m0)⟩
 refine⟨_,rfl,_,rfl,_,_,rfl,rfl,(by unfold CMul;omega),_,rfl,_,_,rfl,rfl,.inl ⟨by decide,by decide⟩,_,_,rfl,rfl,_,_,rfl,rfl,?_⟩
 refine⟨_,rfl,sp,_,rfl,.inl hS,_,_,rfl,rfl,_,rfl,?_⟩
 refine zbn (fun c2=>?_) (fun c2=>?_)
 ·have af:(0:Int)<((ns.map V.int).length:Nat):=of_decide_eq_true c2
  rw[el] at af
  have aj:0≤(5*k+2)%(ns.length:Int):=Int.emod_nonneg _ (by omega)
  have ah:(5*k+2)%(ns.length:Int)<ns.length:=Int.emod_lt_of_pos _ af
  obtain⟨v,hv⟩:=ad _ aj ah
  have v0:0≤v%2147483629:=Int.emod_nonneg _ (by decide)
  have v1:v%2147483629<2147483629:=Int.emod_lt_of_pos _ (by decide)
  refine⟨_,rfl,_,rfl,_,rfl,_,_,rfl,rfl,.inl ⟨by decide,by decide⟩,_,_,rfl,rfl,_,rfl,sp,_,rfl,.inl hS,_,_,rfl,rfl,(by rw[el];exact af),sp,_,_,_,rfl,rfl,hS,(by rw[el];exact hv),?_⟩
  refine⟨_,_,rfl,rfl,(by show(0:Int)<2147483629;decide),_,_,rfl,rfl,.inr ⟨by decide,by decide⟩,_,_,rfl,rfl,?_⟩
  exact r6 _ _ _ _ (by omega) (by omega)
 ·exact r6 _ _ _ _ (by omega) (by omega)
theorem zmd(T:Txt K mg a d):FnOk P w K mg base CX0 3 a.f_law_bough d.f_law_bough ["_law_state", "_law_up", "_law_kids"] (ztt K):=by
 have ad:=zc0 (P:=P) (w:=w) (base:=base) T
 refine T.K_law_bough.ok sc_law_bough (fun vs H Q E h=>?_) (fun cdv A outer s H vs Q E hr h=>?_)
 ·obtain⟨pen,sp,ns,tk,u,kids,m,k,rfl,_⟩:=h
  rfl
 obtain⟨pen,sp,ns,tk,u,kids,m,k,rfl,pn,k0,k1,hk,kl,u0,ah,ak,q⟩:=h
 have el:(kids.map V.int).length=kids.length:=List.length_map _
 have kp:=List.length_pos_iff.mpr ah
 have done:∀(lo hi k':Int)(H1:Hp),SameX pen H H1→H1 pen=some (.lst [.ref sp,.int k'])→k≤k'→k'≤k+3→0≤lo→lo≤hi→1≤hi→hi≤kids.length→∀tb,H1 tb=none→Q (.ref tb) (L2.upd H1 tb (.tup [.int u,.int lo,.int hi,.ref tk])):=by
  intro lo hi k' H1 sx hp aj al l0 l1 h1 h2 tb ae
  have s1:=zag ae (.tup [.int u,.int lo,.int hi,.ref tk])
  refine q (zrs u lo hi kids) _ k' _ (sx.trans (Same.x s1)) (s1 _ _ hp) aj al ?_ (zup u0 ah ak l0 l1 h1 h2) (zoo _ _ _ _ (by omega)) (zsx _ _ _ _)
  exact⟨tb,_,rfl,zac,_,_,rfl,rfl,_,_,rfl,rfl,_,_,rfl,rfl,_,_,rfl,⟨tk,_,rfl,s1 _ _ (SameX.tup pn.at_ sx _ _ hk),zoq kids⟩,rfl⟩
 refine⟨_,(zae (zax (i:=3) sc_law_bough.nd rfl (Or.inl rfl) (zan (zb9 (K:=K)) rfl T.m_len PySem.boot_len (zaa (pv 2) zab)))
   (zae (zax (i:=4) sc_law_bough.nd rfl (Or.inl rfl) (zaf ad hr.lv rfl T.K_law_take (zaa (pv 0) (zaa zad zab))))
   (zae (zaz (zar zbp (pv 4) zad (zav _)) (zah (zao (zbc (zaa (pv 1) (zaa zad (zaa (pv 3) (zaa (pv 2) zab))))))) zas)
   (zae (zaz (zar zbp (pv 4) zad (zav _)) (zah (zao (zbc (zaa (pv 1) (zaa zad (zaa zad (zaa (pv 2) zab))))))) zas)
   (zae (zaz (zar zbp (pv 4) zad (zav _)) (zah (zao (zbc (zaa (pv 1) (zaa (pv 3) (zaa (pv 3) (zaa (pv 2) zab))))))) zas)
   (zae (zax (i:=5) sc_law_bough.nd rfl (Or.inl rfl) (za6 zca zad (zaf ad hr.lv rfl T.K_law_take (zaa (pv 0) (zaa (pv 3) zab)))))
   (zah (zao (zbc (zaa (pv 1) (zaa (zaf ad hr.lv rfl T.K_law_take (zaa (pv 0) (zaa (za6 zca (pv 5) zad) zab))) (zaa (pv 5) (zaa (pv 2) zab))))))))))))),?_⟩
 refine⟨_,rfl,tk,_,rfl,.inr (sqT hk),?_⟩
 rw[el]
 refine⟨_,rfl,pen,sp,ns,5,k,rfl,pn,by omega,by omega,by decide,fun w1 aq ao=>?_⟩
 have af:=zay (pen:=pen) (H:=H) (.lst [.ref sp,.int (k+1)])
 have g1:L2.upd H pen (.lst [.ref sp,.int (k+1)]) pen=some (.lst [.ref sp,.int (k+1)]):=zac
 generalize L2.upd H pen (.lst [.ref sp,.int (k+1)])=H1 at af g1 ⊢
 refine⟨_,rfl,rfl,_,rfl,?_⟩
 refine zbn (fun c=>?_) (fun c=>?_)
 ·refine⟨_,rfl,_,rfl,_,rfl,small (by show 4≤1000;decide),fun tb ae=>?_⟩
  exact done 0 kids.length (k+1) H1 af g1 (by omega) (by omega) (by omega) (by omega) (by omega) (by omega) tb ae
 refine⟨_,rfl,rfl,_,rfl,?_⟩
 refine zbn (fun c2=>?_) (fun c2=>?_)
 ·refine⟨_,rfl,_,rfl,small (by show 4≤1000;decide),fun tb ae=>?_⟩
  exact done 1 1 (k+1) H1 af g1 (by omega) (by omega) (by omega) (by omega) (by omega) (by omega) tb ae
 refine⟨_,rfl,rfl,_,rfl,?_⟩
 refine zbn (fun c3=>?_) (fun c3=>?_)
 ·refine⟨_,rfl,_,rfl,_,rfl,_,rfl,small (by show 4≤1000;decide),fun tb ae=>?_⟩
  exact done kids.length kids.length (k+1) H1 af g1 (by omega) (by omega) (by omega) (by omega) (by omega) (by omega) tb ae
 refine⟨_,rfl,_,rfl,pen,sp,ns,_,k+1,rfl,pn.to af g1,by omega,by omega,by omega,fun w2 am ar=>?_⟩
 have ag:=af.trans (zay (pen:=pen) (H:=H1) (.lst [.ref sp,.int (k+1+1)]))
 have g2:L2.upd H1 pen (.lst [.ref sp,.int (k+1+1)]) pen=some (.lst [.ref sp,.int (k+1+1)]):=zac
 generalize L2.upd H1 pen (.lst [.ref sp,.int (k+1+1)])=H2 at ag g2 ⊢
 refine⟨_,_,rfl,rfl,_,rfl,_,rfl,_,rfl,_,_,rfl,rfl,pen,sp,ns,_,k+1+1,rfl,pn.to ag g2,by omega,by omega,by omega,fun w3 au ap=>?_⟩
 have ai:=ag.trans (zay (pen:=pen) (H:=H2) (.lst [.ref sp,.int (k+1+1+1)]))
 have g3:L2.upd H2 pen (.lst [.ref sp,.int (k+1+1+1)]) pen=some (.lst [.ref sp,.int (k+1+1+1)]):=zac
 generalize L2.upd H2 pen (.lst [.ref sp,.int (k+1+1+1)])=H3 at ai g3 ⊢
 refine⟨_,rfl,_,rfl,small (by show 4≤1000;decide),fun tb ae=>?_⟩
 exact done w3 (1+w2) (k+1+1+1) H3 ai g3 (by omega) (by omega) (by omega) (by omega) (by omega) (by omega) tb ae
theorem zlb(T:Txt K mg a d):FnOk P w K mg base CX0 5 a.f_law_boughs d.f_law_boughs ["_law_state", "_law_many"] (zrz K):=by
 have ad:=zc0 (P:=P) (w:=w) (base:=base) T
 have ae:=zmd (P:=P) (w:=w) (base:=base) T
 refine T.K_law_boughs.ok sc_law_boughs (fun vs H Q E h=>?_) (fun cdv A outer s H vs Q E hr h=>?_)
 ·obtain⟨pen,sp,ns,m,k,rfl,_⟩:=h
  rfl
 obtain⟨pen,sp,ns,m,k,rfl,pn,k0,k1,m1,m9,q⟩:=h
 have aE:(2:Int)^62=4611686018427387904:=by decide
 refine⟨_,(zae (zax (i:=2) sc_law_boughs.nd rfl (Or.inl rfl) (zb1 zab))
   (zae (zde PassesOwn.never rfl (zrm rfl T.m_range (zaa zad (zaa (pv 1) zab))) (zaw (i:=3) sc_law_boughs.nd rfl (Or.inl rfl)) (zae (zax (i:=4) sc_law_boughs.nd rfl (Or.inr rfl) (zaf ad hr.lv rfl T.K_law_take (zaa (pv 0) (zaa (pv 3) zab))))
   (zae (zgm (i:=5) sc_law_boughs.nd rfl rfl rfl (N':=["_law_group", "_law_up"]) (n:=1) (kp:=[4]) rfl (piL (K:=K) (pv 2)) rfl rfl rfl (fun _ _ _ _ _=>(zaw (i:=0) (of_decide_eq_true rfl) rfl (Or.inl rfl))) (fun _ _ _ _ _=>(zbz (zar zbp (zap (ixT (K:=K)) (pv 0) zad (fun _ _=>rfl)) (pv 1) (zav _)))) (fun _ _ _ _ _=>(pv 0)))
   (zah (zaz (PW.pt (zhk (zar ze7 (zan (zb9 (K:=K)) rfl T.m_len PySem.boot_len (zaa (pv 5) zab)) zad (zav _)) (zfm (zar ze7 (zaf ad hr.lv rfl T.K_law_take (zaa (pv 0) (zaa zad zab))) zad (zav _))))) (zah (zck (zb3 (K:=K) PySem.F.plainAttrs_list PySem.F.slot_list_append PySem.F.type_list_append zc1 (zap (ixT (K:=K)) (zap (ixL (K:=K)) (pv 5) (zaf ad hr.lv rfl T.K_law_take (zaa (pv 0) (zaa (zan (zb9 (K:=K)) rfl T.m_len PySem.boot_len (zaa (pv 5) zab)) zab))) (fun _ _=>rfl)) zad (fun _ _=>rfl)) (zaa (pv 3) zab)))) (zah (zck (zb3 (K:=K) PySem.F.plainAttrs_list PySem.F.slot_list_insert PySem.F.type_list_insert zra (pv 2) (zaa (zaf ad hr.lv rfl T.K_law_take (zaa (pv 0) (zaa (za6 zca (zan (zb9 (K:=K)) rfl T.m_len PySem.boot_len (zaa (pv 2) zab)) zad) zab))) (zaa (zbc (zaa (pv 4) (zaa (zb1 (zaa (pv 3) zab)) zab))) zab))))))))))
   (zah (zao (zdo (N':=["_law_up", "_law_kids", "_law_state"]) (n:=2) (kp:=[0]) rfl (piL (K:=K) (pv 2)) rfl rfl rfl (fun _ _ _ _ _=>(pgT (K:=K) (n:=2) rfl (za8 (zaw (i:=0) (of_decide_eq_true rfl) rfl (Or.inl rfl)) (za8 (zaw (i:=1) (of_decide_eq_true rfl) rfl (Or.inl rfl)) zdm)))) (fun _ _ _ _ _=>zes) (fun _ _ _ _ _=>(zaf ae hr.lv rfl T.K_law_bough (zaa (pv 2) (zaa (pv 0) (zaa (za4 (zxb (K:=K)) rfl T.m_tuple PyProof.Rows.boot_tuple (zaa (pv 1) zab)) zab)))))))))),?_⟩
 refine⟨small (by decide),fun g hg=>?_⟩
 have aI:pen≠g:=zaq pn.at_ hg
 refine⟨_,rfl,_,_,rfl,⟨by rw[aE];omega,by rw[aE];omega,by rw[aE];omega,by rw[aE];omega⟩,?_⟩
 obtain⟨Pv,aC⟩:∃Pv:Nat→St→Hp→Prop,∀i σ H2,Pv i σ H2↔(∃(v3 v4 v5:Option V)(gs:List Grp)(kk:Int),σ=[some (.ref pen),some (.int (m:Int)),some (.ref g),v3,v4,v5]∧SameX pen H H2∧H2 pen=some (.lst [.ref sp,.int kk])∧k≤kk∧kk≤k+4*i∧GAt H H2 g gs∧GOk ((i:Int)+1) gs):=⟨_,fun _ _ _=>Iff.rfl⟩
 refine zlt (lo:=1) (n:=((m:Int)-1).toNat) Pv ((aC _ _ _).mpr ⟨none,none,none,[],k,rfl,Same.x (zag hg _),(zag hg _) _ _ pn.at_,Int.le_refl _,by omega,⟨zac,hg,(fun _ z=>nomatch z),(fun _ z=>nomatch z),List.nodup_nil⟩,⟨(fun _ z=>nomatch z),List.Perm.refl _⟩⟩) ?_ ?_
 ·rintro i σ H2 hi aL
  obtain⟨v3,v4,v5,gs,kk,rfl,sx,av,aX,aZ,GA,GK⟩:=(aC _ _ _).mp aL
  have few:=GK.few
  have i9:(i:Int)<9:=by omega
  have el:∀l:List Grp,(l.map fun x=>V.ref x.t).length=l.length:=fun l=>List.length_map _
  have e1:1+(i:Int)=(i:Int)+1:=by omega
  have e2:((i+1:Nat):Int)+1=(i:Int)+2:=by omega
  refine⟨_,rfl,_,rfl,pen,sp,ns,_,kk,rfl,pn.to sx av,by omega,by omega,by omega,fun u u0 u1=>?_⟩
  have aB:=sx.trans (zay (pen:=pen) (H:=H2) (.lst [.ref sp,.int (kk+1)]))
  have aA:=GA.pen (ys:=[.ref sp,.int (kk+1)]) ⟨_,pn.at_⟩ av
  have aH:L2.upd H2 pen (.lst [.ref sp,.int (kk+1)]) pen=some (.lst [.ref sp,.int (kk+1)]):=zac
  generalize L2.upd H2 pen (.lst [.ref sp,.int (kk+1)])=H4 at aB aA aH ⊢
  refine⟨_,rfl,g,rfl,⟨_,SqL.of aA.at_⟩,?_⟩
  refine zdl (K:=K) (a:=g) (xs:=gs.map fun x=>V.ref x.t) (fun j ys σ H5=>(∃v,σ=[v,some (.int u)])∧H5=H4∧ys=((gs.take j).filter fun x=>decide (x.up=u)).map fun x=>V.ref x.t) ⟨⟨none,rfl⟩,rfl,rfl⟩ (fun j ys σ H5 hj pv=>?_) (fun j ys σ H5 hj pv=>?_) (fun j x ys σ H5 hx pv=>?_) (fun ys σ H5 pv ol aP=>?_)
  ·obtain⟨_,_,rfl⟩:=pv
   rw[el]
   have:=List.length_filter_le (fun x:Grp=>decide (x.up=u)) (gs.take j)
   rw[List.length_take] at this
   exact small (by omega)
  ·rw[pv.2.1]
   exact SqL.of aA.at_
  ·obtain⟨⟨v,rfl⟩,rfl,rfl⟩:=pv
   rw[List.getElem?_map] at hx
   obtain⟨y,hy,rfl⟩:=Option.map_eq_some_iff.mp hx
   have et:gs.take (j+1)=gs.take j++[y]:=by rw[List.take_add_one,hy,Option.toList_some]
   refine⟨_,rfl,y.t,_,_,_,rfl,rfl,sqT (aA.tup y (List.mem_of_getElem? hy)),at0,_,rfl,rfl,_,rfl,?_⟩
   by_cases cc:y.up=u
   ·refine zfz (by rw[cc]) ?_
    refine⟨_,rfl,⟨_,rfl⟩,rfl,?_⟩
    rw[et,List.filter_append,List.filter_cons_of_pos (by simpa using cc),List.map_append]
    rfl
   ·refine zb5 (fun z=>cc (by injection z)) ?_
    refine⟨⟨_,rfl⟩,rfl,?_⟩
    rw[et,List.filter_append,List.filter_cons_of_neg (by simpa using cc),List.filter_nil,List.append_nil]
  obtain⟨_,rfl,rfl⟩:=pv
  have aM:ol≠pen:=Ne.symm (zaq aH aP)
  rw[el,List.take_length] at *
  generalize aD:gs.filter (fun x=>decide (x.up=u))=af at *
  have aJ:∀x∈af,x∈gs:=fun x hx=>by rw[←aD] at hx;exact(List.mem_filter.mp hx).1
  have bo:af.length≤gs.length:=by rw[←aD];exact List.length_filter_le _ _
  have s6:=zag aP (.lst (af.map fun x=>V.ref x.t))
  have au:=aA.same s6
  have az:=s6 _ _ aH
  have ar:=aB.trans (Same.x s6)
  have ao:L2.upd H5 ol (.lst (af.map fun x=>V.ref x.t)) ol=some (.lst (af.map fun x=>V.ref x.t)):=zac
  generalize L2.upd H5 ol (.lst (af.map fun x=>V.ref x.t))=H7 at s6 au az ar ao ⊢
  refine⟨_,rfl,ol,_,rfl,.inl (SqL.of ao),_,_,rfl,rfl,_,rfl,?_⟩
  rw[el]
  have new:∀(k3:Int)(H8:Hp)(v5:Option V),k≤k3→k3≤k+4*i+4→SameX pen H H8→H8 pen=some (.lst [.ref sp,.int k3])→GAt H H8 g gs→∀(nl nt:Addr)(j:Nat),H8 nl=none→L2.upd H8 nl (.lst [.int (1+(i:Int))]) nt=none→j≤gs.length →
    Pv (i+1) [some (.ref pen),some (.int (m:Int)),some (.ref g),some (.int (1+(i:Int))),some (.int u),v5] (L2.upd (L2.upd (L2.upd H8 nl (.lst [.int (1+(i:Int))])) nt (.tup [.int u,.ref nl])) g (.lst ((gs.map fun x=>V.ref x.t).take j++V.ref nt::(gs.map fun x=>V.ref x.t).drop j))):=by
   intro k3 H8 v5 aU bj ah ai ag nl nt j aj ak hj
   have s9:=(zag aj (.lst [.int (1+(i:Int))])).trans (zag ak (.tup [.int u,.ref nl]))
   rw[←List.map_take,←List.map_drop]
   refine(aC _ _ _).mpr ⟨_,_,_,gs.take j++⟨nt,u,nl,[1+(i:Int)]⟩::gs.drop j,k3,rfl,SameX.put (ah.trans (Same.x s9)) hg (Ne.symm aI) (s9 _ _ ag.at_),?_,aU,by push_cast;omega,?_,?_⟩
   ·rw[zam aI]
    exact s9 _ _ ai
   ·exact GAt.ins (pre:=gs.take j) (post:=gs.drop j) (by rw[List.take_append_drop];exact ag) (ah.free ⟨_,ai⟩ aj) aj ak
   ·rw[e2,e1]
    exact GOk.ins (k:=i) (by rw[List.take_append_drop];exact GK) u0 (by omega)
  by_cases c5:af=[]
  ·refine zdc (by rw[c5];rfl) ?_
   refine zc5 ?_
   refine⟨_,rfl,.inl ⟨rfl,_,SqL.of au.at_⟩,_,rfl,_,rfl,g,_,rfl,.inl (SqL.of au.at_),?_⟩
   refine⟨_,_,rfl,rfl,pen,sp,ns,_,kk+1,rfl,pn.to ar az,by omega,by omega,(by rw[el];omega),fun j j0 j1=>?_⟩
   rw[el] at j1
   have ah:=ar.trans (zay (pen:=pen) (.lst [.ref sp,.int (kk+1+1)]))
   have ag:=au.pen (ys:=[.ref sp,.int (kk+1+1)]) ⟨_,pn.at_⟩ az
   have ai:L2.upd H7 pen (.lst [.ref sp,.int (kk+1+1)]) pen=some (.lst [.ref sp,.int (kk+1+1)]):=zac
   generalize L2.upd H7 pen (.lst [.ref sp,.int (kk+1+1)])=H8 at ah ag ai ⊢
   refine⟨_,rfl,_,rfl,small (by show 1≤1000;decide),fun nl aj=>?_⟩
   refine⟨small (by show 2≤1000;decide),fun nt ak=>?_⟩
   have s9:=(zag aj (.lst [.int (1+(i:Int))])).trans (zag ak (.tup [.int u,.ref nl]))
   refine⟨g,_,_,_,rfl,rfl,s9 _ _ ag.at_,j0,(by rw[el];omega),(by rw[el];exact zbo (by omega)),?_⟩
   exact new (kk+1+1) H8 _ (by omega) (by omega) ah ai ag nl nt j.toNat aj ak (by omega)
  ·have bh:0<af.length:=List.length_pos_iff.mpr c5
   refine zf0 (decide_eq_true (show((af.length:Nat):Int)>0 by omega)) ?_
   refine⟨_,rfl,pen,sp,ns,3,kk+1,rfl,pn.to ar az,by omega,by omega,by decide,fun e e0 bi=>?_⟩
   have ah:=ar.trans (zay (pen:=pen) (.lst [.ref sp,.int (kk+1+1)]))
   have ag:=au.pen (ys:=[.ref sp,.int (kk+1+1)]) ⟨_,pn.at_⟩ az
   have ai:L2.upd H7 pen (.lst [.ref sp,.int (kk+1+1)]) pen=some (.lst [.ref sp,.int (kk+1+1)]):=zac
   have am:L2.upd H7 pen (.lst [.ref sp,.int (kk+1+1)]) ol=some (.lst (af.map fun x=>V.ref x.t)):=by rw[zam aM];exact ao
   generalize L2.upd H7 pen (.lst [.ref sp,.int (kk+1+1)])=H8 at ah ag ai am ⊢
   refine⟨_,_,rfl,rfl,_,rfl,?_⟩
   refine zbn (fun c6=>?_) (fun c6=>?_)
   ·refine⟨_,rfl,_,rfl,_,rfl,ol,_,rfl,.inl (SqL.of am),?_⟩
    rw[el]
    refine⟨pen,sp,ns,_,kk+1+1,rfl,pn.to ah ai,by omega,by omega,by omega,fun jj j0 j1=>?_⟩
    obtain⟨jn,rfl⟩:∃jn:Nat,jj=(jn:Int):=⟨jj.toNat,by omega⟩
    have ay:=ah.trans (zay (pen:=pen) (.lst [.ref sp,.int (kk+1+1+1)]))
    have al:=ag.pen (ys:=[.ref sp,.int (kk+1+1+1)]) ⟨_,pn.at_⟩ ai
    have ax:L2.upd H8 pen (.lst [.ref sp,.int (kk+1+1+1)]) pen=some (.lst [.ref sp,.int (kk+1+1+1)]):=zac
    have aq:L2.upd H8 pen (.lst [.ref sp,.int (kk+1+1+1)]) ol=some (.lst (af.map fun x=>V.ref x.t)):=by rw[zam aM];exact am
    generalize L2.upd H8 pen (.lst [.ref sp,.int (kk+1+1+1)])=H9 at ay al ax aq ⊢
    obtain⟨x,aQ⟩:∃x,af[jn]?=some x:=⟨_,List.getElem?_eq_getElem (by omega)⟩
    have hx:=aJ x (List.mem_of_getElem? aQ)
    obtain⟨pre,post,aF⟩:=List.append_of_mem hx
    have ty:=al.tup x hx
    have ly:=al.lst x hx
    refine⟨ol,_,_,.ref x.t,rfl,rfl,SqL.of aq,zc8 (by rw[List.getElem?_map,aQ];rfl),x.t,_,_,_,rfl,rfl,sqT ty,at1,.inl ⟨rfl,_,SqL.of ly.1⟩,_,rfl,x.l,_,_,rfl,rfl,ly.1,?_,?_⟩
    ·have h1:=GK.perm.length_eq
     rw[List.length_map,List.length_range',aF,List.flatMap_append,List.flatMap_cons,List.length_append,List.length_append] at h1
     rw[List.length_map]
     exact zbo (by omega)
    have G9:GAt H _ g _:=GAt.put (k:=1+(i:Int)) (pre:=pre) (post:=post) (x:=x) (by rw[←aF];exact al)
    refine(aC _ _ _).mpr ⟨_,_,_,_,kk+1+1+1,rfl,SameX.put ay ly.2.1 (fun z=>by have:=pn.at_;rw[←z,ly.2.1] at this;cases this) ly.1,?_,by omega,by push_cast;omega,G9,?_⟩
    ·rw[zam (fun z=>by have:=pn.at_;rw[z,ly.2.1] at this;cases this)]
     exact ax
    ·rw[e2,e1]
     exact GOk.put (k:=i) (by rw[←aF];exact GK)
   ·refine⟨_,rfl,.inl ⟨rfl,_,SqL.of ag.at_⟩,_,rfl,_,rfl,g,_,rfl,.inl (SqL.of ag.at_),?_⟩
    refine⟨_,_,rfl,rfl,pen,sp,ns,_,kk+1+1,rfl,pn.to ah ai,by omega,by omega,(by rw[el];omega),fun j j0 j1=>?_⟩
    rw[el] at j1
    have ay:=ah.trans (zay (pen:=pen) (.lst [.ref sp,.int (kk+1+1+1)]))
    have al:=ag.pen (ys:=[.ref sp,.int (kk+1+1+1)]) ⟨_,pn.at_⟩ ai
    have ax:L2.upd H8 pen (.lst [.ref sp,.int (kk+1+1+1)]) pen=some (.lst [.ref sp,.int (kk+1+1+1)]):=zac
    generalize L2.upd H8 pen (.lst [.ref sp,.int (kk+1+1+1)])=H9 at ay al ax ⊢
    refine⟨_,rfl,_,rfl,small (by show 1≤1000;decide),fun nl aj=>?_⟩
    refine⟨small (by show 2≤1000;decide),fun nt ak=>?_⟩
    have aY:=(zag aj (.lst [.int (1+(i:Int))])).trans (zag ak (.tup [.int u,.ref nl]))
    refine⟨g,_,_,_,rfl,rfl,aY _ _ al.at_,j0,(by rw[el];omega),(by rw[el];exact zbo (by omega)),?_⟩
    exact new (kk+1+1+1) H9 _ (by omega) (by omega) ay ax al nl nt j.toNat aj ak (by omega)
 ·rintro σ H2 aL
  obtain⟨v3,v4,v5,gs,kk,rfl,sx,av,aX,aZ,GA,GK⟩:=(aC _ _ _).mp aL
  have em:(((m:Int)-1).toNat:Int)+1=(m:Int):=by omega
  rw[em] at GK
  have few:=GK.few
  have el:(gs.map fun x=>V.ref x.t).length=gs.length:=List.length_map _
  refine⟨_,rfl,g,rfl,⟨_,SqL.of GA.at_⟩,?_⟩
  refine zdl (K:=K) (a:=g) (xs:=gs.map fun x=>V.ref x.t) (fun j ys σ H3=>(∃v v',σ=[v,v',some (.ref pen)])∧SameX pen H2 H3∧∃(kc:Int)(bs:List PyData),H3 pen=some (.lst [.ref sp,.int kc])∧kk≤kc∧kc≤kk+3*j∧DnL H3 bs ys∧bs.length=j∧(∀b∈bs,zcv m b=true)∧bs.flatMap zcp=(gs.take j).flatMap (·.kids)∧bs.all (zbf 3)=true) ⟨⟨none,none,rfl⟩,SameX.refl _ _,kk,[],av,Int.le_refl _,by omega,rfl,rfl,(fun _ z=>nomatch z),rfl,rfl⟩ (fun j ys σ H3 hj pv=>?_) (fun j ys σ H3 hj pv=>?_) (fun j y ys σ H3 hy pv=>?_) (fun ys σ H3 pv l1 aS=>?_)
  ·obtain⟨_,_,kc,bs,_,_,_,dn,ln,_⟩:=pv
   rw[←dn.length,ln]
   exact small (by rw[el] at hj;omega)
  ·exact SqL.of (pv.2.1 _ _ (Ne.symm aI) GA.at_)
  ·obtain⟨⟨v,v',rfl⟩,ap,kc,bs,aw,bd,aR,dn,ln,aK,ki,fl⟩:=pv
   rw[List.getElem?_map] at hy
   obtain⟨x,aG,rfl⟩:=Option.map_eq_some_iff.mp hy
   have hm:=List.mem_of_getElem? aG
   have hj:j<gs.length:=(List.getElem?_eq_some_iff.mp aG).1
   have lx:=GA.lst x hm
   have be:x.l≠pen:=fun z=>by have:=pn.at_;rw[←z,lx.2.1] at this;cases this
   have aT:=ap _ _ be lx.1
   have gx:=GK.each x hm
   have kl:x.kids.length≤9:=by
    have pk:=GK.perm.length_eq
    rw[List.length_map,List.length_range'] at pk
    obtain⟨l1,l2,e⟩:=List.append_of_mem hm
    rw[e,List.flatMap_append,List.flatMap_cons,List.length_append,List.length_append] at pk
    omega
   refine⟨x.t,_,rfl,sqT ((SameX.tup av ap) _ _ (GA.tup x hm)),rfl,_,_,rfl,_,_,rfl,rfl,?_⟩
   refine⟨_,rfl,_,rfl,_,rfl,x.l,_,rfl,.inl ⟨SqL.of aT,fun tk aW=>?_⟩⟩
   have s4:=zag aW (.tup (x.kids.map V.int))
   have g4:L2.upd H3 tk (.tup (x.kids.map V.int)) tk=some (.tup (x.kids.map V.int)):=zac
   have aO:=DnL.same s4 _ _ dn
   generalize L2.upd H3 tk (.tup (x.kids.map V.int))=H4 at s4 g4 aO ⊢
   have aB:=ap.trans (Same.x s4)
   refine⟨pen,sp,ns,tk,x.up,x.kids,(m:Int),kc,rfl,pn.to (sx.trans aB) (s4 _ _ aw),by omega,by omega,g4,kl,gx.1,gx.2.1,gx.2.2,fun d v k' H5 aN aV bf bg dv ba fd kd=>?_⟩
   refine⟨⟨_,_,rfl⟩,aB.trans aN,k',bs++[d],aV,by omega,by push_cast;omega,(DnL.tupS (SameX.tup (s4 _ _ aw) aN) fl aO).append ⟨v,[],rfl,dv,rfl⟩,by rw[List.length_append,List.length_singleton,ln],fun b hb=>?_,?_,?_⟩
   ·rcases List.mem_append.mp hb with z|z
    ·exact aK b z
    ·rw[List.mem_singleton.mp z]
     exact ba
   ·rw[List.flatMap_append,ki,zfk aG]
    simp[kd]
   ·rw[List.all_append,fl]
    simp[fd]
  ·obtain⟨_,ap,kc,bs,aw,bd,aR,dn,ln,aK,ki,fl⟩:=pv
   rw[el] at ln aR ki
   rw[List.take_length] at ki
   have s4:=zag aS (.lst ys)
   exact q l1 bs ys kc _ ((sx.trans ap).trans (Same.x s4)) (s4 _ _ aw) (by omega) (by omega) zac ((sx.trans ap).free ⟨_,aw⟩ aS) (DnL.same s4 _ _ dn) ⟨aK,by rw[ki];exact GK.perm⟩ (by omega) fl
theorem zn9(T:Txt K mg a d):FnOk P w K mg base CX0 2 a.f_law_most d.f_law_most ["_law_state", "_law_many"] (znq K):=by
 have ad:=zc0 (P:=P) (w:=w) (base:=base) T
 refine T.K_law_most.ok sc_law_most (fun vs H Q E h=>?_) (fun cdv A outer s H vs Q E hr h=>?_)
 ·obtain⟨pen,sp,ns,m,k,rfl,_⟩:=h
  rfl
 obtain⟨pen,sp,ns,m,k,rfl,pn,k0,k1,m1,m9,q⟩:=h
 have aC:(2:Int)^62=4611686018427387904:=by decide
 have am:(2:Int)^64=18446744073709551616:=by decide
 obtain⟨aO,aK,aI⟩:=zt6 (X:=(zdw CX0 P w K mg base ["_law_state", "_law_many", "_law_far", "_law_pairs", "_law_k"] "_law_most" (zai zd5) a.f_law_most cdv A outer s H E).nox) (st:=(zbe zd5).drop 4) (zah (zao (zbc (zaa zbq (zaa (za6 zf4 (pv 2) (za6 zge (zaf ad hr.lv rfl T.K_law_take (zaa (pv 0) (zaa zad zab))) zad)) (zaa (za4 za5 rfl T.m_tuple PyProof.Rows.boot_tuple (zaa (pv 3) zab)) zab))))))
 refine⟨_,(zae (zax (i:=2) sc_law_most.nd rfl (Or.inl rfl) (zap (ixL (K:=K)) (zb1 (zaa zad (zaa (za6 zxg zad zad) zab))) (za4 zlr rfl T.m_int PyProof.Rows.boot_int (zaa (zb2 zbp (zaf ad hr.lv rfl T.K_law_take (zaa (pv 0) (zaa zad zab))) zad (zav _)) zab)) (fun _ _=>rfl)))
   (zae (zax (i:=3) sc_law_most.nd rfl (Or.inl rfl) (zb1 zab))
   (zae (zde PassesOwn.never rfl (zd0 rfl T.m_range (zaa (pv 1) zab)) (zaw (i:=4) sc_law_most.nd rfl (Or.inl rfl)) (zah (zaz (zar zbp (zaf ad hr.lv rfl T.K_law_take (zaa (pv 0) (zaa zad zab))) zad (zav _)) (zah (zck (zb3 (K:=K) PySem.F.plainAttrs_list PySem.F.slot_list_append PySem.F.type_list_append zc1 (pv 3) (zaa (zbc (zaa (pv 4) (zaa (za6 zf4 (pv 2) (za6 zge (zaf ad hr.lv rfl T.K_law_take (zaa (pv 0) (zaa zad zab))) zad)) zab))) zab)))) zas)))
   (zae (zaz (zar zbp (zan (zb9 (K:=K)) rfl T.m_len PySem.boot_len (zaa (pv 3) zab)) zad (zav _)) (zah (zck (zb3 (K:=K) PySem.F.plainAttrs_list PySem.F.slot_list_append PySem.F.type_list_append zc1 (pv 3) (zaa (zbc (zaa (zaf ad hr.lv rfl T.K_law_take (zaa (pv 0) (zaa (pv 1) zab))) (zaa (za6 zf4 (pv 2) (za6 zge (zaf ad hr.lv rfl T.K_law_take (zaa (pv 0) (zaa zad zab))) zad)) zab))) zab)))) zas)
   aK)))),?_⟩
 refine⟨_,_,rfl,rfl,⟨by decide,by decide,by decide⟩,small (by show 2≤1000;decide),fun fl au=>?_⟩
 have sf:=zag au (.lst [.int 1,.int (10^(58:Int).toNat)])
 have gf:L2.upd H fl (.lst [.int 1,.int (10^(58:Int).toNat)]) fl=some (.lst [.int 1,.int (10^(58:Int).toNat)]):=zac
 have aH:=pn.same sf
 have x1:=Same.x (pen:=pen) sf
 have aP:fl≠pen:=fun z=>by rw[z,pn.at_] at au;cases au
 generalize L2.upd H fl (.lst [.int 1,.int (10^(58:Int).toNat)])=H1 at sf gf aH x1 ⊢
 refine⟨_,rfl,pen,sp,ns,6,k,rfl,aH,by omega,by omega,by decide,fun w1 aR aQ=>?_⟩
 have x2:=x1.trans (zay (pen:=pen) (H:=H1) (.lst [.ref sp,.int (k+1)]))
 have g2:L2.upd H1 pen (.lst [.ref sp,.int (k+1)]) pen=some (.lst [.ref sp,.int (k+1)]):=zac
 have aA:L2.upd H1 pen (.lst [.ref sp,.int (k+1)]) fl=some (.lst [.int 1,.int (10^(58:Int).toNat)]):=by rw[zam aP];exact gf
 generalize L2.upd H1 pen (.lst [.ref sp,.int (k+1)])=H2 at x2 g2 aA ⊢
 refine⟨rfl,.inr ⟨_,rfl,?_⟩⟩
 obtain⟨ae,aM⟩:∃ae:Int,atI [V.int 1,V.int (10^(58:Int).toNat)] (if decide (V.int w1=V.int 0)=true then 1 else 0)=some (.int ae):=by
  split
  ·exact⟨_,rfl⟩
  ·exact⟨_,rfl⟩
 refine⟨fl,_,_,_,rfl,rfl,SqL.of aA,aM,?_⟩
 refine⟨small (by show 0≤1000;decide),fun pl ar=>?_⟩
 have s3:=zag ar (.lst [])
 have g3:L2.upd H2 pl (.lst []) pl=some (.lst []):=zac
 have aE:=s3 _ _ g2
 have ai:pl≠pen:=fun z=>by rw[z,g2] at ar;cases ar
 have aG:H pl=none:=x2.free ⟨_,g2⟩ ar
 generalize L2.upd H2 pl (.lst [])=H3 at s3 g3 aE ⊢
 have x3:=x2.trans (Same.x (pen:=pen) s3)
 have tail:∀(v4:Option V)(kc:Int)(ps:List PyData)(xs:List V)(H4:Hp),SameX pen H H4→H4 pen=some (.lst [.ref sp,.int kc])→k≤kc→kc≤k+25→H4 pl=some (.lst xs)→PairsTo H4 m ps xs→0<ps.length→aO { nx:=fun _ H'=>Q .non H',rt:=Q } [some (.ref pen),some (.int (m:Int)),some (.int ae),some (.ref pl),v4] H4:=by
  intro v4 kc ps xs H4 x4 aj aF aB ak pt p0
  refine aI _ _ _ ?_
  refine⟨_,rfl,_,rfl,pen,sp,ns,24,kc,rfl,pn.to x4 aj,by omega,by omega,by decide,fun y y0 y1=>?_⟩
  have af:=zay (pen:=pen) (H:=H4) (.lst [.ref sp,.int (kc+1)])
  have x5:=x4.trans af
  have g5:L2.upd H4 pen (.lst [.ref sp,.int (kc+1)]) pen=some (.lst [.ref sp,.int (kc+1)]):=zac
  have ag:L2.upd H4 pen (.lst [.ref sp,.int (kc+1)]) pl=some (.lst xs):=by rw[zam ai];exact ak
  have al:=pt.tupS (SameX.tup aj af)
  generalize L2.upd H4 pen (.lst [.ref sp,.int (kc+1)])=H5 at x5 g5 ag al af ⊢
  refine⟨_,_,rfl,rfl,_,_,rfl,rfl,.inr ⟨by rw[am];omega,by rw[am];omega⟩,_,rfl,pl,_,rfl,.inl ⟨SqL.of ag,fun tk aL=>?_⟩⟩
  refine⟨small (by show 3≤1000;decide),fun tt aJ=>?_⟩
  have sa:=zag aL (.tup xs)
  have sb:=zag aJ (.tup [.str ("most" : Str),.int (ae*(y-4)),.ref tk])
  have ax:=sa.trans sb
  have fw:=pt.few
  exact q (.tuple [.str ("most" : Str),.int (ae*(y-4)),.tuple ps]) _ (kc+1) _ (x5.trans (Same.x ax)) (ax _ _ g5) (by omega) (by omega) ⟨tt,_,rfl,zac,_,_,rfl,rfl,_,_,rfl,rfl,_,_,rfl,⟨tk,_,rfl,sb _ _ zac,DnL.same ax _ _ al.dn⟩,rfl⟩ (zox pt.ok pt.ris p0) (zlf (m:=m) pt.flat (by omega))
 refine⟨_,rfl,_,rfl,by rw[aC];omega,by rw[aC];omega,?_⟩
 rw[Int.toNat_natCast]
 refine zph (n:=m) (fun i σ H4=>∃(v4:Option V)(kc:Int)(ps:List PyData)(xs:List V),σ=[some (.ref pen),some (.int (m:Int)),some (.int ae),some (.ref pl),v4]∧SameX pen H H4∧H4 pen=some (.lst [.ref sp,.int kc])∧k≤kc∧kc≤k+1+2*i∧H4 pl=some (.lst xs)∧PairsTo H4 i ps xs) ⟨none,k+1,[],[],rfl,x3,aE,by omega,by omega,g3,⟨rfl,rfl,rfl,rfl,Nat.le_refl _⟩⟩ ?_ ?_
 ·rintro i σ H4 hi ⟨v4,kc,ps,xs,rfl,x4,aj,aF,aB,ak,pt⟩
  refine⟨_,rfl,pen,sp,ns,2,kc,rfl,pn.to x4 aj,by omega,by omega,by decide,fun y y0 y1=>?_⟩
  have af:=zay (pen:=pen) (H:=H4) (.lst [.ref sp,.int (kc+1)])
  have x5:=x4.trans af
  have g5:L2.upd H4 pen (.lst [.ref sp,.int (kc+1)]) pen=some (.lst [.ref sp,.int (kc+1)]):=zac
  have ag:L2.upd H4 pen (.lst [.ref sp,.int (kc+1)]) pl=some (.lst xs):=by rw[zam ai];exact ak
  have al:=pt.tupS (SameX.tup aj af)
  generalize L2.upd H4 pen (.lst [.ref sp,.int (kc+1)])=H5 at x5 g5 ag al af ⊢
  refine⟨rfl,_,rfl,?_⟩
  refine zbn (fun _=>?_) (fun _=>?_)
  ·refine⟨_,rfl,.inl ⟨rfl,_,SqL.of ag⟩,_,rfl,_,rfl,_,rfl,pen,sp,ns,12,kc+1,rfl,pn.to x5 g5,by omega,by omega,by decide,fun z z0 z1=>?_⟩
   have ao:=zay (pen:=pen) (H:=H5) (.lst [.ref sp,.int (kc+1+1)])
   have x6:=x5.trans ao
   have g6:L2.upd H5 pen (.lst [.ref sp,.int (kc+1+1)]) pen=some (.lst [.ref sp,.int (kc+1+1)]):=zac
   have ap:L2.upd H5 pen (.lst [.ref sp,.int (kc+1+1)]) pl=some (.lst xs):=by rw[zam ai];exact ag
   have aD:=al.tupS (SameX.tup g5 ao)
   generalize L2.upd H5 pen (.lst [.ref sp,.int (kc+1+1)])=H6 at x6 g6 ap aD ao ⊢
   refine⟨_,_,rfl,rfl,_,_,rfl,rfl,.inr ⟨by rw[am];omega,by rw[am];omega⟩,small (by show 2≤1000;decide),fun tp ay=>?_⟩
   have s7:=zag ay (.tup [.int (i:Int),.int (ae*(z-3))])
   have g7:L2.upd H6 tp (.tup [.int (i:Int),.int (ae*(z-3))]) tp=some (.tup [.int (i:Int),.int (ae*(z-3))]):=zac
   have ah:=s7 _ _ ap
   have az:=(aD.tupS (Same.tup s7)).snoc g7
   have aq:=s7 _ _ g6
   have x7:=x6.trans (Same.x (pen:=pen) s7)
   generalize L2.upd H6 tp (.tup [.int (i:Int),.int (ae*(z-3))])=H7 at s7 ah az aq x7 g7 ⊢
   have lx:=pt.dn.length
   have fw:=pt.few
   refine⟨pl,_,_,rfl,rfl,ah,zbo (by omega),?_⟩
   have av:=zok (o':=.lst (xs++[.ref tp])) ah (fun _ z=>nomatch z)
   refine⟨_,kc+1+1,_,_,rfl,SameX.put x7 aG ai ah,?_,by omega,by push_cast;omega,zac,az.tupS av⟩
   rw[zam (Ne.symm ai)]
   exact aq
  ·exact⟨_,kc+1,ps,xs,rfl,x5,g5,by omega,by push_cast;omega,ag,al.up⟩
 ·rintro σ H4 ⟨v4,kc,ps,xs,rfl,x4,aj,aF,aB,ak,pt⟩
  have lx:=pt.dn.length
  refine⟨_,rfl,pl,_,rfl,.inl (SqL.of ak),rfl,_,rfl,?_⟩
  by_cases e:xs=[]
  ·refine zfz (by rw[e];rfl) ?_
   have aw:H4 pl=some (.lst []):=by rw[ak,e]
   refine⟨_,rfl,.inl ⟨rfl,_,SqL.of ak⟩,_,rfl,_,rfl,pen,sp,ns,(m:Int),kc,rfl,pn.to x4 aj,by omega,by omega,by omega,fun y y0 y1=>?_⟩
   have af:=zay (pen:=pen) (H:=H4) (.lst [.ref sp,.int (kc+1)])
   have x5:=x4.trans af
   have g5:L2.upd H4 pen (.lst [.ref sp,.int (kc+1)]) pen=some (.lst [.ref sp,.int (kc+1)]):=zac
   have ag:L2.upd H4 pen (.lst [.ref sp,.int (kc+1)]) pl=some (.lst []):=by rw[zam ai];exact aw
   generalize L2.upd H4 pen (.lst [.ref sp,.int (kc+1)])=H5 at x5 g5 ag af ⊢
   refine⟨_,rfl,_,rfl,pen,sp,ns,12,kc+1,rfl,pn.to x5 g5,by omega,by omega,by decide,fun z z0 z1=>?_⟩
   have ao:=zay (pen:=pen) (H:=H5) (.lst [.ref sp,.int (kc+1+1)])
   have x6:=x5.trans ao
   have g6:L2.upd H5 pen (.lst [.ref sp,.int (kc+1+1)]) pen=some (.lst [.ref sp,.int (kc+1+1)]):=zac
   have ap:L2.upd H5 pen (.lst [.ref sp,.int (kc+1+1)]) pl=some (.lst []):=by rw[zam ai];exact ag
   generalize L2.upd H5 pen (.lst [.ref sp,.int (kc+1+1)])=H6 at x6 g6 ap ao ⊢
   refine⟨_,_,rfl,rfl,_,_,rfl,rfl,.inr ⟨by rw[am];omega,by rw[am];omega⟩,small (by show 2≤1000;decide),fun tp ay=>?_⟩
   have s7:=zag ay (.tup [.int y,.int (ae*(z-3))])
   have g7:L2.upd H6 tp (.tup [.int y,.int (ae*(z-3))]) tp=some (.tup [.int y,.int (ae*(z-3))]):=zac
   have ah:=s7 _ _ ap
   have aq:=s7 _ _ g6
   have x7:=x6.trans (Same.x (pen:=pen) s7)
   generalize L2.upd H6 tp (.tup [.int y,.int (ae*(z-3))])=H7 at s7 ah aq x7 g7 ⊢
   refine⟨pl,_,_,rfl,rfl,ah,zbo (by decide),?_⟩
   have av:=zok (o':=.lst ([]++[.ref tp])) ah (fun _ z=>nomatch z)
   refine tail _ (kc+1+1) [.tuple [.int y,.int (ae*(z-3))]] [.ref tp] _ (SameX.put x7 aG ai ah) ?_ (by omega) (by omega) zac (zrx y0 y1 (av _ _ g7)) (by show 0<1;decide)
   rw[zam (Ne.symm ai)]
   exact aq
  ·refine zb5 (fun z=>?_) ?_
   ·injection z with z
    exact e (List.length_eq_zero_iff.mp (by omega))
   have aN:=List.length_pos_iff.mpr e
   exact tail _ kc ps xs H4 x4 aj (by omega) (by omega) ak pt (by omega)
theorem znb(T:Txt K mg a d):FnOk P w K mg base CX0 3 a.f_law_cross d.f_law_cross ["_law_state", "_law_many"] (zsh K):=by
 have ad:=zc0 (P:=P) (w:=w) (base:=base) T
 have ae:=zn9 (P:=P) (w:=w) (base:=base) T
 refine T.K_law_cross.ok sc_law_cross (fun vs H Q E h=>?_) (fun cdv A outer s H vs Q E hr h=>?_)
 ·obtain⟨pen,sp,ns,m,k,rfl,_⟩:=h
  rfl
 obtain⟨pen,sp,ns,m,k,rfl,pn,k0,k1,m1,m9,q⟩:=h
 refine⟨_,(zae (zaz (PW.pt (zfu (zar zbp (pv 1) zad (zav _)) (ze1 (zar zbp (zaf ad hr.lv rfl T.K_law_take (zaa (pv 0) (zaa zad zab))) zad (zav _))))) (zah (zao (zaf ae hr.lv rfl T.K_law_most (zaa (pv 0) (zaa (pv 1) zab))))) zas)
   (zae (zax (i:=2) sc_law_cross.nd rfl (Or.inl rfl) (zaf ad hr.lv rfl T.K_law_take (zaa (pv 0) (zaa (pv 1) zab))))
   (zae (zax (i:=3) sc_law_cross.nd rfl (Or.inl rfl) (za6 zhl (za6 zca (za6 zca (pv 2) zad) (zaf ad hr.lv rfl T.K_law_take (zaa (pv 0) (zaa (za6 zge (pv 1) zad) zab)))) (pv 1)))
   (zah (zao (zbc (zaa (zap (ixL (K:=K)) (zb1 (zaa zbq (zaa zbq zab))) (zaf ad hr.lv rfl T.K_law_take (zaa (pv 0) (zaa zad zab))) (fun _ _=>rfl)) (zaa (pv 2) (zaa (pv 3) zab))))))))),?_⟩
 have af:∀(kc:Int)(H1:Hp),SameX pen H H1→H1 pen=some (.lst [.ref sp,.int kc])→k≤kc→kc≤k+1→zuc (znq K) [] E0 (ztx (zti 0) (ztx (zti 1) zyn)) [some (.ref pen),some (.int (m:Int)),none,none] H1 Q:=by
  intro kc H1 x1 am aB ax
  exact⟨_,rfl,_,rfl,pen,sp,ns,m,kc,rfl,pn.to x1 am,by omega,by omega,m1,m9,fun c v k' H' x' ao ay az dv ti fd=>q c v k' H' (x1.trans x') ao (by omega) (by omega) dv ti fd⟩
 refine⟨_,rfl,rfl,_,rfl,?_⟩
 by_cases e:m=1
 ·refine zfz (by rw[e];rfl) ?_
  exact af k H (SameX.refl _ _) pn.at_ (by omega) (by omega)
 ·refine zb5 (fun z=>?_) ?_
  ·injection z with z
   omega
  refine⟨_,rfl,pen,sp,ns,3,k,rfl,pn,by omega,by omega,by decide,fun y y0 y1=>?_⟩
  have x1:=zay (pen:=pen) (H:=H) (.lst [.ref sp,.int (k+1)])
  have g1:L2.upd H pen (.lst [.ref sp,.int (k+1)]) pen=some (.lst [.ref sp,.int (k+1)]):=zac
  generalize L2.upd H pen (.lst [.ref sp,.int (k+1)])=H1 at x1 g1 ⊢
  refine⟨rfl,_,rfl,?_⟩
  refine zbn (fun _=>?_) (fun _=>?_)
  ·exact af (k+1) H1 x1 g1 (by omega) (by omega)
  refine⟨_,rfl,_,rfl,pen,sp,ns,(m:Int),k+1,rfl,pn.to x1 g1,by omega,by omega,by omega,fun one o0 o1=>?_⟩
  have x2:=x1.trans (zay (pen:=pen) (H:=H1) (.lst [.ref sp,.int (k+1+1)]))
  have g2:L2.upd H1 pen (.lst [.ref sp,.int (k+1+1)]) pen=some (.lst [.ref sp,.int (k+1+1)]):=zac
  generalize L2.upd H1 pen (.lst [.ref sp,.int (k+1+1)])=H2 at x2 g2 ⊢
  refine⟨_,rfl,_,_,rfl,rfl,_,rfl,_,rfl,_,_,rfl,rfl,pen,sp,ns,(m:Int)-1,k+1+1,rfl,pn.to x2 g2,by omega,by omega,by omega,fun x x0 aA=>?_⟩
  have x3:=x2.trans (zay (pen:=pen) (H:=H2) (.lst [.ref sp,.int (k+1+1+1)]))
  have g3:L2.upd H2 pen (.lst [.ref sp,.int (k+1+1+1)]) pen=some (.lst [.ref sp,.int (k+1+1+1)]):=zac
  generalize L2.upd H2 pen (.lst [.ref sp,.int (k+1+1+1)])=H3 at x3 g3 ⊢
  refine⟨_,_,rfl,rfl,_,rfl,_,_,rfl,rfl,(by show(0:Int)<m;omega),?_⟩
  refine⟨small (by show 2≤1000;decide),fun lp ah=>?_⟩
  have s4:=zag ah (.lst [.str ("needs" : Str),.str ("bans" : Str)])
  have g4:L2.upd H3 lp (.lst [.str ("needs" : Str),.str ("bans" : Str)]) lp=some (.lst [.str ("needs" : Str),.str ("bans" : Str)]):=zac
  have ai:=s4 _ _ g3
  have ar:lp≠pen:=fun z=>by rw[z,g3] at ah;cases ah
  have x4:=x3.trans (Same.x (pen:=pen) s4)
  generalize L2.upd H3 lp (.lst [.str ("needs" : Str),.str ("bans" : Str)])=H4 at s4 g4 ai x4 ⊢
  refine⟨_,rfl,pen,sp,ns,2,k+1+1+1,rfl,pn.to x4 ai,by omega,by omega,by decide,fun ag w0 w1=>?_⟩
  have x5:=x4.trans (zay (pen:=pen) (H:=H4) (.lst [.ref sp,.int (k+1+1+1+1)]))
  have g5:L2.upd H4 pen (.lst [.ref sp,.int (k+1+1+1+1)]) pen=some (.lst [.ref sp,.int (k+1+1+1+1)]):=zac
  have aj:L2.upd H4 pen (.lst [.ref sp,.int (k+1+1+1+1)]) lp=some (.lst [.str ("needs" : Str),.str ("bans" : Str)]):=by rw[zam ar];exact g4
  generalize L2.upd H4 pen (.lst [.ref sp,.int (k+1+1+1+1)])=H5 at x5 g5 aj ⊢
  obtain⟨sN,sk,ak,al,ap⟩:∃sN:Str,(sN=("needs" : Str)∨sN=("bans" : Str))∧¬sN=("most" : Str)∧PyData.strOk sN=true∧atI ([.str ("needs" : Str),.str ("bans" : Str)]:List V) ag=some (.str sN):=by
   have e:ag=0∨ag=1:=by omega
   rcases e with e|e<;>rw[e]
   ·exact⟨_,.inl rfl,by decide +kernel,ziw,rfl⟩
   ·exact⟨_,.inr rfl,by decide +kernel,zky,rfl⟩
  refine⟨lp,_,_,_,rfl,rfl,SqL.of aj,ap,_,rfl,_,rfl,small (by show 3≤1000;decide),fun tp au=>?_⟩
  obtain⟨aq,aw,av⟩:=ztr (many:=m) (by omega) (by omega) o0 o1 x0 (by omega)
  have st:=zag au (.tup [.str sN,.int one,.int ((one+1+x)%(m:Int))])
  refine q (.tuple [.str sN,.int one,.int ((one+1+x)%(m:Int))]) _ (k+1+1+1+1) _ (x5.trans (Same.x st)) (st _ _ g5) (by omega) (by omega) ⟨tp,_,rfl,zac,_,_,rfl,rfl,_,_,rfl,rfl,_,_,rfl,rfl,rfl⟩ ?_ ?_
  ·show zi5 m sN _ _=true
   unfold zi5
   rw[if_neg ak,if_pos sk]
   show((decide ((0:Int)≤_)&&decide (_≤(m:Int)-1))&&((decide ((0:Int)≤_)&&decide (_≤(m:Int)-1))&&!decide (_=_)))=true
   rw[decide_eq_true o0,decide_eq_true (by omega),decide_eq_true aq,decide_eq_true (by omega),decide_eq_false av]
   rfl
  ·show(true&&(zbf 2 (.str sN)&&(true&&(true&&true))))=true
   rw[show zbf 2 (.str sN)=true from al]
   rfl
theorem znu(T:Txt K mg a d):FnOk P w K mg base CX0 6 a.f_law_wood d.f_law_wood ["_law_state"] (zu4 K):=by
 have ad:=zc0 (P:=P) (w:=w) (base:=base) T
 have ae:=zlb (P:=P) (w:=w) (base:=base) T
 have af:=znb (P:=P) (w:=w) (base:=base) T
 refine T.K_law_wood.ok sc_law_wood (fun vs H Q E h=>?_) (fun cdv A outer s H vs Q E hr h=>?_)
 ·obtain⟨pen,sp,ns,k,rfl,_⟩:=h
  rfl
 obtain⟨pen,sp,ns,k,rfl,pn,k0,k1,q⟩:=h
 have av:(2:Int)^62=4611686018427387904:=by decide
 obtain⟨aL,aB,aS⟩:=zt6 (X:=(zdw CX0 P w K mg base ["_law_state", "_law_many", "_law_boughs_here", "_law_count"] "_law_wood" (zai zcg) a.f_law_wood cdv A outer s H E).nox) (st:=(zbe zcg).drop 5) (zah (zao (zbc (zaa (pv 1) (zaa (za4 za5 rfl T.m_tuple PyProof.Rows.boot_tuple (zaa (pv 2) zab)) (zaa (za4 za5 rfl T.m_tuple PyProof.Rows.boot_tuple (zaa (zdo (N':=["_law_k", "_law_state", "_law_many"]) (n:=1) (kp:=[0,1]) rfl (zd0 rfl T.m_range (zaa (pv 3) zab)) rfl rfl rfl (fun _ _ _ _ _=>(zaw (i:=0) (of_decide_eq_true rfl) rfl (Or.inl rfl))) (fun _ _ _ _ _=>zes) (fun _ _ _ _ _=>(zaf af hr.lv rfl T.K_law_cross (zaa (pv 1) (zaa (pv 2) zab))))) zab)) zab))))))
 have last:∀(m:Nat)(l:Addr)(bs:List PyData)(xs:List V)(n:Int)(k1:Int)(H1:Hp),SameX pen H H1→H1 pen=some (.lst [.ref sp,.int k1])→k≤k1→k1≤k+95→1≤m→m≤9→H1 l=some (.lst xs)→DnL H1 bs xs→zh7 m bs→bs.length≤8→bs.all (zbf 3)=true→0≤n→n≤8→aL { nx:=fun _ H'=>Q .non H',rt:=Q } [some (.ref pen),some (.int (m:Int)),some (.ref l),some (.int n)] H1:=by
  intro m l bs xs n k1 H1 x1 ak aM aP m1 m9 aI dn gb b8 fb n0 n8
  refine aS _ _ _ ?_
  refine⟨_,rfl,_,rfl,l,_,rfl,.inl ⟨SqL.of aI,fun t1 aJ=>?_⟩⟩
  have s2:=zag aJ (.tup xs)
  have g2:L2.upd H1 t1 (.tup xs) t1=some (.tup xs):=zac
  have ag:=s2 _ _ ak
  have x2:=x1.trans (Same.x (pen:=pen) s2)
  have d2:=DnL.same s2 _ _ dn
  generalize L2.upd H1 t1 (.tup xs)=H2 at s2 g2 ag x2 d2 ⊢
  refine⟨_,rfl,_,rfl,by rw[av];omega,by rw[av];omega,?_⟩
  refine zfa (k:=n.toNat) (fun i ys σ H3=>(∃v,σ=[v,some (.ref pen),some (.int (m:Int))])∧SameX pen H2 H3∧∃(kc:Int)(cs:List PyData),H3 pen=some (.lst [.ref sp,.int kc])∧k1≤kc∧kc≤k1+31*i∧DnL H3 cs ys∧cs.length=i∧(∀c∈cs,zgp m c=true)∧cs.all (zbf 3)=true) ⟨⟨none,rfl⟩,SameX.refl _ _,k1,[],ag,by omega,by omega,rfl,rfl,(fun _ z=>nomatch z),rfl⟩ (fun i ys σ H3 hi pv=>?_) (fun i ys σ H3 hi pv=>?_) (fun ys σ H3 pv cl aO=>?_)
  ·obtain⟨_,_,kc,cs,_,_,_,dc,ln,_⟩:=pv
   rw[←dc.length,ln]
   exact small (by omega)
  ·obtain⟨⟨v,rfl⟩,x3,kc,cs,aj,aR,aH,dc,ln,aq,fc⟩:=pv
   refine⟨_,rfl,_,rfl,pen,sp,ns,m,kc,rfl,pn.to (x2.trans x3) aj,by omega,by omega,m1,m9,fun c v k' H4 x4 al aU aT dv ti fd=>?_⟩
   refine⟨⟨_,rfl⟩,x3.trans x4,k',cs++[c],al,by omega,by push_cast;omega,(DnL.tupS (SameX.tup aj x4) fc dc).append ⟨v,[],rfl,dv,rfl⟩,by rw[List.length_append,List.length_singleton,ln],fun b hb=>?_,?_⟩
   ·rcases List.mem_append.mp hb with z|z
    ·exact aq b z
    ·rw[List.mem_singleton.mp z]
     exact ti
   ·rw[List.all_append,fc]
    simp[fd]
  obtain⟨_,x3,kc,cs,aj,aR,aH,dc,ln,aq,fc⟩:=pv
  have s4:=zag aO (.lst ys)
  have g4:L2.upd H3 cl (.lst ys) cl=some (.lst ys):=zac
  have al:=s4 _ _ aj
  have tS:=zp3 (SameX.tup ag x3) (Same.tup s4)
  have az:=DnL.same s4 _ _ dc
  have x4:=(x2.trans x3).trans (Same.x (pen:=pen) s4)
  generalize L2.upd H3 cl (.lst ys)=H4 at s4 g4 al tS az x4 ⊢
  refine⟨cl,_,rfl,.inl ⟨SqL.of g4,fun t2 aQ=>?_⟩⟩
  have s5:=zag aQ (.tup ys)
  refine⟨small (by show 3≤1000;decide),fun wd aE=>?_⟩
  have s6:=zag aE (.tup [.int (m:Int),.ref t1,.ref t2])
  have ah:=s5.trans s6
  exact q wd m bs cs kc _ (x4.trans (Same.x ah)) (ah _ _ al) (by omega) (by omega) m1 m9 ⟨⟨xs,ys,⟨t1,t2,zac,ah _ _ (tS _ _ g2),s6 _ _ zac⟩,DnL.same ah _ _ (DnL.tupS tS fb d2),DnL.same ah _ _ az⟩,gb,aq,by omega,by omega,fb,fc,m1,m9⟩ (by omega)
 obtain⟨aF,aG,aD⟩:=zt6 (X:=(zdw CX0 P w K mg base ["_law_state", "_law_many", "_law_boughs_here", "_law_count"] "_law_wood" (zai zcg) a.f_law_wood cdv A outer s H E).nox) (st:=(zbe zcg).drop 2) (zae (zax (i:=2) sc_law_wood.nd rfl (Or.inl rfl) (zaf ae hr.lv rfl T.K_law_boughs (zaa (pv 0) (zaa (pv 1) zab))))
   (zae (zax (i:=3) sc_law_wood.nd rfl (Or.inl rfl) (zaf ad hr.lv rfl T.K_law_take (zaa (pv 0) (zaa zad zab))))
   (zae (zaz (zar zbp (zaf ad hr.lv rfl T.K_law_take (zaa (pv 0) (zaa zad zab))) zad (zav _)) (zah (zax (i:=3) sc_law_wood.nd rfl (Or.inl rfl) (zaf ad hr.lv rfl T.K_law_take (zaa (pv 0) (zaa (zap (ixL (K:=K)) (zb1 (zaa zad (zaa zad zab))) (za4 zlr rfl T.m_int PyProof.Rows.boot_int (zaa (zb2 ze7 (pv 1) zad (zav _)) zab)) (fun _ _=>rfl)) zab))))) zas)
   aB)))
 have ax:∀(m:Nat)(k1:Int)(H1:Hp),SameX pen H H1→H1 pen=some (.lst [.ref sp,.int k1])→k≤k1→k1≤k+3→1≤m→m≤9→aF { nx:=fun _ H'=>Q .non H',rt:=Q } [some (.ref pen),some (.int (m:Int)),none,none] H1:=by
  intro m k1 H1 x1 ak aM aP m1 m9
  refine aD _ _ _ ?_
  refine⟨_,rfl,_,rfl,pen,sp,ns,m,k1,rfl,pn.to x1 ak,by omega,by omega,m1,m9,fun l bs xs k2 H2 x2 ag aV aW aK nl dn gb b8 fb=>?_⟩
  have au:l≠pen:=fun z=>by rw[z,ak] at nl;cases nl
  refine⟨_,rfl,pen,sp,ns,4,k2,rfl,pn.to (x1.trans x2) ag,by omega,by omega,by decide,fun c c0 c1=>?_⟩
  have ai:=zay (pen:=pen) (H:=H2) (.lst [.ref sp,.int (k2+1)])
  have g3:L2.upd H2 pen (.lst [.ref sp,.int (k2+1)]) pen=some (.lst [.ref sp,.int (k2+1)]):=zac
  have aA:L2.upd H2 pen (.lst [.ref sp,.int (k2+1)]) l=some (.lst xs):=by rw[zam au];exact aK
  have d3:=DnL.tupS (SameX.tup ag ai) fb dn
  generalize L2.upd H2 pen (.lst [.ref sp,.int (k2+1)])=H3 at ai g3 aA d3 ⊢
  refine⟨_,rfl,pen,sp,ns,4,k2+1,rfl,pn.to ((x1.trans x2).trans ai) g3,by omega,by omega,by decide,fun e e0 e1=>?_⟩
  have ap:=zay (pen:=pen) (H:=H3) (.lst [.ref sp,.int (k2+1+1)])
  have g4:L2.upd H3 pen (.lst [.ref sp,.int (k2+1+1)]) pen=some (.lst [.ref sp,.int (k2+1+1)]):=zac
  have ao:L2.upd H3 pen (.lst [.ref sp,.int (k2+1+1)]) l=some (.lst xs):=by rw[zam au];exact aA
  have d4:=DnL.tupS (SameX.tup g3 ap) fb d3
  generalize L2.upd H3 pen (.lst [.ref sp,.int (k2+1+1)])=H4 at ap g4 ao d4 ⊢
  have x4:=((x1.trans x2).trans ai).trans ap
  refine⟨rfl,_,rfl,?_⟩
  refine zbn (fun _=>?_) (fun _=>?_)
  ·refine⟨_,rfl,small (by show 2≤1000;decide),fun fl aC=>?_⟩
   have s5:=zag aC (.lst [.int 9,.int 7])
   have g5:L2.upd H4 fl (.lst [.int 9,.int 7]) fl=some (.lst [.int 9,.int 7]):=zac
   have am:=s5 _ _ g4
   have ay:=s5 _ _ ao
   have d5:=DnL.same s5 _ _ d4
   have x5:=x4.trans (Same.x (pen:=pen) s5)
   generalize L2.upd H4 fl (.lst [.int 9,.int 7])=H5 at s5 g5 am ay d5 x5 ⊢
   refine⟨_,rfl,_,_,rfl,rfl,.inr ⟨_,rfl,?_⟩⟩
   obtain⟨top,aN,t0,t9⟩:∃top:Int,atI [V.int 9,V.int 7] (if decide ((m:Int)>6)=true then 1 else 0)=some (.int top)∧0<top∧top≤9:=by
    split
    ·exact⟨_,rfl,by decide,by decide⟩
    ·exact⟨_,rfl,by decide,by decide⟩
   refine⟨fl,_,_,_,rfl,rfl,SqL.of g5,aN,pen,sp,ns,top,k2+1+1,rfl,pn.to x5 am,by omega,by omega,t0,fun y y0 y1=>?_⟩
   have ar:=zay (pen:=pen) (H:=H5) (.lst [.ref sp,.int (k2+1+1+1)])
   have g6:L2.upd H5 pen (.lst [.ref sp,.int (k2+1+1+1)]) pen=some (.lst [.ref sp,.int (k2+1+1+1)]):=zac
   have aw:L2.upd H5 pen (.lst [.ref sp,.int (k2+1+1+1)]) l=some (.lst xs):=by rw[zam au];exact ay
   have d6:=DnL.tupS (SameX.tup am ar) fb d5
   generalize L2.upd H5 pen (.lst [.ref sp,.int (k2+1+1+1)])=H6 at ar g6 aw d6 ⊢
   exact last m l bs xs y _ H6 (x5.trans ar) g6 (by omega) (by omega) m1 m9 aw d6 gb b8 fb y0 (by omega)
  ·exact last m l bs xs c _ H4 x4 g4 (by omega) (by omega) m1 m9 ao d4 gb b8 fb c0 (by omega)
 refine⟨_,(zae (zax (i:=1) sc_law_wood.nd rfl (Or.inr rfl) (za6 zca zad (zaf ad hr.lv rfl T.K_law_take (zaa (pv 0) (zaa zad zab)))))
   (zae (zaz (zar zbp (zaf ad hr.lv rfl T.K_law_take (zaa (pv 0) (zaa zad zab))) zad (zav _)) (zah (zax (i:=1) sc_law_wood.nd rfl (Or.inr rfl) (za6 zca zad (zaf ad hr.lv rfl T.K_law_take (zaa (pv 0) (zaa zad zab)))))) zas)
   aG)),?_⟩
 refine⟨_,rfl,pen,sp,ns,6,k,rfl,pn,k0,by omega,by decide,fun c c0 c1=>?_⟩
 refine⟨_,_,rfl,rfl,?_⟩
 have x1:=zay (pen:=pen) (H:=H) (.lst [.ref sp,.int (k+1)])
 have h1:L2.upd H pen (.lst [.ref sp,.int (k+1)]) pen=some (.lst [.ref sp,.int (k+1)]):=zac
 generalize L2.upd H pen (.lst [.ref sp,.int (k+1)])=H1 at x1 h1 ⊢
 refine⟨_,rfl,pen,sp,ns,8,k+1,rfl,pn.to x1 h1,by omega,by omega,by decide,fun e e0 e1=>?_⟩
 have x2:=x1.trans (zay (pen:=pen) (H:=H1) (.lst [.ref sp,.int (k+1+1)]))
 have h2:L2.upd H1 pen (.lst [.ref sp,.int (k+1+1)]) pen=some (.lst [.ref sp,.int (k+1+1)]):=zac
 generalize L2.upd H1 pen (.lst [.ref sp,.int (k+1+1)])=H2 at x2 h2 ⊢
 refine⟨rfl,_,rfl,?_⟩
 refine zbn (fun _=>?_) (fun _=>?_)
 ·refine⟨_,rfl,pen,sp,ns,3,k+1+1,rfl,pn.to x2 h2,by omega,by omega,by decide,fun g g0 g1=>?_⟩
  refine⟨_,_,rfl,rfl,?_⟩
  have x3:=x2.trans (zay (pen:=pen) (H:=H2) (.lst [.ref sp,.int (k+1+1+1)]))
  have h3:L2.upd H2 pen (.lst [.ref sp,.int (k+1+1+1)]) pen=some (.lst [.ref sp,.int (k+1+1+1)]):=zac
  have t:=ax (7+g).toNat _ _ x3 h3 (by omega) (by omega) (by omega) (by omega)
  rw[show(((7+g).toNat:Nat):Int)=7+g by omega] at t
  exact t
 ·have t:=ax (1+c).toNat _ _ x2 h2 (by omega) (by omega) (by omega) (by omega)
  rw[show(((1+c).toNat:Nat):Int)=1+c by omega] at t
  exact t
theorem zka(T:Txt K mg a d):FnOk P w K mg base CX0 1 a.f_law_has d.f_law_has ["_law_some", "_law_k"] zww:=by
 refine T.K_law_has.ok zpm (fun vs H Q E h=>?_) (fun cdv A outer s H vs Q E hr h=>?_)
 ·obtain⟨n,k,rfl,_⟩:=h
  rfl
 obtain⟨n,k,rfl,k9,q⟩:=h
 have pk:=zsb k
 refine⟨_,(zah (zao (zb2 zbp (za6 zhl (za6 zuz (pv 0) (za6 ztd zad (pv 1))) zad) zad (zav _)))),?_⟩
 refine⟨_,rfl,_,rfl,_,_,rfl,rfl,⟨by omega,by omega,by decide⟩,_,_,rfl,rfl,?_,_,_,rfl,rfl,(by show(0:Int)<2;decide),rfl,?_⟩
 ·have ae:2^k≤2^20:=Nat.pow_le_pow_right (by decide) k9
  have ad:(2:Nat)^20=1048576:=by decide
  show zx0 _ _
  unfold zx0
  rw[zx5]
  omega
 ·have e:decide ((fun i j:Int=>V.int (i%j)) ((n:Int)/(1*(2:Int)^((k:Nat):Int).toNat)) 2=V.int 1)=n.testBit k:=by
   rw[zx5]
   exact zu2 n k
  rw[e]
  exact q
theorem zk7(T:Txt K mg a d):FnOk P w K mg base CX0 2 a.f_law_barred d.f_law_barred ["_law_state", "_law_wood_here"] (zuu K):=by
 have ad:=zc0 (P:=P) (w:=w) (base:=base) T
 refine T.K_law_barred.ok sc_law_barred (fun vs H Q E h=>?_) (fun cdv A outer s H vs Q E hr h=>?_)
 ·obtain⟨pen,sp,ns,k,wd,tb,tc,m,L,C,rfl,_⟩:=h
  rfl
 obtain⟨pen,sp,ns,k,wd,tb,tc,m,L,C,rfl,pn,k0,k1,W,q⟩:=h
 have aC:(2:Int)^62=4611686018427387904:=by decide
 have m1:=W.m1
 have m9:=W.m9
 refine⟨_,(zae (zaz (zar ze7 (zaf ad hr.lv rfl T.K_law_take (zaa (pv 0) (zaa zad zab))) zad (zav _)) (zah (zao (pv 1))) zas)
   (zae (zax (i:=2) sc_law_barred.nd rfl (Or.inl rfl) (zbc (zaa zbq (zaa zad (zaa (zbc (zaa (zbc (zaa (zaf ad hr.lv rfl T.K_law_take (zaa (pv 0) (zaa (zap (ixT (K:=K)) (pv 1) zad (fun _ _=>rfl)) zab))) (zaa (za6 zca zad (zaf ad hr.lv rfl T.K_law_take (zaa (pv 0) (zaa zad zab)))) zab))) zab)) zab)))))
   (zah (zao (zbc (zaa (zap (ixT (K:=K)) (pv 1) zad (fun _ _=>rfl)) (zaa (zap (ixT (K:=K)) (pv 1) zad (fun _ _=>rfl)) (zaa (za6 zod (zkc zmk (zap (ixT (K:=K)) (pv 1) zad (fun _ _=>rfl)) zmp (zl7 zad)) (zbc (zaa (pv 2) zab))) zab)))))))),?_⟩
 refine⟨_,rfl,pen,sp,ns,3,k,rfl,pn,by omega,by omega,by decide,fun w1 aE ay=>?_⟩
 have x1:=zay (pen:=pen) (H:=H) (.lst [.ref sp,.int (k+1)])
 have g1:L2.upd H pen (.lst [.ref sp,.int (k+1)]) pen=some (.lst [.ref sp,.int (k+1)]):=zac
 generalize L2.upd H pen (.lst [.ref sp,.int (k+1)])=H1 at x1 g1 ⊢
 have W1:=W.tupS (SameX.tup pn.at_ x1)
 have ax:=pn.to x1 g1
 refine⟨_,_,rfl,rfl,_,rfl,?_⟩
 refine zbn (fun c=>?_) (fun c=>?_)
 ·exact⟨_,rfl,q wd tc C (k+1) H1 x1 g1 (by omega) (by omega) (.inl rfl) W1⟩
 refine⟨_,rfl,_,rfl,wd,_,_,_,rfl,rfl,sqT W1.at_,at0,pen,sp,ns,m,k+1,rfl,ax,by omega,by omega,by omega,fun w2 au aF=>?_⟩
 have x2:=x1.trans (zay (pen:=pen) (H:=H1) (.lst [.ref sp,.int (k+1+1)]))
 have g2:L2.upd H1 pen (.lst [.ref sp,.int (k+1+1)]) pen=some (.lst [.ref sp,.int (k+1+1)]):=zac
 generalize L2.upd H1 pen (.lst [.ref sp,.int (k+1+1)])=H2 at x2 g2 ⊢
 have ap:=pn.to x2 g2
 refine⟨_,rfl,pen,sp,ns,5,k+1+1,rfl,ap,by omega,by omega,by decide,fun w3 az aA=>?_⟩
 have x3:=x2.trans (zay (pen:=pen) (H:=H2) (.lst [.ref sp,.int (k+1+1+1)]))
 have g3:L2.upd H2 pen (.lst [.ref sp,.int (k+1+1+1)]) pen=some (.lst [.ref sp,.int (k+1+1+1)]):=zac
 generalize L2.upd H2 pen (.lst [.ref sp,.int (k+1+1+1)])=H3 at x3 g3 ⊢
 refine⟨_,_,rfl,rfl,small (by show 2≤1000;decide),fun t1 al=>?_⟩
 have s4:=zag al (.tup [.int w2,.int (1+w3)])
 have g4:L2.upd H3 t1 (.tup [.int w2,.int (1+w3)]) t1=some (.tup [.int w2,.int (1+w3)]):=zac
 generalize L2.upd H3 t1 (.tup [.int w2,.int (1+w3)])=H4 at s4 g4 ⊢
 refine⟨small (by show 1≤1000;decide),fun t2 ar=>?_⟩
 have s5:=zag ar (.tup [.ref t1])
 have g5:L2.upd H4 t2 (.tup [.ref t1]) t2=some (.tup [.ref t1]):=zac
 generalize L2.upd H4 t2 (.tup [.ref t1])=H5 at s5 g5 ⊢
 refine⟨small (by show 3≤1000;decide),fun t3 ao=>?_⟩
 have s6:=zag ao (.tup [.str ("most" : Str),.int 0,.ref t2])
 have g6:L2.upd H5 t3 (.tup [.str ("most" : Str),.int 0,.ref t2]) t3=some (.tup [.str ("most" : Str),.int 0,.ref t2]):=zac
 generalize L2.upd H5 t3 (.tup [.str ("most" : Str),.int 0,.ref t2])=H6 at s6 g6 ⊢
 have ah:=(s4.trans s5).trans s6
 have x6:=x3.trans (Same.x ah)
 have W6:=W.tupS (SameX.tup pn.at_ x6)
 obtain⟨yc,aq,dC⟩:=W6.cs
 have aD:yc.length=C.length:=by rw[←dC.length,List.length_map]
 have fc:=W.fewc
 refine⟨_,rfl,wd,_,_,_,rfl,rfl,sqT W6.at_,at0,_,rfl,wd,_,_,_,rfl,rfl,sqT W6.at_,at1,_,rfl,wd,_,_,_,rfl,rfl,sqT W6.at_,at2,_,rfl,tc,yc,rfl,aq,fun t4 H7 s7 aj=>?_⟩
 have e7:zjc yc none (some 7)=yc.take 7:=by
  by_cases z:7≤yc.length
  ·exact zot yc 7 z
  ·unfold zjc
   rw[show(some 7:Option Int)=some ((7:Nat):Int) from rfl,HT.sIx_nat,HT.sIx_none,List.drop_zero,Nat.sub_zero,Nat.min_eq_right (by omega),List.take_of_length_le (Nat.le_refl _),List.take_of_length_le (by omega)]
 rw[e7] at aj
 refine⟨_,rfl,small (by show 1≤1000;decide),fun t5 av=>?_⟩
 have s8:=zag av (.tup [.ref t3])
 have g8:L2.upd H7 t5 (.tup [.ref t3]) t5=some (.tup [.ref t3]):=zac
 generalize L2.upd H7 t5 (.tup [.ref t3])=H8 at s8 g8 ⊢
 refine⟨t4,t5,_,_,rfl,rfl,s8 _ _ aj,g8,small (by rw[List.length_take];show _+1≤1000;omega),fun t6 H9 s9 am=>?_⟩
 refine⟨small (by show 3≤1000;decide),fun ai ag=>?_⟩
 have af:=zag ag (.tup [.int (m:Int),.ref tb,.ref t6])
 have ae:=((s7.trans s8).trans s9).trans af
 have aw:=x6.trans (Same.x ae)
 have aB:=s9.trans af
 have WE:=W6.same ae
 obtain⟨n2,e2⟩:=Int.eq_ofNat_of_zero_le au
 have ak:L2.upd H9 ai (.tup [.int (m:Int),.ref tb,.ref t6]) pen=some (.lst [.ref sp,.int (k+1+1+1)]):=ae _ _ (ah _ _ g3)
 refine q ai t6 (C.take 7++[.most 0 [(n2,1+w3)]]) (k+1+1+1) _ aw ak (by omega) (by omega) (.inr (by rw[List.length_append,List.length_take];show _+1≤8;omega)) ⟨zac,WE.bs,⟨_,af _ _ am,?_⟩,W.okb,fun t ht=>?_,fun t ht=>?_,m1,m9,W.fewb,by rw[List.length_append,List.length_take];show _+1≤20;omega⟩
 ·rw[List.map_append,List.map_take]
  refine(DnL.take 7 (DnL.same ae _ _ dC)).append ?_
  refine⟨_,_,rfl,⟨t3,_,rfl,ae _ _ g6,_,_,rfl,rfl,_,_,rfl,rfl,_,_,rfl,⟨t2,_,rfl,ae _ _ (s6 _ _ g5),_,_,rfl,⟨t1,_,rfl,ae _ _ (s6 _ _ (s5 _ _ g4)),_,_,rfl,by rw[e2];rfl,_,_,rfl,rfl,rfl⟩,rfl⟩,rfl⟩,rfl⟩
 ·rcases List.mem_append.mp ht with z|z
  ·exact W.okc t (List.mem_of_mem_take z)
  ·rw[List.mem_singleton.mp z]
   refine⟨List.cons_ne_nil _ _,fun p hp=>?_,List.pairwise_singleton _ _,by show 1≤m;exact m1⟩
   rw[List.mem_singleton.mp hp]
   show n2<m
   omega
 ·rcases List.mem_append.mp ht with z|z
  ·exact W.nb t (List.mem_of_mem_take z)
  ·rw[List.mem_singleton.mp z]
   intro u lo hi ks e
   cases e
theorem zjp(T:Txt K mg a d)(LB:zhn mg base a.c_cases_of a.t_cases_of):FnOk P w K mg base CX0 26 a.f_law_refused d.f_law_refused ["_law_wood_here"] (zx1 a.t_cases_of):=by
 have ad:=zp2 (P:=P) (w:=w) (base:=base) T LB
 refine T.K_law_refused.ok sc_law_refused (fun vs H Q E h=>?_) (fun cdv A outer s H vs Q E hr h=>?_)
 ·obtain⟨wd,tb,tc,m,L,C,rfl,_⟩:=h
  rfl
 obtain⟨wd,tb,tc,m,L,C,rfl,ta,WP,ae,q⟩:=h
 obtain⟨W,hW⟩:∃W:XK,W=fun cls _ H'=>cls=.ref a.x_NoWares∧Same H H':=⟨_,rfl⟩
 refine⟨_,(zae (zax (i:=1) sc_law_refused.nd rfl (Or.inl rfl) zhv)
   (zae (zuw (i:=2) (W:=W) rfl rfl (fun _=>(zah (zck (zmf ad hr.lv rfl T.K_folded.g T.K_folded.kp T.K_folded.B .nil zyc (zaa (pv 0) zab))))) rfl T.g_WoodError T.x_WoodError.cl sc_law_refused.nd rfl rfl (Or.inl rfl) (fun _=>(zah (zax (i:=1) sc_law_refused.nd rfl (Or.inl rfl) (pv 2)))))
   (zae (zaz (za9 (zan (zyr (K:=K)) rfl T.m_isinstance PyProof.Rows.boot_isinstance (zaa (pv 1) (zaa (zbc (zaa (zdj (v:=.ref a.x_NoCount) rfl T.g_NoCount rfl) (zaa (zdj (v:=.ref a.x_NoName) rfl T.g_NoName rfl) (zaa (zdj (v:=.ref a.x_NoOffer) rfl T.g_NoOffer rfl) (zaa (zdj (v:=.ref a.x_NoRow) rfl T.g_NoRow rfl) (zaa (zdj (v:=.ref a.x_NoText) rfl T.g_NoText rfl) (zaa (zdj (v:=.ref a.x_NoWood) rfl T.g_NoWood rfl) (zaa (zdj (v:=.ref a.x_Unlike) rfl T.g_Unlike rfl) zab)))))))) zab)))) (zah (zao zd9)) zas)
   (zah (zao (zco (zan (zyp (K:=K)) rfl T.m_isinstance PyProof.Rows.boot_isinstance (zaa (pv 1) (zaa (zdj (v:=.ref a.x_NoWares) rfl T.g_NoWares rfl) zab))) (zcn (zan (zyp (K:=K)) rfl T.m_isinstance PyProof.Rows.boot_isinstance (zaa (pv 1) (zaa (zcd (v:=.ty "ValueError") rfl T.m_ValueError zvt rfl) zab)))))))))),?_⟩
 refine⟨⟨_,rfl,ta,wd,tb,tc,m,L,C,rfl,WP,ae,fun H' s'=>by rw[hW];exact⟨rfl,s'⟩⟩,?_⟩
 intro σ' H' ea Dc hl w1 hea
 rw[hW] at w1
 obtain⟨ec,s0⟩:=w1
 cases Value.ref.inj ec
 obtain⟨v0,v1,v2,rfl⟩:∃v0 v1 v2,σ'=[v0,v1,v2]:=by
  match σ',hl with
  |[a,b,c],_=>exact⟨a,b,c,rfl⟩
 refine⟨T.x_NoWares.cl,T.s_NoWares_WoodError,?_⟩
 have s1:=zag hea (.ext (zit ea a.x_NoWares))
 have h1:L2.upd H' ea (.ext (zit ea a.x_NoWares)) ea=some (.ext (zit ea a.x_NoWares)):=zac
 generalize L2.upd H' ea (.ext (zit ea a.x_NoWares))=H1 at s1 h1 ⊢
 refine⟨_,rfl,?_⟩
 refine⟨_,rfl,small (by show 7≤1000;decide),fun tp af=>?_⟩
 have s2:=zag af (.tup ([a.x_NoCount,a.x_NoName,a.x_NoOffer,a.x_NoRow,a.x_NoText,a.x_NoWood,a.x_Unlike].map V.ref))
 have h2:L2.upd H1 tp (.tup ([a.x_NoCount,a.x_NoName,a.x_NoOffer,a.x_NoRow,a.x_NoText,a.x_NoWood,a.x_Unlike].map V.ref)) tp=some (.tup ([a.x_NoCount,a.x_NoName,a.x_NoOffer,a.x_NoRow,a.x_NoText,a.x_NoWood,a.x_Unlike].map V.ref)):=zac
 have e2:=s2 _ _ h1
 refine⟨ea,_,tp,_,rfl,e2,T.x_NoWares,h2,fun C hC=>?_,_,rfl,?_⟩
 ·simp only[List.mem_cons,List.not_mem_nil,or_false] at hC
  rcases hC with rfl|rfl|rfl|rfl|rfl|rfl|rfl
  ·exact T.k_NoWares_NoCount
  ·exact T.k_NoWares_NoName
  ·exact T.k_NoWares_NoOffer
  ·exact T.k_NoWares_NoRow
  ·exact T.k_NoWares_NoText
  ·exact T.k_NoWares_NoWood
  ·exact T.k_NoWares_Unlike
 refine zc5 ?_
 refine⟨_,rfl,ea,_,_,_,rfl,e2,T.x_NoWares,.inl ⟨_,rfl,T.k_NoWares_NoWares⟩,_,rfl,?_⟩
 refine zpq ?_
 refine⟨_,rfl,ea,_,_,_,rfl,e2,T.x_NoWares,.inr ⟨_,rfl,T.v_NoWares⟩,?_⟩
 exact q _ ((s0.trans s1).trans s2)
theorem zh9(T:Txt K mg a d):FnOk P w K mg base CX0 2 a.f_law_boughs_due d.f_law_boughs_due ["_law_wood_here", "_law_kept", "_law_some"] zov:=by
 have ae:=zka (P:=P) (w:=w) (base:=base) T
 refine T.K_law_boughs_due.ok sc_law_boughs_due (fun vs H Q E h=>?_) (fun cdv A outer s H vs Q E hr h=>?_)
 ·obtain⟨wd,tb,tc,lk,ls,m,L,C,rfl,_⟩:=h
  rfl
 obtain⟨wd,tb,tc,lk,ls,m,L,C,rfl,W,aL,aS,aA,q⟩:=h
 have m9:=W.m9
 have few:=zgz (m:=m) (ts:=zal L C) m9
 have aF:=zgu m (zal L C)
 have ag:∀b∈L,(∃k∈b.ks,k∈zak m (zal L C))→b.u∈zak m (zal L C):=fun b hb=>zeg (List.mem_append.mpr (.inl (List.mem_map.mpr ⟨b,hb,rfl⟩)))
 have av:∀b∈L,∀(lo hi:Int),b.u∈zak m (zal L C)→_→_→_→_→_:=fun b hb lo hi hu=>zs4 (L:=L) (C:=C) (b:=b) (lo:=lo) (hi:=hi) W.nb aA hu
 have aD:∀k∈zak m (zal L C),∃w∈za1 m (zal L C),w.testBit k=true:=fun k hk=>by
  obtain⟨_,w,h1,h2,h3⟩:=mem_keptL.mp hk
  exact⟨w,mem_wareL.mpr ⟨h1,h2⟩,h3⟩
 have qq:∀(t:Addr)(DL:List Bg)(H':Hp),Same H H'→TightL (zcs m L C) (L.filterMap (mvB (zak m (zal L C)))) DL→TiesAt H' t (DL.map Bg.tie)→Q (.ref t) H':=q
 obtain⟨kept,ao⟩:∃kept,kept=zak m (zal L C):=⟨_,rfl⟩
 obtain⟨ad,al⟩:∃ad,ad=za1 m (zal L C):=⟨_,rfl⟩
 rw[←ao] at aL aF ag aD qq av
 rw[←al] at aS few aD av
 generalize zcs m L C=fs at qq av
 obtain⟨xs,aN,dn⟩:=W.bs
 have lx:xs.length=L.length:=by
  have:=dn.length
  rw[List.length_map,List.length_map] at this
  exact this.symm
 have fb:=W.fewb
 have bq:(zaj ad).length=ad.length:=List.length_map _
 refine⟨_,(zae (zax (i:=3) sc_law_boughs_due.nd rfl (Or.inl rfl) (zb1 zab))
   (zae (zde PassesOwn.never rfl (piT (K:=K) (zap (ixT (K:=K)) (pv 0) zad (fun _ _=>rfl))) (pgT (K:=K) (n:=4) rfl (za8 (zaw (i:=4) sc_law_boughs_due.nd rfl (Or.inr rfl)) (za8 (zaw (i:=5) sc_law_boughs_due.nd rfl (Or.inl rfl)) (za8 (zaw (i:=6) sc_law_boughs_due.nd rfl (Or.inl rfl)) (za8 (zaw (i:=7) sc_law_boughs_due.nd rfl (Or.inl rfl)) zdm))))) (zae (zax (i:=8) sc_law_boughs_due.nd rfl (Or.inr rfl) (zdo (N':=["_law_k", "_law_kept"]) (n:=1) (kp:=[1]) rfl (piT (K:=K) (pv 7)) rfl rfl rfl (fun _ _ _ _ _=>(zaw (i:=0) (of_decide_eq_true rfl) rfl (Or.inl rfl))) (fun _ _ _ _ _=>(zbz (zar (inS (K:=K)) (pv 0) (pv 1) (by with_unfolding_all rfl)))) (fun _ _ _ _ _=>(pv 0))))
   (zae (zlh (i:=9) sc_law_boughs_due.nd rfl rfl rfl (N':=["_law_ware", "_law_stay", "_law_up"]) (n:=1) (kp:=[8,4]) rfl (piL (K:=K) (pv 2)) rfl rfl rfl (fun _ _ _ _ _=>(zaw (i:=0) (of_decide_eq_true rfl) rfl (Or.inr rfl))) (fun _ _ _ _ _=>(zbz (za9 (zaf ae hr.lv rfl T.K_law_has (zaa (pv 0) (zaa (pv 2) zab)))))) (fun _ _ _ _ _=>(zan (zb9 (K:=K)) rfl T.m_len PySem.boot_len (zaa (zdo (sc0:=(zgd (lcS (zxk (zvv (zbe zbi) 1)[1]?)) (zai zbi))) (N':=["_law_k", "_law_ware"]) (n:=1) (kp:=[0]) rfl (piL (K:=K) (pv 1)) rfl rfl rfl (fun _ _ _ _ _=>(zaw (i:=0) (of_decide_eq_true rfl) rfl (Or.inl rfl))) (fun _ _ _ _ _=>(zbz (za9 (zaf ae hr.lv rfl T.K_law_has (zaa (pv 1) (zaa (pv 0) zab)))))) (fun _ _ _ _ _=>(pv 0))) zab))))
   (zah (zaz (PW.pt (zhk (zar (inS (K:=K)) (pv 4) (pv 1) (by with_unfolding_all rfl)) (zfm (zar ze7 (zan (zb9 (K:=K)) rfl T.m_len PySem.boot_len (zaa (pv 8) zab)) zad (zav _))))) (zah (zck (zb3 (K:=K) PySem.F.plainAttrs_list PySem.F.slot_list_append PySem.F.type_list_append zc1 (pv 3) (zaa (zbc (zaa (zb3 (K:=K) PySem.F.plainAttrs_list PySem.F.slot_list_index PySem.F.type_list_index zcu (pv 1) (zaa (pv 4) zab)) (zaa (zan (zlw (K:=K) rfl) rfl T.m_min PyProof.Rows.boot_min (zaa (pv 9) zab)) (zaa (zan (zle (K:=K) rfl) rfl T.m_max PyProof.Rows.boot_max (zaa (pv 9) zab)) (zaa (za4 za5 rfl T.m_tuple PyProof.Rows.boot_tuple (zaa (zdo (N':=["_law_k", "_law_kept"]) (n:=1) (kp:=[1]) rfl (piL (K:=K) (pv 8)) rfl rfl rfl (fun _ _ _ _ _=>(zaw (i:=0) (of_decide_eq_true rfl) rfl (Or.inl rfl))) (fun _ _ _ _ _=>zes) (fun _ _ _ _ _=>(zb3 (K:=K) PySem.F.plainAttrs_list PySem.F.slot_list_index PySem.F.type_list_index zcu (pv 1) (zaa (pv 0) zab)))) zab)) zab))))) zab)))) zas)))))
   (zah (zao (za4 za5 rfl T.m_tuple PyProof.Rows.boot_tuple (zaa (pv 3) zab)))))),?_⟩
 refine⟨small (by show 0≤1000;decide),fun ld aK=>?_⟩
 have s1:=zag aK (.lst [])
 have g1:L2.upd H ld (.lst []) ld=some (.lst []):=zac
 generalize L2.upd H ld (.lst [])=H1 at s1 g1 ⊢
 have aY:=s1 _ _ W.at_
 refine⟨_,rfl,wd,_,_,_,rfl,rfl,sqT aY,at1,tb,rfl,⟨_,sqT (s1 _ _ aN)⟩,?_⟩
 refine zgx (K:=K) (a:=tb) (xs:=xs) (fun i σ H2=>∃(v4 v5 v6 v7 v8 v9:Option V)(ys:List V)(DL:List Bg),σ=[some (.ref wd),some (.ref lk),some (.ref ls),some (.ref ld),v4,v5,v6,v7,v8,v9]∧Same H H2∧H2 ld=some (.lst ys)∧DnL H2 ((DL.map Bg.tie).map Tie.toD) ys∧ys.length≤i∧TightL fs ((L.take i).filterMap (mvB kept)) DL∧∀b∈DL,b.ks.length≤1000) ⟨none,none,none,none,none,none,[],[],rfl,s1,g1,rfl,Nat.le_refl _,rfl,fun _ z=>nomatch z⟩ (fun i σ H2 _ z=>?_) ?_ ?_
 ·obtain⟨_,_,_,_,_,_,_,_,_,s2,_⟩:=z
  exact sqT (s2 _ _ aN)
 ·rintro i x σ H2 hx ⟨v4,v5,v6,v7,v8,v9,ys,DL,rfl,s2,g2,dy,yl,tl,dk⟩
  obtain⟨d0,aT,hd⟩:=dn.get hx
  rw[List.getElem?_map,List.getElem?_map] at aT
  obtain⟨t0,bi,rfl⟩:=Option.map_eq_some_iff.mp aT
  obtain⟨b,hb,rfl⟩:=Option.map_eq_some_iff.mp bi
  have aH:=List.mem_of_getElem? hb
  have aI:=W.okb b aH
  have bw:=aI.few
  have um:=aI.um
  obtain⟨p,pk,rfl,hp,bo⟩:=zc6 hd
  have et:L.take (i+1)=L.take i++[b]:=by rw[List.take_add_one,hb,Option.toList_some]
  have il:=(List.getElem?_eq_some_iff.mp hb).1
  have ak:H2 lk=some (.lst (zaj kept)):=s2 _ _ aL
  have aG:H2 ls=some (.lst (zaj ad)):=s2 _ _ aS
  have aq:=s2 _ _ bo
  have aM:mvB kept b=if zbu kept b=[] then none else some ⟨mv kept b.u,b.lo,b.hi,(zbu kept b).map (mv kept)⟩:=rfl
  have bx:(zbu kept b).length≤b.ks.length:=List.length_filter_le _ _
  have ai:∀k∈zbu kept b,k∈b.ks∧k∈kept:=fun k hk=>⟨(List.mem_filter.mp hk).1,of_decide_eq_true (List.mem_filter.mp hk).2⟩
  have br:=ag b aH
  refine⟨p,_,rfl,sqT (s2 _ _ hp),rfl,_,_,rfl,_,_,rfl,_,_,rfl,_,_,rfl,rfl,?_⟩
  refine⟨_,rfl,pk,rfl,⟨_,sqT aq⟩,?_⟩
  refine zey (K:=K) (a:=pk) (xs:=zaj b.ks) (fun j zs σ H3=>(∃v,σ=[v,some (.ref lk)])∧H3=H2∧zs=zaj ((b.ks.take j).filter fun k=>decide (k∈kept))) ⟨⟨none,rfl⟩,rfl,rfl⟩ (fun j zs σ H3 hj pv=>?_) (fun j zs σ H3 hj pv=>?_) (fun j x zs σ H3 hx pv=>?_) (fun zs σ H3 pv l1 bh=>?_)
  ·obtain⟨_,_,rfl⟩:=pv
   rw[List.length_map]
   refine small (Nat.le_trans (List.length_filter_le _ _) ?_)
   rw[List.length_take]
   omega
  ·rw[pv.2.1]
   exact sqT aq
  ·obtain⟨⟨v,rfl⟩,rfl,rfl⟩:=pv
   rw[List.getElem?_map] at hx
   obtain⟨k,hk,rfl⟩:=Option.map_eq_some_iff.mp hx
   have ek:(b.ks.take (j+1)).filter (fun k=>decide (k∈kept))=(b.ks.take j).filter (fun k=>decide (k∈kept))++(if k∈kept then [k] else []):=by
    rw[List.take_add_one,hk,Option.toList_some,List.filter_append]
    by_cases z:k∈kept<;>simp[z]
   refine⟨_,rfl,_,rfl,lk,_,rfl,.inl (SqL.of ak),rfl,za0 _,_,rfl,?_⟩
   by_cases c:k∈kept
   ·refine zf0 (show inV (.int (k:Int)) (zaj kept)=true by rw[za7,decide_eq_true c]) ?_
    refine⟨_,rfl,⟨_,rfl⟩,rfl,?_⟩
    rw[ek,if_pos c,zcz]
    rfl
   ·refine zdc (show inV (.int (k:Int)) (zaj kept)=false by rw[za7,decide_eq_false c]) ?_
    refine⟨⟨_,rfl⟩,rfl,?_⟩
    rw[ek,if_neg c,List.append_nil]
  obtain⟨_,rfl,rfl⟩:=pv
  have bj:(zaj b.ks).length=b.ks.length:=List.length_map _
  rw[bj,List.take_length,show(b.ks.filter fun k=>decide (k∈kept))=zbu kept b from rfl]
  have s4:=zag bh (.lst (zaj (zbu kept b)))
  have g4:L2.upd H3 l1 (.lst (zaj (zbu kept b))) l1=some (.lst (zaj (zbu kept b))):=zac
  have aR:=DnL.same s4 _ _ dy
  generalize L2.upd H3 l1 (.lst (zaj (zbu kept b)))=H4 at s4 g4 aR ⊢
  have bu:=s2.trans s4
  have am:H4 ls=some (.lst (zaj ad)):=s4 _ _ aG
  refine⟨_,rfl,ls,rfl,⟨_,SqL.of am⟩,?_⟩
  refine zdl (K:=K) (a:=ls) (xs:=zaj ad) (fun j zs σ H5=>(∃v,σ=[v,some (.ref l1),some (.int (b.u:Int))])∧Same H4 H5∧zs=zaj (((ad.take j).filter fun w=>w.testBit b.u).map fun w=>cnt (zbu kept b) w)) ⟨⟨none,rfl⟩,Same.refl _,rfl⟩ (fun j zs σ H5 hj pv=>?_) (fun j zs σ H5 hj pv=>?_) (fun j x zs σ H5 hx pv=>?_) (fun zs σ H5 pv aj ay=>?_)
  ·obtain⟨_,_,rfl⟩:=pv
   rw[List.length_map,List.length_map]
   refine small (Nat.le_trans (List.length_filter_le _ _) ?_)
   rw[List.length_take]
   omega
  ·exact SqL.of (pv.2.1 _ _ am)
  ·obtain⟨⟨v,rfl⟩,s5,rfl⟩:=pv
   rw[List.getElem?_map] at hx
   obtain⟨wa,aP,rfl⟩:=Option.map_eq_some_iff.mp hx
   refine⟨_,rfl,_,rfl,wa,b.u,rfl,by omega,_,rfl,?_⟩
   cases c:wa.testBit b.u
   ·refine zc5 ?_
    refine⟨⟨_,rfl⟩,s5,?_⟩
    rw[zi3 (p:=fun w=>w.testBit b.u) aP false c,if_neg (by decide),List.append_nil]
   ·refine zpq ?_
    have g5:=s5 _ _ g4
    refine⟨_,rfl,l1,rfl,⟨_,SqL.of g5⟩,?_⟩
    refine zqt (K:=K) (a:=l1) (l:=zbu kept b) (σr:=[some (.int (wa:Int))]) (fun k=>wa.testBit k) rfl g5 (by omega) (fun k hk R r=>?_) (fun lz bv=>?_)
    ·have:=aI.up k (ai k hk).1
     exact⟨_,rfl,_,rfl,wa,k,rfl,by omega,_,rfl,r⟩
    refine⟨lz,_,rfl,.inl (SqL.of zac),⟨_,rfl⟩,s5.trans (zag bv _),?_⟩
    rw[zi3 (p:=fun w=>w.testBit b.u) aP true c,if_pos rfl,List.map_append,zcz]
    rw[show(zaj ((zbu kept b).filter fun k=>wa.testBit k)).length=cnt (zbu kept b) wa from List.length_map _]
    rfl
  obtain⟨_,s5,rfl⟩:=pv
  rw[bq,List.take_length]
  obtain⟨cl,aB⟩:∃cl,cl=(ad.filter fun w=>w.testBit b.u).map fun w=>cnt (zbu kept b) w:=⟨_,rfl⟩
  rw[←aB]
  have aQ:=zag ay (.lst (zaj cl))
  have g6:L2.upd H5 aj (.lst (zaj cl)) aj=some (.lst (zaj cl)):=zac
  generalize L2.upd H5 aj (.lst (zaj cl))=H6 at aQ g6 ⊢
  have ar:=s5.trans aQ
  have aO:=bu.trans ar
  have aV:=DnL.same ar _ _ aR
  have ah:H6 lk=some (.lst (zaj kept)):=(s4.trans ar) _ _ ak
  have aJ:H6 l1=some (.lst (zaj (zbu kept b))):=ar _ _ g4
  have aC:H6 ld=some (.lst ys):=(s4.trans ar) _ _ g2
  have aE:(zaj (zbu kept b)).length=(zbu kept b).length:=List.length_map _
  refine⟨_,rfl,_,rfl,lk,_,rfl,.inl (SqL.of ah),rfl,za0 _,_,rfl,?_⟩
  have af:zbu kept b=[]→∃(v4 v5 v6 v7 v8 v9:Option V)(ys':List V)(DL:List Bg),[some (V.ref wd),some (V.ref lk),some (V.ref ls),some (V.ref ld),some (V.int (b.u:Int)),some (V.int b.lo),some (V.int b.hi),some (V.ref pk),some (V.ref l1),some (V.ref aj)]=[some (.ref wd),some (.ref lk),some (.ref ls),some (.ref ld),v4,v5,v6,v7,v8,v9]∧Same H H6∧H6 ld=some (.lst ys')∧DnL H6 ((DL.map Bg.tie).map Tie.toD) ys'∧ys'.length≤i+1∧TightL fs ((L.take (i+1)).filterMap (mvB kept)) DL∧∀b∈DL,b.ks.length≤1000:=fun e=>by
   refine⟨_,_,_,_,_,_,ys,DL,rfl,aO,aC,aV,by omega,?_,dk⟩
   rw[et,List.filterMap_append,List.filterMap_cons_none (by rw[aM,if_pos e]),List.filterMap_nil,List.append_nil]
   exact tl
  by_cases cu:b.u∈kept
  rotate_left
  ·refine zdc (show inV (.int (b.u:Int)) (zaj kept)=false by rw[za7,decide_eq_false cu]) ?_
   refine zc5 ?_
   refine af ?_
   rw[List.eq_nil_iff_forall_not_mem]
   intro k hk
   exact cu (br ⟨k,ai k hk⟩)
  refine zf0 (show inV (.int (b.u:Int)) (zaj kept)=true by rw[za7,decide_eq_true cu]) ?_
  refine⟨_,rfl,l1,_,rfl,.inl (SqL.of aJ),_,_,rfl,rfl,_,rfl,?_⟩
  by_cases e:zbu kept b=[]
  ·refine zdc (decide_eq_false (show ¬(((zaj (zbu kept b)).length:Nat):Int)>0 by rw[aE,e];decide)) ?_
   exact af e
  have lp:=List.length_pos_iff.mpr e
  refine zf0 (decide_eq_true (show(((zaj (zbu kept b)).length:Nat):Int)>0 by rw[aE];omega)) ?_
  obtain⟨r1,r2⟩:=zbx cu
  have ap:0<(cl.map fun k:Nat=>(k:Int)).length:=by
   obtain⟨w0,bf,bt⟩:=aD _ cu
   rw[List.length_map,aB,List.length_map]
   exact List.length_pos_of_mem (List.mem_filter.mpr ⟨bf,bt⟩)
  have au:∀z:Int,z∈cl.map (fun k:Nat=>(k:Int))↔∃w∈ad,w.testBit b.u=true∧z=(cnt (zbu kept b) w:Int):=fun z=>by
   rw[aB,List.map_map,List.mem_map]
   constructor
   ·rintro⟨w,hw,rfl⟩
    exact⟨w,(List.mem_filter.mp hw).1,(List.mem_filter.mp hw).2,rfl⟩
   ·rintro⟨w,h1,h2,rfl⟩
    exact⟨w,List.mem_filter.mpr ⟨h1,h2⟩,rfl⟩
  refine⟨_,rfl,.inl ⟨rfl,_,SqL.of aC⟩,_,rfl,.inl ⟨rfl,_,SqL.of ah⟩,_,rfl,lk,_,_,mv kept b.u,rfl,rfl,ah,rfl,za0 _,r1,r2,_,rfl,aj,cl.map (fun k:Nat=>(k:Int)),rfl,SqL.of (by rw[zf7];exact g6),ap,fun lo aZ bg=>?_⟩
  refine⟨_,rfl,aj,cl.map (fun k:Nat=>(k:Int)),rfl,SqL.of (by rw[zf7];exact g6),ap,fun hi bp aW=>?_⟩
  have tb:=av b aH lo hi cu ((au lo).mp aZ) (fun w hw hb=>bg _ ((au _).mpr ⟨w,hw,hb,rfl⟩)) ((au hi).mp bp) (fun w hw hb=>aW _ ((au _).mpr ⟨w,hw,hb,rfl⟩))
  refine⟨_,rfl,l1,rfl,⟨_,SqL.of aJ⟩,?_⟩
  refine zdl (K:=K) (a:=l1) (xs:=zaj (zbu kept b)) (fun j zs σ H7=>(∃v,σ=[v,some (.ref lk)])∧H7=H6∧zs=zaj (((zbu kept b).take j).map (mv kept))) ⟨⟨none,rfl⟩,rfl,rfl⟩ (fun j zs σ H7 hj pv=>?_) (fun j zs σ H7 hj pv=>?_) (fun j x zs σ H7 hx pv=>?_) (fun zs σ H7 pv l7 ba=>?_)
  ·obtain⟨_,_,rfl⟩:=pv
   rw[List.length_map,List.length_map,List.length_take]
   exact small (by omega)
  ·rw[pv.2.1]
   exact SqL.of aJ
  ·obtain⟨⟨v,rfl⟩,rfl,rfl⟩:=pv
   rw[List.getElem?_map] at hx
   obtain⟨k,hk,rfl⟩:=Option.map_eq_some_iff.mp hx
   obtain⟨q1,q2⟩:=zbx (ai k (List.mem_of_getElem? hk)).2
   refine⟨_,rfl,.inl ⟨rfl,_,SqL.of ah⟩,_,rfl,lk,_,_,mv kept k,rfl,rfl,ah,rfl,za0 _,q1,q2,⟨_,rfl⟩,rfl,?_⟩
   rw[zev hk,zcz]
   rfl
  obtain⟨_,rfl,rfl⟩:=pv
  rw[aE,List.take_length]
  obtain⟨nk,aw⟩:∃nk,nk=(zbu kept b).map (mv kept):=⟨_,rfl⟩
  rw[←aw]
  rw[←aw] at tb
  have bz:nk.length≤9:=by rw[aw,List.length_map];omega
  have s7:=zag ba (.lst (zaj nk))
  have g7:L2.upd H7 l7 (.lst (zaj nk)) l7=some (.lst (zaj nk)):=zac
  generalize L2.upd H7 l7 (.lst (zaj nk))=H8 at s7 g7 ⊢
  refine⟨l7,_,rfl,.inl ⟨SqL.of g7,fun tk be=>?_⟩⟩
  have s8:=zag be (.tup (zaj nk))
  have g8:L2.upd H8 tk (.tup (zaj nk)) tk=some (.tup (zaj nk)):=zac
  generalize L2.upd H8 tk (.tup (zaj nk))=H9 at s8 g8 ⊢
  refine⟨small (by show 4≤1000;decide),fun tn aX=>?_⟩
  have s9:=zag aX (.tup [.int ((mv kept b.u:Nat):Int),.int lo,.int hi,.ref tk])
  have g9:L2.upd H9 tn (.tup [.int ((mv kept b.u:Nat):Int),.int lo,.int hi,.ref tk]) tn=some (.tup [.int ((mv kept b.u:Nat):Int),.int lo,.int hi,.ref tk]):=zac
  have aU:=s9 _ _ g8
  generalize L2.upd H9 tn (.tup [.int ((mv kept b.u:Nat):Int),.int lo,.int hi,.ref tk])=HA at s9 g9 aU ⊢
  have az:=(s7.trans s8).trans s9
  have ax:HA ld=some (.lst ys):=az _ _ aC
  have bd:=DnL.same az _ _ aV
  refine⟨ld,_,_,rfl,rfl,ax,zbo (by omega),?_⟩
  have fl:∀D:List Bg,(∀b∈D,b.ks.length≤1000)→((D.map Bg.tie).map Tie.toD).all (zbf 3)=true:=fun D hD=>by
   rw[List.all_map,List.all_map,List.all_eq_true]
   exact fun x hx=>zfs (u:=x.u) (lo:=x.lo) (hi:=x.hi) (hD x hx)
  refine⟨_,_,_,_,_,_,ys++[.ref tn],DL++[⟨mv kept b.u,lo,hi,nk⟩],rfl,Same.put (aO.trans az) aK ax,zac,?_,by rw[List.length_append,List.length_singleton];omega,?_,fun x hx=>?_⟩
  ·rw[List.map_append,List.map_append]
   refine(DnL.pen ax (fl DL dk) bd).append ⟨_,[],rfl,Dn.pen ax (zfs (show nk.length≤1000 by omega)) ⟨tn,_,rfl,g9,_,_,rfl,rfl,_,_,rfl,rfl,_,_,rfl,rfl,_,_,rfl,⟨tk,_,rfl,aU,zjj _⟩,rfl⟩,rfl⟩
  ·rw[et,List.filterMap_append,List.filterMap_cons_some (by rw[aM,if_neg e]),List.filterMap_nil,←aw]
   exact TightL.snoc tb tl
  ·rcases List.mem_append.mp hx with z|z
   ·exact dk x z
   ·rw[List.mem_singleton.mp z]
    show nk.length≤1000
    omega
 ·rintro σ H2 ⟨v4,v5,v6,v7,v8,v9,ys,DL,rfl,s2,g2,dy,yl,tl,dk⟩
  rw[lx,List.take_length] at tl
  refine⟨_,rfl,ld,_,rfl,.inl ⟨SqL.of g2,fun t ht=>?_⟩⟩
  have s3:=zag ht (.tup ys)
  exact qq t DL _ (s2.trans s3) tl ⟨ys,zac,DnL.same s3 _ _ dy⟩
theorem zmm(T:Txt K mg a d):FnOk P w K mg base CX0 1 a.f_law_moved d.f_law_moved ["_law_tie", "_law_kept"] ztc:=by
 refine T.K_law_moved.ok sc_law_moved (fun vs H Q E h=>?_) (fun cdv A outer s H vs Q E hr h=>?_)
 ·obtain⟨v,lk,t,kept,m,rfl,_⟩:=h
  rfl
 obtain⟨v,lk,t,kept,m,rfl,hd,ae,kl,ok,m9,nb,q⟩:=h
 refine⟨_,(zae (zaz (zar zqn (zap (ixT (K:=K)) (pv 0) zad (fun _ _=>rfl)) zbq (zav _)) (zae (zaz (PW.pt (zhk (zar (inS (K:=K)) (zap (ixT (K:=K)) (pv 0) zad (fun _ _=>rfl)) (pv 1) (by with_unfolding_all rfl)) (zfm (zar (inS (K:=K)) (zap (ixT (K:=K)) (pv 0) zad (fun _ _=>rfl)) (pv 1) (by with_unfolding_all rfl))))) (zah (zao (zb1 (zaa (zbc (zaa (zap (ixT (K:=K)) (pv 0) zad (fun _ _=>rfl)) (zaa (zb3 (K:=K) PySem.F.plainAttrs_list PySem.F.slot_list_index PySem.F.type_list_index zcu (pv 1) (zaa (zap (ixT (K:=K)) (pv 0) zad (fun _ _=>rfl)) zab)) (zaa (zb3 (K:=K) PySem.F.plainAttrs_list PySem.F.slot_list_index PySem.F.type_list_index zcu (pv 1) (zaa (zap (ixT (K:=K)) (pv 0) zad (fun _ _=>rfl)) zab)) zab)))) zab)))) zas)
   (zah (zao (zb1 zab)))) zas)
   (zae (zgm (i:=2) sc_law_moved.nd rfl rfl rfl (N':=["_law_k", "_law_number", "_law_kept"]) (n:=2) (kp:=[1]) rfl (piT (K:=K) (zap (ixT (K:=K)) (pv 0) zad (fun _ _=>rfl))) rfl rfl rfl (fun _ _ _ _ _=>(pgT (K:=K) (n:=2) rfl (za8 (zaw (i:=0) (of_decide_eq_true rfl) rfl (Or.inl rfl)) (za8 (zaw (i:=1) (of_decide_eq_true rfl) rfl (Or.inl rfl)) zdm)))) (fun _ _ _ _ _=>(zbz (zar (inS (K:=K)) (pv 0) (pv 2) (by with_unfolding_all rfl)))) (fun _ _ _ _ _=>(zbc (zaa (zb3 (K:=K) PySem.F.plainAttrs_list PySem.F.slot_list_index PySem.F.type_list_index zcu (pv 2) (zaa (pv 0) zab)) (zaa (pv 1) zab)))))
   (zae (zaz (zar zbp (zan (zb9 (K:=K)) rfl T.m_len PySem.boot_len (zaa (pv 2) zab)) zad (zav _)) (zah (zao (zb1 zab))) zas)
   (zah (zao (zb1 (zaa (zbc (zaa zbq (zaa (zap (ixT (K:=K)) (pv 0) zad (fun _ _=>rfl)) (zaa (za4 za5 rfl T.m_tuple PyProof.Rows.boot_tuple (zaa (pv 2) zab)) zab)))) zab))))))),?_⟩
 cases t with
 |bough u lo hi ks=>exact absurd rfl (nb u lo hi ks)
 |most top ps=>
  obtain⟨p,pk,zs,rfl,hp,am,dz⟩:=znk hd
  have lz:=dz.length
  rw[List.length_map] at lz
  have pl:=ok.2.2.2
  refine⟨_,rfl,p,_,_,_,rfl,rfl,sqT hp,at0,rfl,_,rfl,?_⟩
  refine zkp rfl ?_
  refine⟨_,rfl,p,_,_,_,rfl,rfl,sqT hp,at2,pk,rfl,⟨_,sqT am⟩,?_⟩
  refine zey (K:=K) (a:=pk) (xs:=zs) (fun j rs σ H3=>(∃v v',σ=[v,v',some (.ref lk)])∧Same H H3∧DnL H3 ((((ps.take j).filter fun p=>decide (p.1∈kept)).map fun p=>(mv kept p.1,p.2)).map zfv) rs∧rs.length≤j) ⟨⟨none,none,rfl⟩,Same.refl _,rfl,Nat.le_refl _⟩ (fun j rs σ H3 hj pv=>?_) (fun j rs σ H3 hj pv=>?_) (fun j x rs σ H3 hx pv=>?_) (fun rs σ H3 pv l1 aq=>?_)
  ·exact small (by have:=pv.2.2.2;omega)
  ·exact sqT (pv.2.1 _ _ am)
  ·obtain⟨⟨v,v',rfl⟩,s3,dr,rl⟩:=pv
   obtain⟨pp,r,ar,rfl,au⟩:=zjm (DnL.same s3 _ _ dz) hx
   have ek:(ps.take (j+1)).filter (fun p=>decide (p.1∈kept))=(ps.take j).filter (fun p=>decide (p.1∈kept))++(if pp.1∈kept then [pp] else []):=by
    rw[List.take_add_one,ar,Option.toList_some,List.filter_append]
    by_cases z:pp.1∈kept<;>simp[z]
   have ah:H3 lk=some (.lst (zaj kept)):=s3 _ _ ae
   refine⟨r,_,rfl,sqT au,rfl,_,_,rfl,_,_,rfl,rfl,?_⟩
   refine⟨_,rfl,_,rfl,lk,_,rfl,.inl (SqL.of ah),rfl,za0 _,_,rfl,?_⟩
   by_cases c:pp.1∈kept
   ·refine zf0 (show inV (.int (pp.1:Int)) (zaj kept)=true by rw[za7,decide_eq_true c]) ?_
    obtain⟨r1,r2⟩:=zbx c
    refine⟨_,rfl,.inl ⟨rfl,_,SqL.of ah⟩,_,rfl,lk,_,_,mv kept pp.1,rfl,rfl,ah,rfl,za0 _,r1,r2,_,rfl,small (by show 2≤1000;decide),fun tn ag=>?_⟩
    have s4:=zag ag (.tup [.int ((mv kept pp.1:Nat):Int),.int pp.2])
    refine⟨⟨_,_,rfl⟩,s3.trans s4,?_,by rw[List.length_append,List.length_singleton];omega⟩
    rw[ek,if_pos c,List.map_append,List.map_append]
    exact(DnL.same s4 _ _ dr).append ⟨_,[],rfl,⟨tn,_,rfl,zac,_,_,rfl,rfl,_,_,rfl,rfl,rfl⟩,rfl⟩
   ·refine zdc (show inV (.int (pp.1:Int)) (zaj kept)=false by rw[za7,decide_eq_false c]) ?_
    refine⟨⟨_,_,rfl⟩,s3,?_,by omega⟩
    rw[ek,if_neg c,List.append_nil]
    exact dr
  obtain⟨_,s3,dr,rl⟩:=pv
  rw[←lz,List.take_length] at dr
  have lr:=dr.length
  rw[List.length_map,List.length_map] at lr
  have aj:=zag aq (.lst rs)
  have s4:=s3.trans aj
  have g4:L2.upd H3 l1 (.lst rs) l1=some (.lst rs):=zac
  have ap:=DnL.same aj _ _ dr
  generalize L2.upd H3 l1 (.lst rs)=H4 at s4 g4 ap aj ⊢
  refine⟨_,rfl,l1,_,rfl,.inl (SqL.of g4),rfl,_,rfl,?_⟩
  by_cases e:ps.filter (fun p=>decide (p.1∈kept))=[]
  ·refine zfz (show V.int ((rs.length:Nat):Int)=V.int 0 by rw[←lr,e];rfl) ?_
   refine⟨small (by show 0≤1000;decide),fun l hl=>?_⟩
   have s5:=zag hl (.lst [])
   refine q l [] _ (s4.trans s5) zac ?_
   simp only[mvT]
   rw[if_pos e]
   rfl
  ·have lp:=List.length_pos_iff.mpr e
   refine zb5 (fun z=>?_) ?_
   ·have z':V.int ((rs.length:Nat):Int)=V.int 0:=z
    injection z' with z'
    omega
   refine⟨_,rfl,p,_,_,_,rfl,rfl,sqT (s4 _ _ hp),at1,_,rfl,l1,_,rfl,.inl ⟨SqL.of g4,fun tk av=>?_⟩⟩
   have ai:=zag av (.tup rs)
   have g5:L2.upd H4 tk (.tup rs) tk=some (.tup rs):=zac
   have al:=DnL.same ai _ _ ap
   generalize L2.upd H4 tk (.tup rs)=H5 at g5 al ai ⊢
   refine⟨small (by show 3≤1000;decide),fun tn ag=>?_⟩
   have af:=zag ag (.tup [.str ("most" : Str),.int top,.ref tk])
   have g6:L2.upd H5 tn (.tup [.str ("most" : Str),.int top,.ref tk]) tn=some (.tup [.str ("most" : Str),.int top,.ref tk]):=zac
   have ao:=af _ _ g5
   have ak:=DnL.same af _ _ al
   generalize L2.upd H5 tn (.tup [.str ("most" : Str),.int top,.ref tk])=H6 at g6 ao ak af ⊢
   refine⟨small (by show 1≤1000;decide),fun l hl=>?_⟩
   have s7:=zag hl (.lst [.ref tn])
   refine q l [.ref tn] _ (((s4.trans ai).trans af).trans s7) zac ?_
   simp only[mvT]
   rw[if_neg e]
   exact⟨_,[],rfl,⟨tn,_,rfl,s7 _ _ g6,_,_,rfl,rfl,_,_,rfl,rfl,_,_,rfl,⟨tk,_,rfl,s7 _ _ ao,DnL.same s7 _ _ ak⟩,rfl⟩,rfl⟩
 |needs aa bb=>
  obtain⟨p,rfl,hp⟩:=zmi hd
  refine⟨_,rfl,p,_,_,_,rfl,rfl,sqT hp,at0,rfl,_,rfl,?_⟩
  refine zu6 (by decide +kernel) ?_
  refine⟨_,rfl,p,_,_,_,rfl,rfl,sqT hp,at1,_,rfl,lk,_,rfl,.inl (SqL.of ae),rfl,za0 _,_,rfl,?_⟩
  have ad:mvT kept (.needs aa bb)=none→∀l,H l=none→Q (.ref l) (L2.upd H l (.lst [])):=fun e l hl=>by
   refine q l [] _ (zag hl (.lst [])) zac ?_
   rw[e]
   rfl
  by_cases ca:aa∈kept
  ·refine zf0 (show inV (.int (aa:Int)) (zaj kept)=true by rw[za7,decide_eq_true ca]) ?_
   refine⟨_,rfl,p,_,_,_,rfl,rfl,sqT hp,at2,_,rfl,lk,_,rfl,.inl (SqL.of ae),rfl,za0 _,_,rfl,?_⟩
   by_cases cb:bb∈kept
   ·refine zf0 (show inV (.int (bb:Int)) (zaj kept)=true by rw[za7,decide_eq_true cb]) ?_
    obtain⟨r1,r2⟩:=zbx ca
    obtain⟨r3,r4⟩:=zbx cb
    refine⟨_,rfl,p,_,_,_,rfl,rfl,sqT hp,at0,_,rfl,.inl ⟨rfl,_,SqL.of ae⟩,_,rfl,p,_,_,_,rfl,rfl,sqT hp,at1,lk,_,_,mv kept aa,rfl,rfl,ae,rfl,za0 _,r1,r2,_,rfl,.inl ⟨rfl,_,SqL.of ae⟩,_,rfl,p,_,_,_,rfl,rfl,sqT hp,at2,lk,_,_,mv kept bb,rfl,rfl,ae,rfl,za0 _,r3,r4,small (by show 3≤1000;decide),fun tn ag=>?_⟩
    have af:=zag ag (.tup [.str ("needs" : Str),.int ((mv kept aa:Nat):Int),.int ((mv kept bb:Nat):Int)])
    have g6:L2.upd H tn (.tup [.str ("needs" : Str),.int ((mv kept aa:Nat):Int),.int ((mv kept bb:Nat):Int)]) tn=some (.tup [.str ("needs" : Str),.int ((mv kept aa:Nat):Int),.int ((mv kept bb:Nat):Int)]):=zac
    generalize L2.upd H tn (.tup [.str ("needs" : Str),.int ((mv kept aa:Nat):Int),.int ((mv kept bb:Nat):Int)])=H6 at g6 af ⊢
    refine⟨small (by show 1≤1000;decide),fun l hl=>?_⟩
    have s7:=zag hl (.lst [.ref tn])
    refine q l [.ref tn] _ (af.trans s7) zac ?_
    simp only[mvT]
    rw[if_pos ⟨ca,cb⟩]
    exact⟨_,[],rfl,⟨tn,_,rfl,s7 _ _ g6,_,_,rfl,rfl,_,_,rfl,rfl,_,_,rfl,rfl,rfl⟩,rfl⟩
   ·refine zdc (show inV (.int (bb:Int)) (zaj kept)=false by rw[za7,decide_eq_false cb]) ?_
    refine⟨small (by show 0≤1000;decide),fun l hl=>?_⟩
    exact ad (by simp only[mvT];rw[if_neg fun z=>cb z.2]) l hl
  ·refine zdc (show inV (.int (aa:Int)) (zaj kept)=false by rw[za7,decide_eq_false ca]) ?_
   refine zc5 ?_
   refine⟨small (by show 0≤1000;decide),fun l hl=>?_⟩
   exact ad (by simp only[mvT];rw[if_neg fun z=>ca z.1]) l hl
 |bans aa bb=>
  obtain⟨p,rfl,hp⟩:=zmi hd
  refine⟨_,rfl,p,_,_,_,rfl,rfl,sqT hp,at0,rfl,_,rfl,?_⟩
  refine zu6 (by decide +kernel) ?_
  refine⟨_,rfl,p,_,_,_,rfl,rfl,sqT hp,at1,_,rfl,lk,_,rfl,.inl (SqL.of ae),rfl,za0 _,_,rfl,?_⟩
  have ad:mvT kept (.bans aa bb)=none→∀l,H l=none→Q (.ref l) (L2.upd H l (.lst [])):=fun e l hl=>by
   refine q l [] _ (zag hl (.lst [])) zac ?_
   rw[e]
   rfl
  by_cases ca:aa∈kept
  ·refine zf0 (show inV (.int (aa:Int)) (zaj kept)=true by rw[za7,decide_eq_true ca]) ?_
   refine⟨_,rfl,p,_,_,_,rfl,rfl,sqT hp,at2,_,rfl,lk,_,rfl,.inl (SqL.of ae),rfl,za0 _,_,rfl,?_⟩
   by_cases cb:bb∈kept
   ·refine zf0 (show inV (.int (bb:Int)) (zaj kept)=true by rw[za7,decide_eq_true cb]) ?_
    obtain⟨r1,r2⟩:=zbx ca
    obtain⟨r3,r4⟩:=zbx cb
    refine⟨_,rfl,p,_,_,_,rfl,rfl,sqT hp,at0,_,rfl,.inl ⟨rfl,_,SqL.of ae⟩,_,rfl,p,_,_,_,rfl,rfl,sqT hp,at1,lk,_,_,mv kept aa,rfl,rfl,ae,rfl,za0 _,r1,r2,_,rfl,.inl ⟨rfl,_,SqL.of ae⟩,_,rfl,p,_,_,_,rfl,rfl,sqT hp,at2,lk,_,_,mv kept bb,rfl,rfl,ae,rfl,za0 _,r3,r4,small (by show 3≤1000;decide),fun tn ag=>?_⟩
    have af:=zag ag (.tup [.str ("bans" : Str),.int ((mv kept aa:Nat):Int),.int ((mv kept bb:Nat):Int)])
    have g6:L2.upd H tn (.tup [.str ("bans" : Str),.int ((mv kept aa:Nat):Int),.int ((mv kept bb:Nat):Int)]) tn=some (.tup [.str ("bans" : Str),.int ((mv kept aa:Nat):Int),.int ((mv kept bb:Nat):Int)]):=zac
    generalize L2.upd H tn (.tup [.str ("bans" : Str),.int ((mv kept aa:Nat):Int),.int ((mv kept bb:Nat):Int)])=H6 at g6 af ⊢
    refine⟨small (by show 1≤1000;decide),fun l hl=>?_⟩
    have s7:=zag hl (.lst [.ref tn])
    refine q l [.ref tn] _ (af.trans s7) zac ?_
    simp only[mvT]
    rw[if_pos ⟨ca,cb⟩]
    exact⟨_,[],rfl,⟨tn,_,rfl,s7 _ _ g6,_,_,rfl,rfl,_,_,rfl,rfl,_,_,rfl,rfl,rfl⟩,rfl⟩
   ·refine zdc (show inV (.int (bb:Int)) (zaj kept)=false by rw[za7,decide_eq_false cb]) ?_
    refine⟨small (by show 0≤1000;decide),fun l hl=>?_⟩
    exact ad (by simp only[mvT];rw[if_neg fun z=>cb z.2]) l hl
  ·refine zdc (show inV (.int (aa:Int)) (zaj kept)=false by rw[za7,decide_eq_false ca]) ?_
   refine zc5 ?_
   refine⟨small (by show 0≤1000;decide),fun l hl=>?_⟩
   exact ad (by simp only[mvT];rw[if_neg fun z=>ca z.1]) l hl
theorem zi6(T:Txt K mg a d):FnOk P w K mg base CX0 1 a.f_law_in_order d.f_law_in_order ["_law_some", "_law_others"] zrt:=by
 refine T.K_law_in_order.ok sc_law_in_order (fun vs H Q E h=>?_) (fun cdv A outer s H vs Q E hr h=>?_)
 ·obtain⟨la,lo,m,A,B,xs,ys,rfl,_⟩:=h
  rfl
 obtain⟨la,lo,m,A,B,xs,ys,rfl,ad,ai,dA,dB,sub,ok,m9,q⟩:=h
 have lA:=dA.length
 have lB:=dB.length
 rw[List.length_map] at lA lB
 refine⟨_,(zae (zax (i:=2) sc_law_in_order.nd rfl (Or.inl rfl) zad)
   (zae (zde PassesOwn.never rfl (piL (K:=K) (pv 1)) (zaw (i:=3) sc_law_in_order.nd rfl (Or.inl rfl)) (zah (zaz (PW.pt (zhk (zar zo5 (pv 2) (zan (zb9 (K:=K)) rfl T.m_len PySem.boot_len (zaa (pv 0) zab)) (zav _)) (zfm (zar (zpk hr.units) (zap (ixL (K:=K)) (pv 0) (pv 2) (fun _ _=>rfl)) (pv 3) (zav _))))) (zah (zax (i:=2) sc_law_in_order.nd rfl (Or.inl rfl) (za6 zca (pv 2) zad))) zas)))
   (zah (zao (zb2 zbp (pv 2) (zan (zb9 (K:=K)) rfl T.m_len PySem.boot_len (zaa (pv 0) zab)) (zav _)))))),?_⟩
 refine⟨_,rfl,lo,rfl,⟨_,SqL.of ai⟩,?_⟩
 refine zh4 (K:=K) (a:=lo) (xs:=ys) (fun i σ H2=>H2=H∧∃(j:Nat)(v3:Option V),σ=[some (.ref la),some (.ref lo),some (.int (j:Int)),v3]∧j≤A.length∧(A.drop j).Sublist (B.drop i)) ⟨rfl,0,none,rfl,Nat.zero_le _,sub⟩ (fun i σ H2 _ z=>by rw[z.1];exact SqL.of ai) ?_ ?_
 ·rintro i x σ H2 hx ⟨rfl,j,v3,rfl,hj,sb⟩
  obtain⟨dt,hd,dx⟩:=DnL.get dB hx
  rw[List.getElem?_map] at hd
  obtain⟨t,ht,rfl⟩:=Option.map_eq_some_iff.mp hd
  obtain⟨iB,eB⟩:=List.getElem?_eq_some_iff.mp ht
  have aj:=ok t (List.mem_of_getElem? ht)
  have ak:B.drop i=t::B.drop (i+1):=by rw[←eB,List.getElem_cons_drop]
  rw[ak] at sb
  refine⟨_,rfl,_,rfl,la,_,rfl,.inl (SqL.of ad),_,_,rfl,rfl,_,rfl,?_⟩
  by_cases c:j<A.length
  ·refine zu6 (decide_eq_true (by omega)) ?_
   obtain⟨yv,hy⟩:∃yv,xs[j]?=some yv:=⟨_,List.getElem?_eq_getElem (by omega)⟩
   obtain⟨da,ag,dy⟩:=DnL.get dA hy
   rw[List.getElem?_map] at ag
   obtain⟨ta,ae,rfl⟩:=Option.map_eq_some_iff.mp ag
   obtain⟨iA,eA⟩:=List.getElem?_eq_some_iff.mp ae
   have af:A.drop j=ta::A.drop (j+1):=by rw[←eA,List.getElem_cons_drop]
   rw[af] at sb
   have ah:=ok ta (sub.subset (List.mem_of_getElem? ae))
   refine⟨_,rfl,_,rfl,la,_,_,_,rfl,rfl,SqL.of ad,zc8 hy,_,rfl,ta.toD,t.toD,dy,dx,zho ah (by omega),zho aj (by omega),_,rfl,?_⟩
   refine zbn (fun e=>?_) (fun e=>?_)
   ·refine⟨_,rfl,_,_,rfl,rfl,rfl,j+1,some x,rfl,by omega,?_⟩
    cases sb with
    |cons _ s=>exact(List.sublist_cons_self _ _).trans s
    |cons_cons _ s=>exact s
   ·refine⟨rfl,j,some x,rfl,hj,?_⟩
    rw[af]
    cases sb with
    |cons _ s=>exact s
    |cons_cons _ s=>exact absurd (zic _ (SeqAt.canLay_of_shaped (zho ah (by omega)))) e
  ·refine zn5 (decide_eq_false (by omega)) ?_
   refine zc5 ?_
   refine⟨rfl,j,some x,rfl,hj,?_⟩
   rw[List.drop_eq_nil_of_le (by omega)]
   exact List.nil_sublist _
 ·rintro σ H2 ⟨rfl,j,v3,rfl,hj,sb⟩
  rw[←lB,List.drop_length] at sb
  have:A.drop j=[]:=List.sublist_nil.mp sb
  have:=List.drop_eq_nil_iff.mp this
  refine⟨_,rfl,_,rfl,la,_,rfl,.inl (SqL.of ad),rfl,?_⟩
  rw[decide_eq_true (show V.int (j:Int)=V.int (xs.length:Int) by rw[show j=xs.length by omega])]
  exact q
theorem zxy(T:Txt K mg a d)(LBc:zhn mg base a.c_cases_of a.t_cases_of):FnOk P w K mg base CX0 29 a.f_law d.f_law ["_law_script"] (spT a.t_cases_of (zqv K)):=by
 have al:=znu (P:=P) (w:=w) (base:=base) T
 have ag:=zk7 (P:=P) (w:=w) (base:=base) T
 have au:=zh2 (P:=P) (w:=w) (base:=base) T LBc
 have ai:=zrj (P:=P) (w:=w) (base:=base) T LBc
 have af:=zjp (P:=P) (w:=w) (base:=base) T LBc
 have am:=zka (P:=P) (w:=w) (base:=base) T
 have ad:=zh9 (P:=P) (w:=w) (base:=base) T
 have aj:=zmm (P:=P) (w:=w) (base:=base) T
 have ae:=zi6 (P:=P) (w:=w) (base:=base) T
 have ao:=zp4 (P:=P) (w:=w) (base:=base) T
 refine T.K_law.ok sc_law (fun vs H Q E h=>?_) (fun cdv A outer s H vs Q E hr h=>?_)
 ·obtain⟨_,p,ns,rfl,_⟩:=h
  rfl
 obtain⟨ta,sp,ns,rfl,hS,hl,q⟩:=h
 have bJ:(2:Int)^62=4611686018427387904:=by decide
 obtain⟨cE,cq,cN⟩:=zt6 (X:=(zdw CX0 P w K mg base ["_law_script", "_law_state", "_law_wood_here", "_law_some", "_law_found", "_law_kept", "_law_many", "_law_boughs_here", "_law_cross_here", "_law_others", "_law_tie"] "law" (zai zhy) a.f_law cdv A outer s H E).nox) (st:=(zbe zhy).drop 9) (zae (zts (zap (ixT (K:=K)) (pv 4) zad (fun _ _=>rfl)) (pgT (K:=K) (n:=3) rfl (za8 (zaw (i:=6) sc_law.nd rfl (Or.inl rfl)) (za8 (zaw (i:=7) sc_law.nd rfl (Or.inl rfl)) (za8 (zaw (i:=8) sc_law.nd rfl (Or.inl rfl)) zdm)))))
   (zae (zaz (PW.pt (zfu (zar zqn (pv 6) (zan (zb9 (K:=K)) rfl T.m_len PySem.boot_len (zaa (pv 5) zab)) (zav _)) (ze1 (zar (zjw hr.units) (pv 7) (zaf ad hr.lv rfl T.K_law_boughs_due (zaa (pv 2) (zaa (pv 5) (zaa (pv 3) zab)))) (zav _))))) (zah (zao zd9)) zas)
   (zae (zax (i:=9) sc_law.nd rfl (Or.inl rfl) (zb1 zab))
   (zae (zde PassesOwn.never rfl (piT (K:=K) (zap (ixT (K:=K)) (pv 2) zad (fun _ _=>rfl))) (zaw (i:=10) sc_law.nd rfl (Or.inl rfl)) (zah (zax (i:=9) sc_law.nd rfl (Or.inl rfl) (za6 zty (pv 9) (zaf aj hr.lv rfl T.K_law_moved (zaa (pv 10) (zaa (pv 5) zab)))))))
   (zae (zaz (PW.pt (zfu (zbt (za9 (zaf ae hr.lv rfl T.K_law_in_order (zaa (za4 zfn rfl T.m_list PyProof.Rows.boot_list (zaa (pv 8) zab)) (zaa (pv 9) zab))))) (ze1 (zar (zjw hr.units) (zaf ao hr.lv rfl T.K_wood_of (zaa (pv 6) (zaa (za4 zfn rfl T.m_list PyProof.Rows.boot_list (zaa (pv 7) zab)) (zaa (za4 zfn rfl T.m_list PyProof.Rows.boot_list (zaa (pv 8) zab)) zab)))) (zap (ixT (K:=K)) (pv 4) zad (fun _ _=>rfl)) (zav _))))) (zah (zao zd9)) zas)
   (zae (zck (zb3 (K:=K) PySem.F.plainAttrs_list PySem.F.slot_list_append PySem.F.type_list_append zc1 (zap (ixT (K:=K)) (pv 4) zad (fun _ _=>rfl)) (zaa zad zab)))
   (zah (zao (zb2 (zk2 hr.units) (zap (ixT (K:=K)) (zaf ai hr.lv rfl T.K_folded (zaa (pv 2) zab)) zad (fun _ _=>rfl)) (pv 5) (zav _))))))))))
 have tail:∀(pen wd tb tc ls f ah:Addr)(m:Nat)(L aB:List Bg)(C:List Tie)(H4 H5 H6:Hp),zdt H4 a.t_cases_of→WoodP H4 wd tb tc m L C→H4 ls=some (.lst (zaj (za1 m (zal L C))))→(∃s,s<2^m∧zbs (zal L C) s=true)→zh7 m ((L.map Bg.tie).map Tie.toD)→L.length≤9→C.length≤8→Same H4 H5→zsg H4 H5 f m L C aB→Same H5 H6→H5 ah=none→H6 ah=some (.lst (zaj (zak m (zal L C)))) →
   cE { nx:=fun _ H'=>Q .non H',rt:=Q } [some (.ref sp),some (.ref pen),some (.ref wd),some (.ref ls),some (.ref f),some (.ref ah),none,none,none,none,none] H6:=by
  intro pen wd tb tc ls f ah m L aB C H4 H5 H6 aM W bi ak G L9 C8 s5 F s6 bQ aL
  refine cN _ _ _ ?_
  have m1:=W.m1
  have m9:=W.m9
  have tl:=F.tight
  have be:=zgu m (zal L C)
  have kpos:=zj8 ak
  have pw:=zgo m (zal L C)
  obtain⟨w2,lk,lt,ln,aD,aG,xt,hf,bg,bL,bN,aK,bE,dt,bK,bz,bZ,cJ,_⟩:=F.ex
  have cG:∀b∈fL1 m L C,Tie.BoughOkW (zak m (zal L C)).length b.u b.lo b.hi b.ks:=fun b' bR=>by
   obtain⟨b,hb,e⟩:=List.mem_filterMap.mp bR
   exact zmb pw (W.okb b hb) (zeg (List.mem_append.mpr (.inl (List.mem_map.mpr ⟨b,hb,rfl⟩)))) e
  have aF:∀t∈fC1 m L C,t.Ok (zak m (zal L C)).length:=fun t ht=>by
   obtain⟨c,hc,e⟩:=List.mem_filterMap.mp ht
   exact zm7 pw (W.okc c hc) (W.nb c hc) e
  have bd:∀t∈fC1 m L C,∀u lo hi ks,t≠.bough u lo hi ks:=fun t ht u lo hi ks=>by
   obtain⟨c,hc,e⟩:=List.mem_filterMap.mp ht
   exact zxw (W.nb c hc) e
  have bo:=tl.ok cG
  have aP:(fC1 m L C).length≤8:=Nat.le_trans (List.length_filterMap_le _ _) C8
  have bq:(fL1 m L C).length≤9:=Nat.le_trans (List.length_filterMap_le _ _) L9
  have ap:(fC2 m L C aB).Sublist (fC1 m L C):=needless_sub
  have aw:∀t∈fC2 m L C aB,t.Ok (zak m (zal L C)).length:=fun t ht=>aF t (ap.subset ht)
  have bp:=s5.trans s6
  have bY:=s6 _ _ hf
  have bT:=s6 _ _ bg
  refine⟨_,rfl,f,_,_,_,rfl,rfl,sqT bY,at0,w2,_,rfl,sqT bT,rfl,_,_,rfl,_,_,rfl,_,_,rfl,rfl,?_⟩
  refine⟨_,rfl,_,rfl,ah,_,rfl,.inl (SqL.of aL),rfl,_,rfl,?_⟩
  refine zkp (by rw[List.length_map]) ?_
  refine⟨_,rfl,_,rfl,_,rfl,_,rfl,wd,tb,tc,ah,ls,m,L,C,rfl,W.same bp,aL,bp _ _ bi,ak,fun t DL H7 s7 tD hD=>?_⟩
  have eD:=TightL.unique tD tl
  subst eD
  obtain⟨xb,aV,bj⟩:=bL.same (s6.trans s7)
  obtain⟨xd,cF,cI⟩:=hD
  have aR:SeqAt.shaped (.tuple ((DL.map Bg.tie).map Tie.toD))=true:=by
   refine zj6 (n:=3) (by decide) (zd1 (m:=(zak m (zal L C)).length) (fun t ht=>?_) (by omega))
   obtain⟨b,hb,rfl⟩:=List.mem_map.mp ht
   exact bo b hb
  refine⟨.tuple ((DL.map Bg.tie).map Tie.toD),.tuple ((DL.map Bg.tie).map Tie.toD),⟨aD,_,rfl,aV,bj⟩,⟨t,_,rfl,cF,cI⟩,aR,aR,_,rfl,?_⟩
  refine zn5 (by rw[zic _ (SeqAt.canLay_of_shaped aR)];rfl) ?_
  have cL:=bp.trans s7
  have av:=s6.trans s7
  have W7:=W.same cL
  obtain⟨xc,bu,bO⟩:=W7.cs
  have lc:xc.length=C.length:=by rw[←bO.length,List.length_map]
  refine⟨small (by show 0≤1000;decide),fun l0 cz=>?_⟩
  have aO:=zag cz (.lst [])
  have g8:L2.upd H7 l0 (.lst []) l0=some (.lst []):=zac
  generalize L2.upd H7 l0 (.lst [])=H8 at aO g8 ⊢
  refine⟨_,rfl,wd,_,_,_,rfl,rfl,sqT (W7.same aO).at_,at2,tc,rfl,⟨_,sqT (aO _ _ bu)⟩,?_⟩
  refine zgx (K:=K) (a:=tc) (xs:=xc) (fun i σ H9=>∃(l:Addr)(zs:List V)(v6:Option V),σ=[some (.ref sp),some (.ref pen),some (.ref wd),some (.ref ls),some (.ref f),some (.ref ah),some (.int ((zak m (zal L C)).length:Int)),some (.ref aD),some (.ref aG),some (.ref l),v6]∧Same H7 H9∧H9 l=some (.lst zs)∧DnL H9 (((C.take i).filterMap (mvT (zak m (zal L C)))).map Tie.toD) zs∧zs.length≤i) ⟨l0,[],none,rfl,aO,g8,rfl,Nat.le_refl _⟩ (fun i σ H9 _ z=>?_) ?_ ?_
  ·obtain⟨_,_,_,_,s9,_⟩:=z
   exact sqT (s9 _ _ bu)
  ·rintro i x σ H9 hx ⟨l,zs,v6,rfl,s9,g9,dz,zl⟩
   obtain⟨c,hc,dc⟩:=zm9 (DnL.same s9 _ _ bO) hx
   have bv:=List.mem_of_getElem? hc
   have il:=(List.getElem?_eq_some_iff.mp hc).1
   refine⟨_,rfl,_,rfl,_,rfl,x,ah,c,zak m (zal L C),m,rfl,dc,(s7.trans s9) _ _ aL,by omega,W.okc c bv,m9,W.nb c bv,fun lm xs HA sA cM dm=>?_⟩
   have c7:xs.length≤1:=by
    rw[←dm.length,List.length_map]
    cases mvT (zak m (zal L C)) c<;>simp
   refine⟨l,lm,_,_,rfl,rfl,sA _ _ g9,cM,small (by omega),fun cj bh=>?_⟩
   have bf:=zag bh (.lst (zs++xs))
   refine⟨cj,zs++xs,_,rfl,s9.trans (sA.trans bf),zac,?_,by rw[List.length_append];omega⟩
   have ee:(C.take (i+1)).filterMap (mvT (zak m (zal L C)))=(C.take i).filterMap (mvT (zak m (zal L C)))++(mvT (zak m (zal L C)) c).toList:=by
    rw[List.take_add_one,hc,Option.toList_some,List.filterMap_append]
    congr 1
    all_goals (cases mvT (zak m (zal L C)) c<;>rfl)
   rw[ee,List.map_append]
   exact(DnL.same (sA.trans bf) _ _ dz).append (DnL.same bf _ _ dm)
  rintro σ H9 ⟨l,zs,v6,rfl,s9,g9,dz,zl⟩
  rw[lc,List.take_length] at dz
  have cA:DnL H9 ((fC1 m L C).map Tie.toD) zs:=dz
  have bS:=av.trans s9
  obtain⟨aq,aA,az⟩:=bN.same bS
  refine⟨_,rfl,aG,_,rfl,.inr (sqT aA),fun la aW=>?_⟩
  have sA:=zag aW (.lst aq)
  have gA:L2.upd H9 la (.lst aq) la=some (.lst aq):=zac
  generalize L2.upd H9 la (.lst aq)=HA at sA gA ⊢
  refine⟨_,rfl,la,l,(zak m (zal L C)).length,fC2 m L C DL,fC1 m L C,aq,zs,rfl,gA,sA _ _ g9,DnL.same sA _ _ az,DnL.same sA _ _ cA,ap,aF,by omega,?_⟩
  refine⟨_,rfl,?_⟩
  refine zc5 ?_
  have bB:=s9.trans sA
  have aQ:=bB _ _ aV
  have ba:=sA _ _ aA
  refine⟨_,rfl,_,rfl,aD,_,rfl,.inr (sqT aQ),fun lb cp=>?_⟩
  have sB:=zag cp (.lst xb)
  have gB:L2.upd HA lb (.lst xb) lb=some (.lst xb):=zac
  generalize L2.upd HA lb (.lst xb)=HB at sB gB ⊢
  refine⟨_,rfl,aG,_,rfl,.inr (sqT (sB _ _ ba)),fun ay aY=>?_⟩
  have sC:=zag aY (.lst aq)
  have gC:L2.upd HB ay (.lst aq) ay=some (.lst aq):=zac
  have bI:=sC _ _ gB
  generalize L2.upd HB ay (.lst aq)=HC at sC gC bI ⊢
  have bw:=sB.trans sC
  have aZ:=bB.trans bw
  have bt:=sA.trans bw
  have bA:=DnL.same aZ _ _ bj
  have bG:=DnL.same bt _ _ az
  have tok:zp0 ((zak m (zal L C)).length:Int) ((fC2 m L C DL).map Tie.toD):=fun c hc=>by
   obtain⟨t,ht,rfl⟩:=List.mem_map.mp hc
   have nb:=bd t (ap.subset ht)
   exact⟨zso (aw t ht) nb,zua (aw t ht) (by omega) nb⟩
  refine⟨((zak m (zal L C)).length:Int),lb,ay,xb,aq,(DL.map Bg.tie).map Tie.toD,(fC2 m L C DL).map Tie.toD,rfl,bI,gC,bA,bG,zo2 m1 W.nb ak G tl bo,by omega,by omega,by rw[List.length_map,List.length_map,tl.length];exact bq,tok,by rw[List.length_map];exact Nat.le_trans ap.length_le aP,fun wn cg bU HD sD cO cD cy=>?_⟩
  have aN:=(av.trans aZ).trans sD
  have bH:=aN _ _ hf
  have cB:=aN _ _ bg
  have aU:=aZ.trans sD
  have aT:SeqAt.shaped (.tuple [.int ((zak m (zal L C)).length:Int),.tuple ((DL.map Bg.tie).map Tie.toD),.tuple ((fC2 m L C DL).map Tie.toD)])=true:=by
   have f1:zbf 4 (.tuple ((DL.map Bg.tie).map Tie.toD))=true:=by
    show(decide (_≤1000)&&_)=true
    rw[decide_eq_true (by rw[List.length_map,List.length_map,tl.length];omega),Bool.true_and]
    refine zd1 (m:=(zak m (zal L C)).length) (fun t ht=>?_) (by omega)
    obtain⟨b,hb,rfl⟩:=List.mem_map.mp ht
    exact bo b hb
   have f2:zbf 4 (.tuple ((fC2 m L C DL).map Tie.toD))=true:=by
    show(decide (_≤1000)&&_)=true
    rw[decide_eq_true (by rw[List.length_map];have:=ap.length_le;omega),Bool.true_and]
    exact zd1 aw (by omega)
   refine zj6 (n:=4) (by decide) ?_
   rw[List.all_cons,List.all_cons,List.all_cons,f1,f2]
   rfl
  refine⟨_,rfl,f,_,_,_,rfl,rfl,sqT bH,at0,.tuple [.int ((zak m (zal L C)).length:Int),.tuple ((DL.map Bg.tie).map Tie.toD),.tuple ((fC2 m L C DL).map Tie.toD)],.tuple [.int ((zak m (zal L C)).length:Int),.tuple ((DL.map Bg.tie).map Tie.toD),.tuple ((fC2 m L C DL).map Tie.toD)],⟨wn,_,rfl,cO,_,_,rfl,rfl,_,_,rfl,⟨cg,_,rfl,cD,DnL.same sD _ _ bA⟩,_,_,rfl,⟨bU,_,rfl,cy,DnL.same sD _ _ bG⟩,rfl⟩,⟨w2,_,rfl,cB,_,_,rfl,rfl,_,_,rfl,⟨aD,_,rfl,aU _ _ aV,DnL.same aU _ _ bj⟩,_,_,rfl,⟨aG,_,rfl,(bt.trans sD) _ _ aA,DnL.same (bt.trans sD) _ _ az⟩,rfl⟩,aT,aT,_,rfl,?_⟩
  refine zn5 (by rw[zic _ (SeqAt.canLay_of_shaped aT)];rfl) ?_
  have ax:HD lk=some (.lst (zaj (zak m (zal L C)))):=aN _ _ aK
  have cn:=s5.trans aN
  refine⟨_,rfl,f,_,_,_,rfl,rfl,sqT bH,at1,.inl ⟨rfl,_,SqL.of ax⟩,lk,_,_,rfl,rfl,ax,zbo (by rw[List.length_map];omega),?_⟩
  have sE:Same H4 (L2.upd HD lk (.lst (zaj (zak m (zal L C))++[.int 99]))):=Same.put cn bz ax
  have bM:L2.upd HD lk (.lst (zaj (zak m (zal L C))++[.int 99])) ah=some (.lst (zaj (zak m (zal L C)))):=by
   have ne:ah≠lk:=fun z=>by rw[z,aK] at bQ;cases bQ
   rw[zam ne]
   exact(aU:Same H7 HD) _ _ (s7 _ _ aL)
  generalize L2.upd HD lk (.lst (zaj (zak m (zal L C))++[.int 99]))=HE at sE bM ⊢
  refine⟨_,rfl,sE.tab aM,wd,tb,tc,m,L,C,rfl,W.same sE,ak,fun f2 L3 HF sF F2=>?_⟩
  obtain⟨w3,cK,c9,cT,cX,cU,cS,bW,cW,cR,cQ,aX,_⟩:=F2.ex
  refine⟨f2,_,_,_,rfl,rfl,sqT bW,at1,_,rfl,cK,ah,(zak m (zal L C)).map (fun k:Nat=>(k:Int)),(zak m (zal L C)).map (fun k:Nat=>(k:Int)),rfl,rfl,SqL.of (by rw[zf7];exact aX),SqL.of (by rw[zf7];exact sF _ _ bM),?_⟩
  rw[decide_eq_true rfl]
  exact q _
 refine⟨_,(zae (zax (i:=1) sc_law.nd rfl (Or.inl rfl) (zb1 (zaa (pv 0) (zaa zad zab))))
   (zae (zax (i:=2) sc_law.nd rfl (Or.inl rfl) (zaf ag hr.lv rfl T.K_law_barred (zaa (pv 1) (zaa (zaf al hr.lv rfl T.K_law_wood (zaa (pv 1) zab)) zab))))
   (zae (zax (i:=3) sc_law.nd rfl (Or.inr rfl) (zaf au hr.lv rfl T.K_wares (zaa (pv 2) zab)))
   (zae (zaz (zar (zk2 hr.units) (pv 3) (zb1 zab) (zav _)) (zah (zao (zaf af hr.lv rfl T.K_law_refused (zaa (pv 2) zab)))) zas)
   (zae (zax (i:=4) sc_law.nd rfl (Or.inl rfl) (zaf ai hr.lv rfl T.K_folded (zaa (pv 2) zab)))
   (zae (zaz (PW.pt (zfu (zbt (za9 (zan (zii (K:=K)) rfl T.m_isinstance PyProof.Rows.boot_isinstance (zaa (pv 4) (zaa (zcd (v:=.ty "tuple") rfl T.m_tuple PyProof.Rows.boot_tuple rfl) zab))))) (zfu (zar zqn (zan (zb9 (K:=K)) rfl T.m_len PySem.boot_len (zaa (pv 4) zab)) zad (zav _)) (ze1 (zbt (za9 (zan (zii (K:=K)) rfl T.m_isinstance PyProof.Rows.boot_isinstance (zaa (zap (ixT (K:=K)) (pv 4) zad (fun _ _=>rfl)) (zaa (zcd (v:=.ty "list") rfl T.m_list PyProof.Rows.boot_list rfl) zab))))))))) (zah (zao zd9)) zas)
   (zae (zlh (i:=5) sc_law.nd rfl rfl rfl (N':=["_law_k", "_law_some"]) (n:=1) (kp:=[3]) rfl (zd0 rfl T.m_range (zaa (zap (ixT (K:=K)) (pv 2) zad (fun _ _=>rfl)) zab)) rfl rfl rfl (fun _ _ _ _ _=>(zaw (i:=0) (of_decide_eq_true rfl) rfl (Or.inr rfl))) (fun _ _ _ _ _=>(zbz (zar ze7 (zan (zb9 (K:=K)) rfl T.m_len PySem.boot_len (zaa (zdo (sc0:=(zgd (lcS (zxk (zbe zhy)[6]?)) (zai zhy))) (N':=["_law_ware", "_law_k"]) (n:=1) (kp:=[0]) rfl (piL (K:=K) (pv 1)) rfl rfl rfl (fun _ _ _ _ _=>(zaw (i:=0) (of_decide_eq_true rfl) rfl (Or.inl rfl))) (fun _ _ _ _ _=>(zbz (za9 (zaf am hr.lv rfl T.K_law_has (zaa (pv 0) (zaa (pv 1) zab)))))) (fun _ _ _ _ _=>(pv 0))) zab)) zad (zav _)))) (fun _ _ _ _ _=>(pv 0)))
   (zae (zaz (PW.pt (zfu (zbt (za9 (zan (zii (K:=K)) rfl T.m_isinstance PyProof.Rows.boot_isinstance (zaa (zap (ixT (K:=K)) (pv 4) zad (fun _ _=>rfl)) (zaa (zcd (v:=.ty "list") rfl T.m_list PyProof.Rows.boot_list rfl) zab))))) (zfu (zar (zkf hr.units) (zap (ixT (K:=K)) (pv 4) zad (fun _ _=>rfl)) (pv 5) (zav _)) (ze1 (zbt (za9 (zan (zii (K:=K)) rfl T.m_isinstance PyProof.Rows.boot_isinstance (zaa (zap (ixT (K:=K)) (pv 4) zad (fun _ _=>rfl)) (zaa (zcd (v:=.ty "list") rfl T.m_list PyProof.Rows.boot_list rfl) zab))))))))) (zah (zao zd9)) zas)
   (zae (zaz (zar ze7 (zan (zb9 (K:=K)) rfl T.m_len PySem.boot_len (zaa (zdo (N':=["_law_k"]) (n:=1) (kp:=[]) rfl (piL (K:=K) (zap (ixT (K:=K)) (pv 4) zad (fun _ _=>rfl))) rfl rfl rfl (fun _ _ _ _ _=>(zaw (i:=0) (of_decide_eq_true rfl) rfl (Or.inl rfl))) (fun _ _ _ _ _=>(zbz (PW.pt (zfu (zbt (za9 (zan (zii (K:=K)) rfl T.m_isinstance PyProof.Rows.boot_isinstance (zaa (pv 0) (zaa (zcd (v:=.ty "int") rfl T.m_int PyProof.Rows.boot_int rfl) zab))))) (ze1 (za9 (zan (zii (K:=K)) rfl T.m_isinstance PyProof.Rows.boot_isinstance (zaa (pv 0) (zaa (zcd (v:=.ty "bool") rfl T.m_bool PyProof.Rows.boot_bool rfl) zab))))))))) (fun _ _ _ _ _=>(pv 0))) zab)) zad (zav _)) (zah (zao zd9)) zas)
   cq))))))))),?_⟩
 refine⟨_,rfl,small (by show 2≤1000;decide),fun pen aE=>?_⟩
 have pn:=zv0 hS hl aE
 have s1:=zag aE (.lst [.ref sp,.int 0])
 generalize L2.upd H pen (.lst [.ref sp,.int 0])=H1 at pn s1 ⊢
 refine⟨_,rfl,_,rfl,pen,sp,ns,0,rfl,pn,by decide,by decide,fun bX m bs cs k2 H2 x2 cr cV dh m1 m9 WX ay=>?_⟩
 obtain⟨tb,cC,L,C0,W0,bP,cx⟩:=WX.parts
 have G:=WX.gb
 rw[bP] at G
 have L9:L.length≤9:=by
  have:=WX.b8
  rw[bP,List.length_map,List.length_map] at this
  exact this
 refine⟨pen,sp,ns,k2,bX,tb,cC,m,L,C0,rfl,pn.to x2 cr,by omega,by omega,W0,fun wd tc C k3 H3 x3 de cY cZ c8 W=>?_⟩
 have C8:C.length≤8:=by
  rcases c8 with rfl|z
  ·rw[cx,List.length_map] at ay
   exact ay
  ·exact z
 have bV:=x2.trans x3
 have bF:=bV.tab pn.at_ (s1.tab ta)
 have few:=zgz (m:=m) (ts:=zal L C) m9
 refine⟨_,rfl,bF,wd,m,zal L C,rfl,W.woodT,m1,m9,fun ls H4 s4 dg bi=>?_⟩
 have W4:=W.same s4
 have aM:=s4.tab bF
 refine⟨_,rfl,small (by show 0≤1000;decide),fun lz ce=>?_⟩
 have sz:=zag ce (.lst [])
 have gz:L2.upd H4 lz (.lst []) lz=some (.lst []):=zac
 have aI:=sz _ _ bi
 generalize L2.upd H4 lz (.lst [])=HZ at sz gz aI ⊢
 refine⟨ls,lz,(za1 m (zal L C)).map (fun k:Nat=>(k:Int)),[],rfl,rfl,SqL.of (by rw[zf7];exact aI),SqL.of gz,_,rfl,?_⟩
 by_cases e:za1 m (zal L C)=[]
 ·refine zfz (by rw[e];rfl) ?_
  refine⟨_,rfl,wd,tb,tc,m,L,C,rfl,sz.tab aM,W4.same sz,fun s hs=>?_,fun H' s'=>q _⟩
  rw[Bool.eq_false_iff]
  intro z
  have:=mem_wareL.mpr ⟨hs,z⟩
  rw[e] at this
  cases this
 refine zb5 (fun z=>e (by simpa using z)) ?_
 obtain⟨wa,cH⟩:=List.exists_mem_of_ne_nil _ e
 have ak:∃s,s<2^m∧zbs (zal L C) s=true:=⟨wa,mem_wareL.mp cH⟩
 have WZ:=W4.same sz
 have bx:=sz.tab aM
 refine⟨_,rfl,bx,wd,tb,tc,m,L,C,rfl,WZ,ak,fun f aB H5 s5 F=>?_⟩
 obtain⟨w2,lk,lt,ln,aD,aG,xt,hf,bg,bL,bN,aK,bE,dt,bK,bz,bZ,cJ,_⟩:=F.ex
 refine⟨_,rfl,_,_,_,_,rfl,.tup hf,zjh,_,rfl,?_⟩
 refine zc5 ?_
 refine⟨_,rfl,f,_,rfl,.inr (sqT hf),rfl,_,rfl,?_⟩
 refine zkp rfl ?_
 refine⟨_,rfl,f,_,_,_,rfl,rfl,sqT hf,at2,_,_,_,_,rfl,.lst bE,zct,_,rfl,?_⟩
 refine zc5 ?_
 have br:H5 ls=some (.lst (zaj (za1 m (zal L C)))):=s5 _ _ aI
 refine⟨_,rfl,wd,_,_,_,rfl,rfl,sqT (WZ.same s5).at_,at0,_,rfl,by rw[bJ];omega,by rw[bJ];omega,?_⟩
 rw[Int.toNat_natCast]
 refine zfa (k:=m) (fun i zs σ H6=>(∃v,σ=[v,some (.ref ls)])∧Same H5 H6∧zs=zaj ((List.range i).filter fun k=>(za1 m (zal L C)).any fun w=>w.testBit k)) ⟨⟨none,rfl⟩,Same.refl _,rfl⟩ (fun i zs σ H6 hi pv=>?_) (fun i zs σ H6 hi pv=>?_) (fun zs σ H6 pv ah aH=>?_)
 ·obtain⟨_,_,rfl⟩:=pv
  rw[List.length_map]
  refine small (Nat.le_trans (List.length_filter_le _ _) ?_)
  rw[List.length_range]
  omega
 ·obtain⟨⟨v,rfl⟩,s6,rfl⟩:=pv
  have aC:H6 ls=some (.lst (zaj (za1 m (zal L C)))):=s6 _ _ br
  refine⟨_,rfl,ls,rfl,⟨_,SqL.of aC⟩,?_⟩
  refine zqt (K:=K) (a:=ls) (l:=za1 m (zal L C)) (σr:=[some (.int (i:Int))]) (fun w=>w.testBit i) rfl aC (by omega) (fun w hw R r=>⟨_,rfl,_,rfl,w,i,rfl,by omega,_,rfl,r⟩) (fun la aW=>?_)
  have s7:=zag aW (.lst (zaj ((za1 m (zal L C)).filter fun w=>w.testBit i)))
  refine⟨la,_,rfl,.inl (SqL.of zac),_,_,rfl,rfl,_,rfl,?_⟩
  have ll:(zaj ((za1 m (zal L C)).filter fun w=>w.testBit i)).length=((za1 m (zal L C)).filter fun w=>w.testBit i).length:=List.length_map _
  have ea:decide ((((zaj ((za1 m (zal L C)).filter fun w=>w.testBit i)).length:Nat):Int)>0)=(za1 m (zal L C)).any fun w=>w.testBit i:=by
   rw[Bool.eq_iff_iff,decide_eq_true_iff,List.any_eq_true,ll]
   constructor
   ·intro z
    obtain⟨w,hw⟩:=List.exists_mem_of_length_pos (show 0<((za1 m (zal L C)).filter fun w=>w.testBit i).length by omega)
    exact⟨w,List.mem_filter.mp hw⟩
   ·rintro⟨w,h1,h2⟩
    have:=List.length_pos_of_mem (show w∈(za1 m (zal L C)).filter fun w=>w.testBit i from List.mem_filter.mpr ⟨h1,h2⟩)
    omega
  have er:∀z,((za1 m (zal L C)).any fun w=>w.testBit i)=z→(List.range (i+1)).filter (fun k=>(za1 m (zal L C)).any fun w=>w.testBit k)=(List.range i).filter (fun k=>(za1 m (zal L C)).any fun w=>w.testBit k)++(if z=true then [i] else []):=fun z hz=>by
   rw[List.range_succ,List.filter_append]
   congr 1
   cases z
   ·rw[List.filter_cons_of_neg (by rw[hz];exact Bool.false_ne_true)];rfl
   ·rw[List.filter_cons_of_pos (by exact hz)];rfl
  cases c:(za1 m (zal L C)).any fun w=>w.testBit i
  ·refine zn5 (ea.trans c) ?_
   refine⟨⟨_,rfl⟩,s6.trans s7,?_⟩
   rw[er false c,if_neg (by decide),List.append_nil]
  ·refine zu6 (ea.trans c) ?_
   refine⟨_,rfl,⟨_,rfl⟩,s6.trans s7,?_⟩
   rw[er true c,if_pos rfl,zcz]
   rfl
 obtain⟨_,s6,rfl⟩:=pv
 rw[show((List.range m).filter fun k=>(za1 m (zal L C)).any fun w=>w.testBit k)=zak m (zal L C) from rfl]
 have s7:=zag aH (.lst (zaj (zak m (zal L C))))
 have g7:L2.upd H6 ah (.lst (zaj (zak m (zal L C)))) ah=some (.lst (zaj (zak m (zal L C)))):=zac
 generalize L2.upd H6 ah (.lst (zaj (zak m (zal L C))))=H7 at s7 g7 ⊢
 have av:=s6.trans s7
 have aJ:=av _ _ hf
 have ar:H7 lk=some (.lst (zaj (zak m (zal L C)))):=av _ _ aK
 have aS:=av _ _ bK
 have be:=zgu m (zal L C)
 refine⟨_,rfl,f,_,_,_,rfl,rfl,sqT aJ,at1,_,_,_,_,rfl,.lst ar,zct,_,rfl,?_⟩
 refine zc5 ?_
 refine⟨_,rfl,f,_,_,_,rfl,rfl,sqT aJ,at1,_,rfl,lk,ah,(zak m (zal L C)).map (fun k:Nat=>(k:Int)),(zak m (zal L C)).map (fun k:Nat=>(k:Int)),rfl,rfl,SqL.of (by rw[zf7];exact ar),SqL.of (by rw[zf7];exact g7),_,rfl,?_⟩
 refine zkp rfl ?_
 refine⟨_,rfl,f,_,_,_,rfl,rfl,sqT aJ,at3,_,_,_,_,rfl,.lst aS,zct,_,rfl,?_⟩
 refine zc5 ?_
 refine⟨_,rfl,f,_,_,_,rfl,rfl,sqT aJ,at1,lk,rfl,⟨_,SqL.of ar⟩,?_⟩
 refine zdl (K:=K) (a:=lk) (xs:=zaj (zak m (zal L C))) (fun i zs σ H8=>(∃v,σ=[v])∧H8=H7∧zs=[]) ⟨⟨none,rfl⟩,rfl,rfl⟩ (fun i zs σ H8 hi pv=>?_) (fun i zs σ H8 hi pv=>?_) (fun i x zs σ H8 hx pv=>?_) (fun zs σ H8 pv le b7=>?_)
 ·rw[pv.2.2]
  exact small (by show 0≤1000;decide)
 ·rw[pv.2.1]
  exact SqL.of ar
 ·obtain⟨⟨v,rfl⟩,rfl,rfl⟩:=pv
  rw[List.getElem?_map] at hx
  obtain⟨k,hk,rfl⟩:=Option.map_eq_some_iff.mp hx
  refine⟨_,rfl,_,_,_,_,rfl,.int _,zoh,_,rfl,?_⟩
  refine zc5 ?_
  refine⟨_,rfl,_,_,_,_,rfl,.int _,zmo,_,rfl,?_⟩
  refine zc5 ?_
  exact⟨⟨_,rfl⟩,rfl,rfl⟩
 obtain⟨_,rfl,rfl⟩:=pv
 have s8:=zag b7 (.lst [])
 refine⟨le,_,rfl,.inl (SqL.of zac),_,_,rfl,rfl,_,rfl,?_⟩
 refine zn5 (by rfl) ?_
 exact tail pen wd tb tc ls f ah m L aB C HZ H5 _ bx WZ aI ak G L9 C8 s5 F (av.trans s8) (s6.free aH) (s8 _ _ g7)
end
theorem all_mk{l:PySem.W.OpenLaw}{w:World}{K:PySem.W.Frag}{h:Heap}{mg:Str→Option Value}{fa f1 f2 f3 f4 f5 f6 f7 f8 f9 f10 f11 f12 f13 f14 f15 f16 f17 f18 f19 f20 f21 f22 f23 f24 f25 f26 f27 f28 f29 f30 f31 f32 f33 f34 f35 f36 f37 f38 f39 f40 f41 f42 f43 f44 f45 f46 f47 f48 f49 f50 f51 f52 cc27 tt27 y_WoodError y_NoWood y_NoCount y_NoWares y_NoOffer y_Unlike y_NoText y_NoRow y_NoName:Addr}(X:K.In h)(G:h.Ns mainGlobals mg)(hfa:mg "law" = some (.ref fa))
  {d1 d2 d3 d4 d5 d6 d7 d8 d9 d10 d11 d12 d13 d14 d15 d16 d17 d18 d19 d20 d21 d22 d23 d24 d25 d26 d27 d28 d29 d30 d31 d32 d33 d34 d35 d36 d37 d38 d39 d40 d41 d42 d43 d44 d45 d46 d47 d48 d49 d50 d51 d52:FuncData}
  {coc27:Value} {cod27:Option Addr} {cvs27:Array Value} {csl27:Array (Option Value)}
  (a1:Dk K "has" zt4 f1 d1)
  (a2:Dk K "with_option" zex f2 d2)
  (a3:Dk K "open_options" zdb f3 d3)
  (a4:Dk K "wood_of" zim f4 d4)
  (a5:Dk K "many_ties" zgf f5 d5)
  (a6:Dk K "tie_at" zkl f6 d6)
  (a7:Dk K "check_boughs" zea f7 d7)
  (a8:Dk K "check_cross_ties" zcx f8 d8)
  (a9:Dk K "is_whole" zhj f9 d9)
  (a10:Dk K "is_whole_within" zda f10 d10)
  (a11:Dk K "is_option" zf2 f11 d11)
  (a12:Dk K "is_tuple_of_length" zce f12 d12)
  (a13:Dk K "is_filled_tuple" zc7 f13 d13)
  (a14:Dk K "are_rising_options" zch f14 d14)
  (a15:Dk K "is_bough" zhq f15 d15)
  (a16:Dk K "is_cross_tie" zd7 f16 d16)
  (a17:Dk K "are_pairs" zem f17 d17)
  (a18:Dk K "keeps" zjk f18 d18)
  (a19:Dk K "keeps_bough" ze2 f19 d19)
  (a20:Dk K "count_in" zfj f20 d20)
  (a21:Dk K "every_tie" zgk f21 d21)
  (a22:Dk K "sure_broken" zez f22 d22)
  (a23:Dk K "least_sum" zef f23 d23)
  (a24:Dk K "sure_broken_bough" za3 f24 d24)
  (a25:Dk K "first_sure_broken" zcm f25 d25)
  (a26:Dk K "cases" zm0 f26 d26)
  (a27:Dk K "cases_of" zcf f27 d27)
  (e27:d27.code=.ref cc27) (m27:K.lookup cc27=some ⟨coc27,cod27,.fields cvs27,csl27⟩) (n27:(cvs27[11]?:Option Value)=some (.ref tt27))
  (a28:Dk K "ware_leaf" zf5 f28 d28)
  (a29:Dk K "told_tree" zdq f29 d29)
  (a30:Dk K "wares_in" zhf f30 d30)
  (a31:Dk K "wares" zmw f31 d31)
  (a32:Dk K "folded" zb4 f32 d32)
  (a33:Dk K "boughs_left" zdk f33 d33)
  (a34:Dk K "cross_left" zdy f34 d34)
  (a35:Dk K "tightened" zet f35 d35)
  (a36:Dk K "first_with" zdu f36 d36)
  (a37:Dk K "without_needless" zcy f37 d37)
  (a38:Dk K "first_breaking" zdg f38 d38)
  (a39:Dk K "without_place" zds f39 d39)
  (a40:Dk K "_law_take" zeb f40 d40)
  (a41:Dk K "_law_bough" zgi f41 d41)
  (a42:Dk K "_law_boughs" zc3 f42 d42)
  (a43:Dk K "_law_most" zd5 f43 d43)
  (a44:Dk K "_law_cross" zgq f44 d44)
  (a45:Dk K "_law_wood" zcg f45 d45)
  (a46:Dk K "_law_has" zih f46 d46)
  (a47:Dk K "_law_barred" zfi f47 d47)
  (a48:Dk K "_law_refused" ze4 f48 d48)
  (a49:Dk K "_law_boughs_due" zbi f49 d49)
  (a50:Dk K "_law_moved" zej f50 d50)
  (a51:Dk K "_law_in_order" zed f51 d51)
  (a52:Dk K "law" zhy f52 d52)
  (z1:PySem.W.nsIn K mainGlobals "ValueError" = some none)
  (z2:PySem.W.nsIn K mainGlobals "range" = some none)
  (z3:PySem.W.nsIn K mainGlobals "len" = some none)
  (z4:PySem.W.nsIn K mainGlobals "isinstance" = some none)
  (z5:PySem.W.nsIn K mainGlobals "min" = some none)
  (z6:PySem.W.nsIn K mainGlobals "max" = some none)
  (z7:PySem.W.nsIn K mainGlobals "int" = some none)
  (z8:PySem.W.nsIn K mainGlobals "bool" = some none)
  (z9:PySem.W.nsIn K mainGlobals "list" = some none)
  (z10:PySem.W.nsIn K mainGlobals "tuple" = some none)
  (z11:PySem.W.nsIn K mainGlobals "str" = some none)
  (z12:PySem.W.nsIn K mainGlobals "sorted" = some none)
  (z13:PySem.W.nsIn K mainGlobals "enumerate" = some none)
  (z14:PySem.W.nsIn K mainGlobals "sum" = some none)
  (z15:PySem.W.nsIn K mainGlobals "any" = some none)
  {tc1:Tok} (v1:PySem.W.nsIn K mainGlobals "MOST_OPTIONS" = some (some (Value.int 9 tc1)))
  {tc2:Tok} (v2:PySem.W.nsIn K mainGlobals "MOST_CROSS_TIES" = some (some (Value.int 8 tc2)))
  (g_WoodError:PySem.W.nsIn K mainGlobals "WoodError" = some (some (.ref y_WoodError)))
  (g_NoWood:PySem.W.nsIn K mainGlobals "NoWood" = some (some (.ref y_NoWood)))
  (g_NoCount:PySem.W.nsIn K mainGlobals "NoCount" = some (some (.ref y_NoCount)))
  (g_NoWares:PySem.W.nsIn K mainGlobals "NoWares" = some (some (.ref y_NoWares)))
  (g_NoOffer:PySem.W.nsIn K mainGlobals "NoOffer" = some (some (.ref y_NoOffer)))
  (g_Unlike:PySem.W.nsIn K mainGlobals "Unlike" = some (some (.ref y_Unlike)))
  (g_NoText:PySem.W.nsIn K mainGlobals "NoText" = some (some (.ref y_NoText)))
  (g_NoRow:PySem.W.nsIn K mainGlobals "NoRow" = some (some (.ref y_NoRow)))
  (g_NoName:PySem.W.nsIn K mainGlobals "NoName" = some (some (.ref y_NoName)))
  (xa_WoodError:PySem.W.excIn K y_WoodError zhs zg3=true) (xb_WoodError:PySem.W.findIn K (.ref y_WoodError) "__getattribute__" = some (some (.builtin "BaseException.__getattribute__"))) (xc_WoodError:PySem.W.findIn K (.ref y_WoodError) "__getattr__" = some none) (xd_WoodError:PySem.W.findIn K (.ref y_WoodError) "__class__" = some (some (.builtin "object.__class__")))
  (xa_NoWood:PySem.W.excIn K y_NoWood zhs zg3=true) (xb_NoWood:PySem.W.findIn K (.ref y_NoWood) "__getattribute__" = some (some (.builtin "BaseException.__getattribute__"))) (xc_NoWood:PySem.W.findIn K (.ref y_NoWood) "__getattr__" = some none) (xd_NoWood:PySem.W.findIn K (.ref y_NoWood) "__class__" = some (some (.builtin "object.__class__")))
  (xa_NoCount:PySem.W.excIn K y_NoCount zhs zg3=true) (xb_NoCount:PySem.W.findIn K (.ref y_NoCount) "__getattribute__" = some (some (.builtin "BaseException.__getattribute__"))) (xc_NoCount:PySem.W.findIn K (.ref y_NoCount) "__getattr__" = some none) (xd_NoCount:PySem.W.findIn K (.ref y_NoCount) "__class__" = some (some (.builtin "object.__class__")))
  (xa_NoWares:PySem.W.excIn K y_NoWares zhs zg3=true) (xb_NoWares:PySem.W.findIn K (.ref y_NoWares) "__getattribute__" = some (some (.builtin "BaseException.__getattribute__"))) (xc_NoWares:PySem.W.findIn K (.ref y_NoWares) "__getattr__" = some none) (xd_NoWares:PySem.W.findIn K (.ref y_NoWares) "__class__" = some (some (.builtin "object.__class__")))
  (xa_NoOffer:PySem.W.excIn K y_NoOffer zhs zg3=true) (xb_NoOffer:PySem.W.findIn K (.ref y_NoOffer) "__getattribute__" = some (some (.builtin "BaseException.__getattribute__"))) (xc_NoOffer:PySem.W.findIn K (.ref y_NoOffer) "__getattr__" = some none) (xd_NoOffer:PySem.W.findIn K (.ref y_NoOffer) "__class__" = some (some (.builtin "object.__class__")))
  (xa_Unlike:PySem.W.excIn K y_Unlike zhs zg3=true) (xb_Unlike:PySem.W.findIn K (.ref y_Unlike) "__getattribute__" = some (some (.builtin "BaseException.__getattribute__"))) (xc_Unlike:PySem.W.findIn K (.ref y_Unlike) "__getattr__" = some none) (xd_Unlike:PySem.W.findIn K (.ref y_Unlike) "__class__" = some (some (.builtin "object.__class__")))
  (xa_NoText:PySem.W.excIn K y_NoText zhs zg3=true) (xb_NoText:PySem.W.findIn K (.ref y_NoText) "__getattribute__" = some (some (.builtin "BaseException.__getattribute__"))) (xc_NoText:PySem.W.findIn K (.ref y_NoText) "__getattr__" = some none) (xd_NoText:PySem.W.findIn K (.ref y_NoText) "__class__" = some (some (.builtin "object.__class__")))
  (xa_NoRow:PySem.W.excIn K y_NoRow zhs zg3=true) (xb_NoRow:PySem.W.findIn K (.ref y_NoRow) "__getattribute__" = some (some (.builtin "BaseException.__getattribute__"))) (xc_NoRow:PySem.W.findIn K (.ref y_NoRow) "__getattr__" = some none) (xd_NoRow:PySem.W.findIn K (.ref y_NoRow) "__class__" = some (some (.builtin "object.__class__")))
  (xa_NoName:PySem.W.excIn K y_NoName zhs zg3=true) (xb_NoName:PySem.W.findIn K (.ref y_NoName) "__getattribute__" = some (some (.builtin "BaseException.__getattribute__"))) (xc_NoName:PySem.W.findIn K (.ref y_NoName) "__getattr__" = some none) (xd_NoName:PySem.W.findIn K (.ref y_NoName) "__class__" = some (some (.builtin "object.__class__")))
  (k_NoWood_WoodError:PySem.W.kitOne K (.ref y_NoWood) (.ref y_WoodError)=some true)
  (k_NoWood_NoWood:PySem.W.kitOne K (.ref y_NoWood) (.ref y_NoWood)=some true)
  (k_NoWood_NoCount:PySem.W.kitOne K (.ref y_NoWood) (.ref y_NoCount)=some false)
  (k_NoWood_NoWares:PySem.W.kitOne K (.ref y_NoWood) (.ref y_NoWares)=some false)
  (k_NoWood_NoOffer:PySem.W.kitOne K (.ref y_NoWood) (.ref y_NoOffer)=some false)
  (k_NoWood_Unlike:PySem.W.kitOne K (.ref y_NoWood) (.ref y_Unlike)=some false)
  (k_NoWood_NoText:PySem.W.kitOne K (.ref y_NoWood) (.ref y_NoText)=some false)
  (k_NoWood_NoRow:PySem.W.kitOne K (.ref y_NoWood) (.ref y_NoRow)=some false)
  (k_NoWood_NoName:PySem.W.kitOne K (.ref y_NoWood) (.ref y_NoName)=some false)
  (v_NoWood:PySem.W.kitOne K (.ref y_NoWood) (.type "ValueError")=some true)
  (s_NoWood_WoodError:zqb K y_NoWood y_WoodError=true)
  (k_NoWares_WoodError:PySem.W.kitOne K (.ref y_NoWares) (.ref y_WoodError)=some true)
  (k_NoWares_NoWood:PySem.W.kitOne K (.ref y_NoWares) (.ref y_NoWood)=some false)
  (k_NoWares_NoCount:PySem.W.kitOne K (.ref y_NoWares) (.ref y_NoCount)=some false)
  (k_NoWares_NoWares:PySem.W.kitOne K (.ref y_NoWares) (.ref y_NoWares)=some true)
  (k_NoWares_NoOffer:PySem.W.kitOne K (.ref y_NoWares) (.ref y_NoOffer)=some false)
  (k_NoWares_Unlike:PySem.W.kitOne K (.ref y_NoWares) (.ref y_Unlike)=some false)
  (k_NoWares_NoText:PySem.W.kitOne K (.ref y_NoWares) (.ref y_NoText)=some false)
  (k_NoWares_NoRow:PySem.W.kitOne K (.ref y_NoWares) (.ref y_NoRow)=some false)
  (k_NoWares_NoName:PySem.W.kitOne K (.ref y_NoWares) (.ref y_NoName)=some false)
  (v_NoWares:PySem.W.kitOne K (.ref y_NoWares) (.type "ValueError")=some true)
  (s_NoWares_WoodError:zqb K y_NoWares y_WoodError=true)
  : (∃fd:FuncData,(∀(s:Shared)(v:Value),BindsTo s fd ⟨[v],[]⟩ [("_law_script",v)])∧∀base:Heap,K.In base→base.Ns mainGlobals mg→(∀p∈([(cc27,tt27)]:List (Addr×Addr)),zhn mg base p.1 p.2)→FnOk l.prog w K mg base CX0 29 fa fd ["_law_script"] (spT tt27 (zqv K))):=by
 have e:=hfa.symm.trans (PySem.W.mg_of X G a52.1)
 cases e
 have T:Txt K mg ⟨f1,f2,f3,f4,f5,f6,f7,f8,f9,f10,f11,f12,f13,f14,f15,f16,f17,f18,f19,f20,f21,f22,f23,f24,f25,f26,f27,f28,f29,f30,f31,f32,f33,f34,f35,f36,f37,f38,f39,f40,f41,f42,f43,f44,f45,f46,f47,f48,f49,f50,f51,fa,cc27,tt27,y_WoodError,y_NoWood,y_NoCount,y_NoWares,y_NoOffer,y_Unlike,y_NoText,y_NoRow,y_NoName⟩ ⟨d1,d2,d3,d4,d5,d6,d7,d8,d9,d10,d11,d12,d13,d14,d15,d16,d17,d18,d19,d20,d21,d22,d23,d24,d25,d26,d27,d28,d29,d30,d31,d32,d33,d34,d35,d36,d37,d38,d39,d40,d41,d42,d43,d44,d45,d46,d47,d48,d49,d50,d51,d52⟩:=⟨PySem.W.mg_none_of X G z1,PySem.W.mg_none_of X G z2,PySem.W.mg_none_of X G z3,PySem.W.mg_none_of X G z4,PySem.W.mg_none_of X G z5,PySem.W.mg_none_of X G z6,PySem.W.mg_none_of X G z7,PySem.W.mg_none_of X G z8,PySem.W.mg_none_of X G z9,PySem.W.mg_none_of X G z10,PySem.W.mg_none_of X G z11,PySem.W.mg_none_of X G z12,PySem.W.mg_none_of X G z13,PySem.W.mg_none_of X G z14,PySem.W.mg_none_of X G z15,⟨_,PySem.W.mg_of X G v1⟩,⟨_,PySem.W.mg_of X G v2⟩,a1.df X G (bd2 fun _ _ _ _ _ _ _ _=>rfl),a2.df X G (bd2 fun _ _ _ _ _ _ _ _=>rfl),a3.df X G (bd3 fun _ _ _ _ _ _ _ _ _=>rfl),a4.df X G (bd3 fun _ _ _ _ _ _ _ _ _=>rfl),a5.df X G (bd1 fun _ _ _ _ _ _ _=>rfl),a6.df X G (bd2 fun _ _ _ _ _ _ _ _=>rfl),a7.df X G (bd2 fun _ _ _ _ _ _ _ _=>rfl),a8.df X G (bd2 fun _ _ _ _ _ _ _ _=>rfl),a9.df X G (bd1 fun _ _ _ _ _ _ _=>rfl),a10.df X G (bd3 fun _ _ _ _ _ _ _ _ _=>rfl),a11.df X G (bd2 fun _ _ _ _ _ _ _ _=>rfl),a12.df X G (bd2 fun _ _ _ _ _ _ _ _=>rfl),a13.df X G (bd1 fun _ _ _ _ _ _ _=>rfl),a14.df X G (bd3 fun _ _ _ _ _ _ _ _ _=>rfl),a15.df X G (bd2 fun _ _ _ _ _ _ _ _=>rfl),a16.df X G (bd2 fun _ _ _ _ _ _ _ _=>rfl),a17.df X G (bd2 fun _ _ _ _ _ _ _ _=>rfl),a18.df X G (bd2 fun _ _ _ _ _ _ _ _=>rfl),a19.df X G (bd2 fun _ _ _ _ _ _ _ _=>rfl),a20.df X G (bd2 fun _ _ _ _ _ _ _ _=>rfl),a21.df X G (bd1 fun _ _ _ _ _ _ _=>rfl),a22.df X G (bd3 fun _ _ _ _ _ _ _ _ _=>rfl),a23.df X G (bd3 fun _ _ _ _ _ _ _ _ _=>rfl),a24.df X G (bd3 fun _ _ _ _ _ _ _ _ _=>rfl),a25.df X G (bd4 fun _ _ _ _ _ _ _ _ _ _=>rfl),a26.df X G (bd3 fun _ _ _ _ _ _ _ _ _=>rfl),a27.df X G (bd4 fun _ _ _ _ _ _ _ _ _ _=>rfl),a28.df X G (bd3 fun _ _ _ _ _ _ _ _ _=>rfl),a29.df X G (bd5 fun _ _ _ _ _ _ _ _ _ _ _=>rfl),a30.df X G (bd2 fun _ _ _ _ _ _ _ _=>rfl),a31.df X G (bd1 fun _ _ _ _ _ _ _=>rfl),a32.df X G (bd1 fun _ _ _ _ _ _ _=>rfl),a33.df X G (bd2 fun _ _ _ _ _ _ _ _=>rfl),a34.df X G (bd2 fun _ _ _ _ _ _ _ _=>rfl),a35.df X G (bd2 fun _ _ _ _ _ _ _ _=>rfl),a36.df X G (bd3 fun _ _ _ _ _ _ _ _ _=>rfl),a37.df X G (bd3 fun _ _ _ _ _ _ _ _ _=>rfl),a38.df X G (bd4 fun _ _ _ _ _ _ _ _ _ _=>rfl),a39.df X G (bd2 fun _ _ _ _ _ _ _ _=>rfl),a40.df X G (bd2 fun _ _ _ _ _ _ _ _=>rfl),a41.df X G (bd3 fun _ _ _ _ _ _ _ _ _=>rfl),a42.df X G (bd2 fun _ _ _ _ _ _ _ _=>rfl),a43.df X G (bd2 fun _ _ _ _ _ _ _ _=>rfl),a44.df X G (bd2 fun _ _ _ _ _ _ _ _=>rfl),a45.df X G (bd1 fun _ _ _ _ _ _ _=>rfl),a46.df X G (bd2 fun _ _ _ _ _ _ _ _=>rfl),a47.df X G (bd2 fun _ _ _ _ _ _ _ _=>rfl),a48.df X G (bd1 fun _ _ _ _ _ _ _=>rfl),a49.df X G (bd3 fun _ _ _ _ _ _ _ _ _=>rfl),a50.df X G (bd2 fun _ _ _ _ _ _ _ _=>rfl),a51.df X G (bd2 fun _ _ _ _ _ _ _ _=>rfl),a52.df X G (bd1 fun _ _ _ _ _ _ _=>rfl),e27,PySem.W.mg_of X G g_WoodError,PySem.W.mg_of X G g_NoWood,PySem.W.mg_of X G g_NoCount,PySem.W.mg_of X G g_NoWares,PySem.W.mg_of X G g_NoOffer,PySem.W.mg_of X G g_Unlike,PySem.W.mg_of X G g_NoText,PySem.W.mg_of X G g_NoRow,PySem.W.mg_of X G g_NoName,⟨xa_WoodError,xb_WoodError,xc_WoodError,xd_WoodError⟩,⟨xa_NoWood,xb_NoWood,xc_NoWood,xd_NoWood⟩,⟨xa_NoCount,xb_NoCount,xc_NoCount,xd_NoCount⟩,⟨xa_NoWares,xb_NoWares,xc_NoWares,xd_NoWares⟩,⟨xa_NoOffer,xb_NoOffer,xc_NoOffer,xd_NoOffer⟩,⟨xa_Unlike,xb_Unlike,xc_Unlike,xd_Unlike⟩,⟨xa_NoText,xb_NoText,xc_NoText,xd_NoText⟩,⟨xa_NoRow,xb_NoRow,xc_NoRow,xd_NoRow⟩,⟨xa_NoName,xb_NoName,xc_NoName,xd_NoName⟩,k_NoWood_WoodError,k_NoWood_NoWood,k_NoWood_NoCount,k_NoWood_NoWares,k_NoWood_NoOffer,k_NoWood_Unlike,k_NoWood_NoText,k_NoWood_NoRow,k_NoWood_NoName,v_NoWood,s_NoWood_WoodError,k_NoWares_WoodError,k_NoWares_NoWood,k_NoWares_NoCount,k_NoWares_NoWares,k_NoWares_NoOffer,k_NoWares_Unlike,k_NoWares_NoText,k_NoWares_NoRow,k_NoWares_NoName,v_NoWares,s_NoWares_WoodError⟩
 exact⟨d52,zyj a52.2 fun _ _ _ _ _ _ _=>rfl,fun base _ _ LL=>zxy T (LL _ List.mem_cons_self)⟩
theorem walk{l:PySem.W.OpenLaw}{q:Program}{loose:List Str}{XP:(Str→Option Value)→Heap→Prop}{YP:World→Heap→Prop}{d:DefRec}{K:Params→PySem.W.Frag}{c27 P27:Addr}(hn:l.most=some 63)(hdf:d.params.defaults=[])
  (hY:∀(w:World)(h:Heap),YP w h→(K w.params).In h)
  (hK0:∀w:World,PySem.W.noTabs (K w.params)=true) (hT:∀(w:World)(h:Heap),YP w h→PySem.W.TabsAt [(c27,P27)] h)
(F:∀(w:World)(mg:Str→Option Value)(fa:Addr)(h:Heap),(K w.params).In h→h.Ns mainGlobals mg→mg d.name=some (.ref fa) →
   ∃fd:FuncData,(∀(s:Shared)(u:Value),BindsTo s fd ⟨[u],[]⟩ [("_law_script",u)])∧∀base:Heap,(K w.params).In base→base.Ns mainGlobals mg→(∀p∈([(c27,P27)]:List (Addr×Addr)),zhn mg base p.1 p.2)→FnOk l.prog w (K w.params) mg base CX0 29 fa fd ["_law_script"] (spT P27 (zqv (K w.params)))):
  PySem.W.WalkO q loose XP YP l.row.toRowW d [] (fun f vs=>PySem.call f vs):=
 L2.walk_ofT (n:=63) (k:=29) (x := "_law_script") (tabs:=fun _=>[(c27,P27)]) (sp:=fun w=>(spT P27 (zqv (K w.params)))) hn (by decide) hdf ⟨rfl,by decide,by decide⟩ hY hK0 hT F (fun _ _ a ns hl hT hS=>⟨hT _ List.mem_cons_self,a,ns,rfl,hS,hl,fun _=>rfl⟩)
end Ow
structure PySem.W.Fast:Prop where
 (tw16343169875963713062 tw14016020608121757438 tw2332057335751543780 tw11250580387046731671 tw9609617747673456157 tw16221086290585814487 tw4269970244192351176 tw18327353893465819600 tw13982936245941861919 tw10388487373228718939 tw390924938625085494 tw14283758134238882124 tw13421565296095264680 tw7677479968497622336 tw15827210316396213997 tw2859663928194518456 tw4963961094676537654 tw17362303647930965198 tw16110042902945723640 tw11933273870541767582 tw8280500942552232184 tw711447684353088216 tw640520337261017239 tw9133913981721024645 tw12831692542006300981 tw15173280275851132744 tw6489842582333074230 tw12292824419785807931 tw9666897305566793382 tw6337887993905563067 tw18254128533550785099 tw2846586183926946059 tw12496426896773275071 tw17364129462464356146 tw5324383984030498657 tw1322684908631629767 tw9129414437155012249 tw12687482719030812361 tw14892815865218457956 tw27000847548114615 tw4221512291265457699 tw3811322742798888353 tw18053911541682175035 tw13537546759225783996 tw865309136556756959 tw138634069881794661 tw4892205842680197042 tw14469100856160585662 tw7168479944041117015 tw7805908504351352384 tw6863210359151869406 tw1163332554399026933 tw1415806609277760567 tw3514242452105509969 tw9727794932406703364 tw9407938432955801153 tw2310055726322471366 tw9867567236412358312 tw557775293759691391 tw14716985707208977589 tw15354809769533941991 tw11973437244439987279 tw6385541032591670376 tw5724162374708012684 tw17505175453136769394 tw17075276775180390704 tw1168559713107360940 tw9819915808750944553 tw9785731771981831958 tw8466019675427066880 tw11176739392113705425 tw9343409866263143991 tw11927953400866927021 tw3279413980125631212 tw15470995738412724454 tw2735101376405284936 tw8535246899289371189 tw7978105977543200132 tw13072821661327923837 tw11347573114466488570 tw1417413890835474483 tw831357991217209862 tw1169116473831520794 tw17708898388111652176 tw8754750988892983526 tw17614817312184514509 tw11979716457730103581 tw6664181575311103452 tw12764352463024090032 tw2116391176970011691 tw16408511778287220143 tw7682386953656132039 tw2731496312606080982 tw15399242520919181623 tw17391785962377062011 tw4323682106164401357 tw3551460676550148831 tw16035373146152993614 tw14630990794465801934 tw17151128749030650704 tw7390952903800476117 tw17310825279546736984 tw224720921425264073 tw17415107962055289743 tw13466037304287183351 tw40149474870009555 tw13290609213937630055 tw10408677927288624412 tw9519261469464816396 tw17761672518606568537 tw18417903902290384443 tw6697004954967944151 tw15026677321584504239 tw11403930381991387644 tw17580152666473531630 tw15179325090383241965 tw14085449367747891781 tw11683934065779820496 tw7747030457407688066 tw7028065416413241632 tw7654695728833417962 tw7268460959836199241 tw8877741725903636759 tw1829102949441800184 tw5649604814456225723 tw12381775126063296303 tw13767378469344596901 tw14147569795115169824 tw5789169347437734364 tw8964464401617525862 tw4156119108650047431 tw7516678918767538729 tw10336204206205057643 tw14031257583874066382 tw11332279814380515329 tw4330957442059098892 tw10806302636581842859 tw17928285189929838327 tw9155564474497651123 tw8344311394054272448 tw15227488719041398913 tw1983717216678001438 tw10178832199235048759 tw10953374434238527676 tw5716620660414796577 tw14844173332359346653 tw5231710557372257625 tw17243632530664012036 tw4899922879129375898 tw7973309965886915351 tw6826118568047362142 tw17194902573178430230 tw172890410241292016 tw6617494768150391074 tw14066368125451874527 tw5068095321594924550 tw10368341171958343872 tw2606785088892124304 tw3083263551496542320 tw17988941312756229496 tw16186347206971876692 tw14311656462460394726 tw3987210375636780104 tw16699377728111816596 tw11243178011937948669 tw7179701838467572451 tw1810567625864413912 tw10092784361142202646 tw3719940954116819128 tw8051547552984774735 tw17718683210109819171 tw2142012053477400594 tw11676110764226463961 tw4507261924907327188 tw17983350420241489022 tw16857356055506106027 tw2326884348880182494 tw7988538961489148817 tw8854640474002210375 tw7599418747185252131 tw10633560029154165582 tw7076146966209862662 tw17212601765664181926 tw14511602947997049545 tw10904074958078064701 tw12045499263821055494 tw11219419197777321554 tw5250458923534677944 tw18056017414686582384 tw11549984132577207136 tw5492788459209909735 tw13461056391425238613 tw10365301794974603463 tw11852516974691762765 tw1129588610656799275 tw18081397427072099347 tw7745708074629407942 tw5891620108888193437 tw15059333796779040318 tw8504399233957356818 tw17198737486830642945 tw5458679127720448568 tw17001859944030531211 tw1303771024333855561 tw8898897594686383431 tw15292631398678964832 tw8789840997077291048 tw9394321510222894802 tw16851226535892877795 tw6441973977470574031 tw1273989369493381119 tw4037139356210587257 tw4902018286465369188 tw11940320325644902655 tw15407631363104196366 tw7847306063437382087 tw9949606170191944057 tw13008559409694276760 tw5154006422866824622 tw2893709177608081827 tw16676062741389618683 tw10546990991247197008 tw15658028516002316984 tw7329867529334413651 tw5438114246636694568 tw7653288391453165491 tw2568517842802479638 tw2927818132081944186 tw7760676385140480656 tw13554519268317672462 tw9785436489340276536 tw17723972257854393918 tw8917907092745230909 tw7078157041324777109 tw9752959333347698936 tw5384316662371291282 tw17340763524792465557 tw9014638111908340953 tw18247302734027406645 tw108721934279675450 tw18198392534449165421 tw405407097051826598 tw13353040526910587390 tw10845880047069975864 tw14888478710307048286 tw8057864481479320079 tw3394744479995828616 tw160328248044888065 tw15746199161157768826 tw12406166320324201981 tw16747639126566903389 tw5077175283841720850 tw3653399095797158723 tw652822104103839806 tw10208726093394370017 tw12958007534850241457 tw3563227409493850843 tw18136870615978021174 tw12980349023685632882 tw4488277782798729023 tw12794563037851810458 tw15228397996244906235 tw6435275824915489136 tw13105525370600565383 tw1034876160602231943 tw13823869525408427235 tw14218413253032449735 tw9639226053352091944 tw6406787571622480100 tw7958646386793055398 tw3124440412250675869 tw4444453041773471310 tw11666441293122353240 tw697636321638866664 tw1308169779930373944 tw2447460979954508165 tw17037177905475072180 tw7784243291472616728 tw4831433645271192507 tw16483701627882091907 tw16771675003267711445 tw15643110200341172893 tw429528569954576175 tw5168829152608187771 tw5058730422404401702 tw14622063096652471846 tw12515722542225281719 tw8794905989949623487 tw17039010752019566207 tw7176838657184223165 tw12979352376675846795 tw8973821522489707981 tw17249064156769090607 tw13124820819567835467 tw14372150527404476253 tw5401842066960669453 tw16738529630558884548 tw13715018316672913189 tw11015983558322179565 tw15910147893975343003 tw3233035212987045929 tw12739834796427080446 tw16380038524895563609 tw4648604470312127364 tw1933199634136306145 tw2183689017335924266 tw3390760293336309292 tw4341811013551647060 tw122379032780347477 tw17194849868754858667 tw17087270943366145550 tw17589837034219420713 tw12142065836761508353 tw18032712947394184499 tw10748756461262078181 tw16546382037064157299 tw4242545665752846615 tw7099190885298171921 tw2481188384194246099 tw6764575185766437190 tw2583903563860369698 tw7578055772990604669 tw17603509962129182425 tw528178308504653522 tw2248670833598092575 tw3595715252920332415 tw8074324381137456966 tw6494978959910897243 tw12081918986909355658 tw9946531358982573600 tw14424698800305585988 tw8883761199413691371 tw7371386384070196344 tw11210262720172714514 tw5762448199640432203 tw15857829188910320825 tw12358166194503446780 tw9338939754871131300 tw16752660647606071105 tw15263134762902001348 tw9189379086522077712 tw732640898232661569 tw2406966147574800699 tw3177383197707646217 tw15403489739714538030 tw10039413260288410148 tw8870389393267972139 tw11121694641329962847 tw8319684456107888590 tw1915475926232534939 tw6394071668374871486 tw13983672917489224147 tw7995830989409883442 tw1819482090083819662 tw16283582279266257210 tw529602392063861574 tw11039876097924999577 tw18088934660123982786 tw17090847238078192667 tw13655781553310890685 tw1466970974929226525 tw16944591342743215281 tw12293545182859307307 tw14904358820537736722 tw16490918607688266798 tw12976597022325903276 tw9435442865031717881 tw11717116507766130546 tw2482804847698356267 tw1903042487377149879 tw9644661488423624694 tw14335599625567599572 tw12257523801785896265 tw2899833385291319730 tw16474927902752866838 tw2691782449317464518 tw3536584166826735759 tw4084672623100900747 tw3955175905304525478 tw6794664767968825463 tw4479914685949940844 tw14495087998659778637 tw12298673678542266232 tw1649898466674050432 tw9021940960904948872 tw4174461706807081611 tw8949217465767044470 tw7445771096171603655 tw14799470845075436607 tw17996045909207954478 tw6212761111571068450 tw14640187045410639996 tw16808723698043266991 tw13792912163491010474 tw56513577160233483 tw6555614097720218770 tw1703934174821514002 tw7672986894116133336 tw12349706621009709103 tw4517031006156195205 tw6993784074553975430 tw3545805882288805713 tw10525524311063663711 tw9399637747497874335 tw8167176051672267114 tw15190141639246182759 tw600864660413952572 tw17625539531502176378 tw10586036599594190967 tw207611780108385813 tw11127985541249638474 tw17800364550138162073 tw4354585882295561955 tw10283084695015136559 tw3962054612748303817 tw1863141174944379130 tw12794278878635070138 tw12241407346278756572 tw7355895810148673546 tw10440674303922208205 tw3311946523289839941 tw10223493514950710151 tw3131614650170125409 tw13158423824350353260 tw15380541083688359121 tw450168085085663667 tw2735738828368009509 tw929537018848324146 tw15399227033621782299 tw8007253591043450928 tw13896509204476666488 tw12189904010820090267 tw13498953882597708017 tw7356059758442197224 tw863871806198998790 tw1967567745629643119 tw3182390798273973748 tw10704292660463754420 tw3840384413763883886 tw11001404618035402621:True)
open PySem PySem.W PyProof.Rows
set_option maxRecDepth 100000 in
set_option maxHeartbeats 0 in
theorem PySem.Challenge.cw_optionwood_k70_folded_boughs_holds : PySem.Challenge.rw_optionwood_k70_folded_boughs.Holds := by
 w_on; o_law; k_head; (case hw => w_witness2)
 k_fill
 refine' Ow.walk (l := PySem.Challenge.rw_optionwood_k70_folded_boughs) (c27 := _) (P27 := _) rfl rfl (fun w h Y => PySem.W.km_in_of Y) ?K0 ?hT ?F
 case F =>
  intro w mg fa h KX G ad
  refine' Ow.all_mk KX G ad ?a1 ?a2 ?a3 ?a4 ?a5 ?a6 ?a7 ?a8 ?a9 ?a10 ?a11 ?a12 ?a13 ?a14 ?a15 ?a16 ?a17 ?a18 ?a19 ?a20 ?a21 ?a22 ?a23 ?a24 ?a25 ?a26 ?a27 ?e27 ?m27 ?n27 ?a28 ?a29 ?a30 ?a31 ?a32 ?a33 ?a34 ?a35 ?a36 ?a37 ?a38 ?a39 ?a40 ?a41 ?a42 ?a43 ?a44 ?a45 ?a46 ?a47 ?a48 ?a49 ?a50 ?a51 ?a52 ?z1 ?z2 ?z3 ?z4 ?z5 ?z6 ?z7 ?z8 ?z9 ?z10 ?z11 ?z12 ?z13 ?z14 ?z15 ?v1 ?v2 ?g_WoodError ?g_NoWood ?g_NoCount ?g_NoWares ?g_NoOffer ?g_Unlike ?g_NoText ?g_NoRow ?g_NoName ?xa_WoodError ?xb_WoodError ?xc_WoodError ?xd_WoodError ?xa_NoWood ?xb_NoWood ?xc_NoWood ?xd_NoWood ?xa_NoCount ?xb_NoCount ?xc_NoCount ?xd_NoCount ?xa_NoWares ?xb_NoWares ?xc_NoWares ?xd_NoWares ?xa_NoOffer ?xb_NoOffer ?xc_NoOffer ?xd_NoOffer ?xa_Unlike ?xb_Unlike ?xc_Unlike ?xd_Unlike ?xa_NoText ?xb_NoText ?xc_NoText ?xd_NoText ?xa_NoRow ?xb_NoRow ?xc_NoRow ?xd_NoRow ?xa_NoName ?xb_NoName ?xc_NoName ?xd_NoName ?k_NoWood_WoodError ?k_NoWood_NoWood ?k_NoWood_NoCount ?k_NoWood_NoWares ?k_NoWood_NoOffer ?k_NoWood_Unlike ?k_NoWood_NoText ?k_NoWood_NoRow ?k_NoWood_NoName ?v_NoWood ?s_NoWood_WoodError ?k_NoWares_WoodError ?k_NoWares_NoWood ?k_NoWares_NoCount ?k_NoWares_NoWares ?k_NoWares_NoOffer ?k_NoWares_Unlike ?k_NoWares_NoText ?k_NoWares_NoRow ?k_NoWares_NoName ?v_NoWares ?s_NoWares_WoodError
  all_goals try (refine' L2.dk ?a ?l ?c ?k; (case a => k_is); (case l => k_is); (case c => k_is); (case k => k_is))
  (case e27 => exact rfl)
  (case m27 => k_is)
  (case n27 => exact rfl)
  (case z1 => k_is)
  (case z2 => k_is)
  (case z3 => k_is)
  (case z4 => k_is)
  (case z5 => k_is)
  (case z6 => k_is)
  (case z7 => k_is)
  (case z8 => k_is)
  (case z9 => k_is)
  (case z10 => k_is)
  (case z11 => k_is)
  (case z12 => k_is)
  (case z13 => k_is)
  (case z14 => k_is)
  (case z15 => k_is)
  (case v1 => k_is)
  (case v2 => k_is)
  (case g_WoodError => k_is)
  (case g_NoWood => k_is)
  (case g_NoCount => k_is)
  (case g_NoWares => k_is)
  (case g_NoOffer => k_is)
  (case g_Unlike => k_is)
  (case g_NoText => k_is)
  (case g_NoRow => k_is)
  (case g_NoName => k_is)
  (case xa_WoodError => first | k_is | kernel_rfl)
  (case xb_WoodError => first | k_is | kernel_rfl)
  (case xc_WoodError => first | k_is | kernel_rfl)
  (case xd_WoodError => first | k_is | kernel_rfl)
  (case xa_NoWood => first | k_is | kernel_rfl)
  (case xb_NoWood => first | k_is | kernel_rfl)
  (case xc_NoWood => first | k_is | kernel_rfl)
  (case xd_NoWood => first | k_is | kernel_rfl)
  (case xa_NoCount => first | k_is | kernel_rfl)
  (case xb_NoCount => first | k_is | kernel_rfl)
  (case xc_NoCount => first | k_is | kernel_rfl)
  (case xd_NoCount => first | k_is | kernel_rfl)
  (case xa_NoWares => first | k_is | kernel_rfl)
  (case xb_NoWares => first | k_is | kernel_rfl)
  (case xc_NoWares => first | k_is | kernel_rfl)
  (case xd_NoWares => first | k_is | kernel_rfl)
  (case xa_NoOffer => first | k_is | kernel_rfl)
  (case xb_NoOffer => first | k_is | kernel_rfl)
  (case xc_NoOffer => first | k_is | kernel_rfl)
  (case xd_NoOffer => first | k_is | kernel_rfl)
  (case xa_Unlike => first | k_is | kernel_rfl)
  (case xb_Unlike => first | k_is | kernel_rfl)
  (case xc_Unlike => first | k_is | kernel_rfl)
  (case xd_Unlike => first | k_is | kernel_rfl)
  (case xa_NoText => first | k_is | kernel_rfl)
  (case xb_NoText => first | k_is | kernel_rfl)
  (case xc_NoText => first | k_is | kernel_rfl)
  (case xd_NoText => first | k_is | kernel_rfl)
  (case xa_NoRow => first | k_is | kernel_rfl)
  (case xb_NoRow => first | k_is | kernel_rfl)
  (case xc_NoRow => first | k_is | kernel_rfl)
  (case xd_NoRow => first | k_is | kernel_rfl)
  (case xa_NoName => first | k_is | kernel_rfl)
  (case xb_NoName => first | k_is | kernel_rfl)
  (case xc_NoName => first | k_is | kernel_rfl)
  (case xd_NoName => first | k_is | kernel_rfl)
  (case k_NoWood_WoodError => first | k_is | kernel_rfl)
  (case k_NoWood_NoWood => first | k_is | kernel_rfl)
  (case k_NoWood_NoCount => first | k_is | kernel_rfl)
  (case k_NoWood_NoWares => first | k_is | kernel_rfl)
  (case k_NoWood_NoOffer => first | k_is | kernel_rfl)
  (case k_NoWood_Unlike => first | k_is | kernel_rfl)
  (case k_NoWood_NoText => first | k_is | kernel_rfl)
  (case k_NoWood_NoRow => first | k_is | kernel_rfl)
  (case k_NoWood_NoName => first | k_is | kernel_rfl)
  (case v_NoWood => first | k_is | kernel_rfl)
  (case s_NoWood_WoodError => first | k_is | kernel_rfl)
  (case k_NoWares_WoodError => first | k_is | kernel_rfl)
  (case k_NoWares_NoWood => first | k_is | kernel_rfl)
  (case k_NoWares_NoCount => first | k_is | kernel_rfl)
  (case k_NoWares_NoWares => first | k_is | kernel_rfl)
  (case k_NoWares_NoOffer => first | k_is | kernel_rfl)
  (case k_NoWares_Unlike => first | k_is | kernel_rfl)
  (case k_NoWares_NoText => first | k_is | kernel_rfl)
  (case k_NoWares_NoRow => first | k_is | kernel_rfl)
  (case k_NoWares_NoName => first | k_is | kernel_rfl)
  (case v_NoWares => first | k_is | kernel_rfl)
  (case s_NoWares_WoodError => first | k_is | kernel_rfl)
 case K0 => intro w; kernel_rfl
 case hT =>
  intro w h Y q hq
  simp only [List.mem_cons, List.not_mem_nil, or_false] at hq
  subst hq
  exact ⟨PySem.W.codeHd_of_K (PySem.W.km_in_of Y) (by kernel_rfl), PySem.W.km_tabs_of Y _ (by decide)⟩
#print axioms PySem.Challenge.cw_optionwood_k70_folded_boughs_holds

