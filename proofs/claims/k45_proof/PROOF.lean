import PyProof.Rows.All
import Wide.All
import OpenK.AllK
import Wide.FinOn
import Lean
import PyProof.EqAt
import PyProof.EqKinds
import PyProof.TupleCall
import PySem.Challenge.RW_optionwood_k45_whole_why_holds_elsewhere
set_option Elab.async false
set_option linter.all false
set_option maxRecDepth 100000
set_option maxRecDepth 100000
set_option maxHeartbeats 4000000
namespace L2
open PySem PySem.Spec PyProof.Rows
abbrev Key:=Sum Int Str
def zwp:Key→Value→Bool
 |.inl k,v=>Value.isInt k v
 |.inr x,v=>Value.isStrOf x v
def zzf(w:World):Key→Int
 |.inl k=>hashInt k
 |.inr x=>hashStr w x
theorem zbw:∀{k:Key} {v:Value},zwp k v=true→(∃i t,k=Sum.inl i∧v=Value.int i t)∨(∃x t,k=Sum.inr x∧v=Value.str x t)
 |.inl i,v,h=>by
  obtain⟨t,e⟩:=Value.isInt_shape (k:=i) (v:=v) h
  exact .inl ⟨i,t,rfl,e⟩
 |.inr x,v,h=>by
  obtain⟨t,e⟩:=Value.isStrOf_shape (x:=x) (v:=v) h
  exact .inr ⟨x,t,rfl,e⟩
theorem zxp(a b:Int):decide ((Sum.inl a:Key)=Sum.inl b)=(a==b):=by
 by_cases e:a=b
 ·subst e;simp
 ·have h:¬(Sum.inl a:Key)=Sum.inl b:=fun q=>e (Sum.inl.inj q)
  rw[decide_eq_false h]
  exact(beq_eq_false_iff_ne.mpr e).symm
theorem zw1(a b:Str):decide ((Sum.inr a:Key)=Sum.inr b)=decide (a=b):=by
 by_cases e:a=b
 ·subst e;simp
 ·have h:¬(Sum.inr a:Key)=Sum.inr b:=fun q=>e (Sum.inr.inj q)
  rw[decide_eq_false h,decide_eq_false e]
theorem zw3(a:Int)(b:Str):decide ((Sum.inl a:Key)=Sum.inr b)=false:=decide_eq_false (fun q=>nomatch q)
theorem zxl(a:Str)(b:Int):decide ((Sum.inr a:Key)=Sum.inl b)=false:=decide_eq_false (fun q=>nomatch q)
def zra(prog:Program)(w:World):PySem.KeyKind prog w Key where
 is:=zwp
 hash:=zzf w
 inj:=fun v a b ha hb=>by
  rcases zbw ha with⟨i,t,rfl,rfl⟩|⟨x,t,rfl,rfl⟩
  ·rcases zbw hb with⟨j,u,rfl,e⟩|⟨y,u,rfl,e⟩
   ·injection e with e1 _;rw[e1]
   ·exact nomatch e
  ·rcases zbw hb with⟨j,u,rfl,e⟩|⟨y,u,rfl,e⟩
   ·exact nomatch e
   ·injection e with e1 _;rw[e1]
 byValue:=fun k v h=>by
  rcases zbw h with⟨i,t,rfl,rfl⟩|⟨x,t,rfl,rfl⟩<;>rfl
 pyHash:=fun hv h=>by
  rcases zbw hv with⟨i,t,rfl,rfl⟩|⟨x,t,rfl,rfl⟩
  ·exact wpAny_pyHash_int h
  ·exact wpAny_pyHash_str h
 eqBool:=fun hu hv h=>by
  rcases zbw hu with⟨i,t,rfl,rfl⟩|⟨x,t,rfl,rfl⟩
  ·rcases zbw hv with⟨j,u,rfl,rfl⟩|⟨y,u,rfl,rfl⟩
   ·rw[zxp] at h;exact wpAny_eqBool_int h
   ·rw[zw3] at h;exact SeqAt.EqAt.int_str i t y u _ _ _ _ h
  ·rcases zbw hv with⟨j,u,rfl,rfl⟩|⟨y,u,rfl,rfl⟩
   ·rw[zxl] at h;exact SeqAt.EqAt.str_int x t j u _ _ _ _ h
   ·rw[zw1] at h;exact wpAny_eqBool_str h
 «strs»:=fun k x t v h=>by
  rcases zbw h with⟨i,u,rfl,e⟩|⟨y,u,rfl,e⟩
  ·exact nomatch e
  ·injection e with e1 _
   subst e1
   cases v<;>rfl
inductive V where
 |non|bl (b:Bool)|int (i:Int)|str (x:Str)|byt (b:Array UInt8)|flt (b:UInt64)|ref (a:Addr)|ty (n:String)
 deriving DecidableEq
def RelV:V→Value→Prop
 |.non,u=>u=Value.none
 |.bl b,u=>u=Value.bool b
 |.int i,u=>∃t,u=Value.int i t
 |.str x,u=>∃t,u=Value.str x t
 |.byt b,u=>∃t,u=Value.bytes b t
 |.flt b,u=>∃t,u=Value.float b t
 |.ref a,u=>u=Value.ref a
 |.ty n,u=>u=Value.type n
abbrev Vals:List V→List Value→Prop:=Paired RelV
theorem Vals.length{xs:List V}{us:List Value}(r:Vals xs us):xs.length=us.length:=Paired.length r
theorem Vals.get:∀{xs:List V} {us:List Value} {i:Nat} {x:V},Vals xs us→xs[i]?=some x→∃u,us[i]?=some u∧RelV x u
 |_,_,_,_,.nil,e=>by simp at e
 |_,_,0,_,.cons r _,e=>by simp at e;subst e;exact⟨_,rfl,r⟩
 |_,_,i+1,x,.cons _ t,e=>by
  obtain⟨u,h1,h2⟩:=Vals.get (i:=i) (x:=x) t (by simpa using e)
  exact⟨u,by simpa using h1,h2⟩
theorem Vals.set{x:V}{u:Value}(r:RelV x u):∀{xs:List V} {us:List Value} (i:Nat),Vals xs us→Vals (xs.set i x) (us.set i u)
 |_,_,_,.nil=>.nil
 |_,_,0,.cons _ t=>.cons r t
 |_,_,i+1,.cons q t=>.cons q (Vals.set r i t)
theorem Vals.append:∀{xs ys:List V} {us ws:List Value},Vals xs us→Vals ys ws→Vals (xs++ys) (us++ws)
 |_,_,_,_,.nil,s=>s
 |_,_,_,_,.cons r t,s=>.cons r (Vals.append t s)
theorem Vals.take:∀{xs:List V} {us:List Value} (n:Nat),Vals xs us→Vals (xs.take n) (us.take n)
 |_,_,0,_=>.nil
 |_,_,_+1,.nil=>.nil
 |_,_,n+1,.cons r t=>.cons r (Vals.take n t)
theorem Vals.drop:∀{xs:List V} {us:List Value} (n:Nat),Vals xs us→Vals (xs.drop n) (us.drop n)
 |_,_,0,r=>r
 |_,_,_+1,.nil=>.nil
 |_,_,n+1,.cons _ t=>Vals.drop n t
def RelO:Option V→Option Value→Prop
 |some v,some u=>RelV v u
 |none,none=>True
 |_,_=>False
def KV{κ:Type}:List (κ×V)→List (κ×Value)→Prop:=Paired fun(p:κ×V)(q:κ×Value)=>p.1=q.1∧RelV p.2 q.2
def kV:Key→V
 |.inl i=>.int i
 |.inr x=>.str x
inductive HO where
 |lst (xs:List V)
 |tup (xs:List V)
 |dK (kvs:List (Key×V))|dT (kvs:List (List Key×V))
 |set (S:Int→Bool) (n:Nat)
 |ins (C dx:Addr) (fs:List (Str×V))
 |own (x:Addr)
 |xd (fs:List (Str×V))
 |met (f x:Addr)
 |rng (lo hi:Int)
 |frz (o:Obj) (u:HO)
 |tbl (ps:Array Value)
 |ext (φ:Heap→Prop)
abbrev Hp:=Addr→Option HO
def upd(H:Hp)(a:Addr)(o:HO):Hp:=fun b=>if b=a then some o else H b
theorem zab{H:Hp}{a:Addr}{o:HO}:upd H a o a=some o:=by unfold upd;rw[if_pos rfl]
theorem zal{H:Hp}{a b:Addr}{o:HO}(h:b≠a):upd H a o b=H b:=by unfold upd;rw[if_neg h]
theorem zpr{H:Hp}{a b:Addr}{o u:HO}(h:H a=some o)(h':H b=some u)(d:o≠u):a≠b:=by
 intro e;subst e;rw[h] at h';exact d (Option.some.inj h')
theorem zat{H:Hp}{a b:Addr}{o:HO}(h:H a=some o)(h':H b=none):a≠b:=by
 intro e;subst e;rw[h] at h';cases h'
section
variable (P : Program) (w : World)
def ObjOk(H:Hp)(h:Heap)(a:Addr):HO→Prop
 |.lst xs=>xs.length≤sizeLine∧∃(its:List Value)(n:Nat),Vals xs its∧h.get? a=some { cls:=.type "list",data:=.seq its.toArray n }
 |.tup xs=>xs.length≤sizeLine∧∃its:List Value,Vals xs its∧IsTup h a its.toArray
 |.dK kvs=>kvs.length≤sizeLine∧(a==sysModules)=false∧∃vs,KV kvs vs∧h.DictOf (zra P w) a vs
 |.dT kvs=>kvs.length≤sizeLine∧(a==sysModules)=false∧∃xs:List (List Key×Addr×Value),
   Paired (fun(p:List Key×V)(q:List Key×Addr×Value)=>p.1=q.1∧H q.2.1=some (.tup (p.1.map kV))∧RelV p.2 q.2.2) kvs xs ∧
   ∃o es ep,h.get? a=some o∧o.ExactDict∧o.data=.dict es ep∧es.toList=xs.map (entryOfKey (tupleKind (zra P w)))∧(xs.map (·.1)).Nodup
 |.set S n=>h.SetOf (intKind P w) a S n
 |.ins C dx fs=>H dx=some (.own a)∧fs.length≤1000∧dx≠a∧h.get? a=some (PySem.W.instObj C dx) ∧
   ∃mA,h.Ns1 dx mA∧(∀f,RelO (fs.lookup f) (mA f))∧PySem.Within mA (fs.map (·.1))
 |.own _=>∃o,h.get? a=some o
 |.xd fs=>∃mA,h.Ns1 a mA∧∀f,RelO (fs.lookup f) (mA f)
 |.rng lo hi=>∃t u v,h.get? a=some { cls:=.type "range",data:=.fields #[.int lo t,.int hi u,.int 1 v] }
 |.frz o u=>h.get? a=some o∧ObjOk H h a u
 |.tbl ps=>h.get? a=some { cls:=.none,data:=.fields ps }
 |.met f x=>h.get? a=some (PySem.W.methodObj (.ref f) (.ref x))
 |.ext φ=>φ h∧(∃o,h.get? a=some o)∧∀h1 h2:Heap,φ h1→(∀o,h1.get? a=some o→h2.get? a=some o)→φ h2
def HOk(H:Hp)(h:Heap):Prop:=∀a o,H a=some o→ObjOk P w H h a o
end
section
variable {P : Program} {w : World} {H H' : Hp} {h h' : Heap} {a : Addr} {o : HO}
theorem ObjOk.lt(x:ObjOk P w H h a o):a<h.objs.size:=by
 cases o with
 |lst xs=>obtain⟨_,_,_,_,e⟩:=x;exact Heap.lt_size e
 |tup xs=>obtain⟨_,_,_,p⟩:=x;exact p.lt
 |dK kvs=>obtain⟨_,_,_,_,o,_,_,e,_⟩:=x;exact Heap.lt_size e
 |dT kvs=>obtain⟨_,_,_,_,o,_,_,e,_⟩:=x;exact Heap.lt_size e
 |set S n=>obtain⟨o,_,_,_,e,_⟩:=x;exact Heap.lt_size e
 |ins C dx fs=>obtain⟨_,_,_,e,_⟩:=x;exact Heap.lt_size e
 |own y=>obtain⟨_,e⟩:=x;exact Heap.lt_size e
 |xd fs=>obtain⟨_,⟨_,_,_,e,_⟩,_⟩:=x;exact Heap.lt_size e
 |rng lo hi=>obtain⟨_,_,_,e⟩:=x;exact Heap.lt_size e
 |frz ob u=>obtain⟨e,_⟩:=x;exact Heap.lt_size e
 |tbl ps=>exact Heap.lt_size (show h.get? a=some _ from x)
 |met f y=>exact Heap.lt_size (show h.get? a=some _ from x)
 |ext φ=>obtain⟨_,⟨_,e⟩,_⟩:=x;exact Heap.lt_size e
theorem Paired.mapP{α β:Type}{F G:α→β→Prop}:∀{l₁:List α} {l₂:List β},Paired F l₁ l₂→(∀a b,F a b→G a b)→Paired G l₁ l₂
 |_,_,.nil,_=>.nil
 |_,_,.cons r t,f=>.cons (f _ _ r) (Paired.mapP t f)
theorem ObjOk.stay(x:ObjOk P w H h a o)(k:∀b u,(b=a∨H b=some (.own a))→h.get? b=some u→h'.get? b=some u)
  (ho:∀b,H b=some (.own a)→H' b=some (.own a)) (ht:∀b xs,H b=some (.tup xs)→H' b=some (.tup xs)):ObjOk P w H' h' a o:=by
 induction o with
 |lst xs=>obtain⟨z,aa,n,r,e⟩:=x;exact⟨z,aa,n,r,k _ _ (.inl rfl) e⟩
 |tup xs=>obtain⟨z,aa,r,ob,e,c⟩:=x;exact⟨z,aa,r,ob,k _ _ (.inl rfl) e,c⟩
 |dK kvs=>obtain⟨z,y,vs,r,ob,es,ep,e,c⟩:=x;exact⟨z,y,vs,r,ob,es,ep,k _ _ (.inl rfl) e,c⟩
 |dT kvs=>
  obtain⟨z,y,xs,r,ob,es,ep,e,c⟩:=x
  exact⟨z,y,xs,Paired.mapP r fun p q z=>⟨z.1,ht _ _ z.2.1,z.2.2⟩,ob,es,ep,k _ _ (.inl rfl) e,c⟩
 |set S n=>obtain⟨ob,es,ep,t,e,c⟩:=x;exact⟨ob,es,ep,t,k _ _ (.inl rfl) e,c⟩
 |ins C dx fs=>
  obtain⟨d,z,ne,e,mA,⟨od,es,ep,e2,c⟩,r⟩:=x
  exact⟨ho _ d,z,ne,k _ _ (.inl rfl) e,mA,⟨od,es,ep,k _ _ (.inr d) e2,c⟩,r⟩
 |own y=>obtain⟨ob,e⟩:=x;exact⟨ob,k _ _ (.inl rfl) e⟩
 |xd fs=>obtain⟨mA,⟨od,es,ep,e,c⟩,r⟩:=x;exact⟨mA,⟨od,es,ep,k _ _ (.inl rfl) e,c⟩,r⟩
 |rng lo hi=>obtain⟨t,u,v,e⟩:=x;exact⟨t,u,v,k _ _ (.inl rfl) e⟩
 |frz ob u ih=>obtain⟨e,q⟩:=x;exact⟨k _ _ (.inl rfl) e,ih q⟩
 |tbl ps=>
  have e:h.get? a=some { cls:=.none,data:=.fields ps }:=x
  show h'.get? a=some { cls:=.none,data:=.fields ps }
  exact k a _ (.inl rfl) e
 |met f y=>
  have e:h.get? a=some (PySem.W.methodObj (.ref f) (.ref y)):=x
  show h'.get? a=some (PySem.W.methodObj (.ref f) (.ref y))
  exact k a _ (.inl rfl) e
 |ext φ=>obtain⟨p,⟨o,e⟩,st⟩:=x;exact⟨st _ _ p fun o q=>k _ _ (.inl rfl) q,⟨o,k _ _ (.inl rfl) e⟩,st⟩
theorem HOk.lt(x:HOk P w H h)(e:H a=some o):a<h.objs.size:=(x a o e).lt
theorem HOk.fresh(x:HOk P w H h)(e:h.objs.size≤a):H a=none:=by
 cases q:H a with
 |none=>rfl
 |some u=>exact absurd (Nat.lt_of_lt_of_le (x.lt q) e) (Nat.lt_irrefl _)
theorem HOk.kept(x:HOk P w H h)(k:∀b u,h.get? b=some u→h'.get? b=some u):HOk P w H h':=fun a o e=>
 (x a o e).stay (fun b u _ q=>k b u q) (fun _ q=>q) fun _ _ q=>q
theorem HOk.laid(x:HOk P w H h)(k:∀b u,h.get? b=some u→h'.get? b=some u)(hp:h.objs.size≤a)(new:ObjOk P w (upd H a o) h' a o):HOk P w (upd H a o) h':=fun b u e=>by
 have hn:=x.fresh hp
 by_cases hb:b=a
 ·subst hb;rw[zab] at e;cases e;exact new
 ·rw[zal hb] at e
  exact(x b u e).stay (fun c v _ q=>k c v q) (fun c q=>by rw[zal (zat q hn)];exact q) fun c xs q=>by rw[zal (zat q hn)];exact q
end
def Rd(H:Hp)(a:Addr)(u:HO):Prop:=H a=some u∨∃o,H a=some (.frz o u)
theorem Rd.ok{P:Program}{w:World}{H:Hp}{h:Heap}{a:Addr}{u:HO}(r:Rd H a u)(x:HOk P w H h):ObjOk P w H h a u:=by
 rcases r with r|⟨o,r⟩
 ·exact x a u r
 ·obtain⟨_,q⟩:=x a _ r
  exact q
def Mut:Option HO→Prop
 |some (.lst _)=>True
 |some (.dK _)=>True
 |some (.dT _)=>True
 |some (.set _ _)=>True
 |some (.ins _ _ _)=>True
 |some (.ext _)=>True
 |_=>False
section
variable {P : Program} {w : World} {H : Hp} {h h' : Heap} {x e : Addr} {o' : HO}
theorem HOk.write(ok:HOk P w H h)(mu:Mut (H x))(he:e=x∨H e=some (.own x))(k:∀b u,b≠e→h.get? b=some u→h'.get? b=some u)(heo:∃u,h'.get? e=some u)
  (new:ObjOk P w (upd H x o') h' x o'):HOk P w (upd H x o') h':=fun b u q=>by
 have nown:∀c y,H c=some (.own y)→c≠x:=fun c y r z=>by subst z;rw[r] at mu;exact mu
 have ntup:∀c xs,H c=some (.tup xs)→c≠x:=fun c xs r z=>by subst z;rw[r] at mu;exact mu
 by_cases hb:b=x
 ·subst hb;rw[zab] at q;cases q;exact new
 ·rw[zal hb] at q
  by_cases hbe:b=e
  ·have q':H b=some (.own x):=by
    rcases he with z|z
    ·exact absurd (hbe.trans z) hb
    ·rw[hbe];exact z
   rw[q] at q';cases q'
   obtain⟨v,hv⟩:=heo
   exact⟨v,by rw[hbe];exact hv⟩
  ·refine(ok b u q).stay (fun c v hc r=>k c v ?_ r) (fun c r=>by rw[zal (nown c b r)];exact r) fun c xs r=>by rw[zal (ntup c xs r)];exact r
   rcases hc with rfl|hc
   ·exact hbe
   ·rintro rfl
    rcases he with z|z
    ·exact nown c b hc z
    ·rw[hc] at z;cases z;exact hb rfl
end
structure Un(fs ex:List Addr)(H H':Hp)(h h':Heap):Prop where
 keep:∀b o,h.get? b=some o→H b=none→b∉fs→b∉ex→h'.get? b=some o
 slot:∀b o,h.get? b=some o→H b=none→b∈fs→b∉ex→∃sl,h'.get? b=some { o with slots:=sl }
 free:∀b o,h.get? b=some o→H b=none→b∉ex→H' b=none
 there:∀b o,h.get? b=some o→b∉ex→∃o',h'.get? b=some o'
 tups:∀b xs,H b=some (.tup xs)→H' b=some (.tup xs)
 frzs:∀b o u,H b=some (.frz o u)→H' b=some (.frz o u)
 tbls:∀b ps,H b=some (.tbl ps)→∃more,H' b=some (.tbl (ps++more))
section
variable {fs fs' ex ex' : List Addr} {H H1 H2 : Hp} {h h1 h2 h' : Heap} {a x e : Addr} {o : HO}
theorem Un.any(u:Un fs ex H H1 h h1){b:Addr}{ob:Obj}(q:h.get? b=some ob)(n:H b=none)(hx:b∉ex):∃sl,h1.get? b=some { ob with slots:=sl }:=by
 by_cases hb:b∈fs
 ·exact u.slot b ob q n hb hx
 ·exact⟨ob.slots,u.keep b ob q n hb hx⟩
theorem Un.kept(k:∀b u,h.get? b=some u→h'.get? b=some u):Un fs ex H H h h':=
 ⟨fun b ob q _ _ _=>k b ob q,fun b ob q _ _ _=>⟨ob.slots,k b ob q⟩,fun _ _ _ n _=>n,fun b ob q _=>⟨ob,k b ob q⟩,fun _ _ q=>q,fun _ _ _ q=>q,fun _ ps q=>⟨#[],by rw[q];simp⟩⟩
theorem Un.refl:Un fs ex H H h h:=Un.kept fun _ _ q=>q
theorem Un.laid(k:∀b u,h.get? b=some u→h'.get? b=some u)(hp:h.objs.size≤a)(hn:H a=none):Un fs ex H (upd H a o) h h' where
 keep:=fun b u q _ _ _=>k b u q
 slot:=fun b u q _ _ _=>⟨u.slots,k b u q⟩
 free:=fun b u q n _=>by rw[zal (Nat.ne_of_lt (Nat.lt_of_lt_of_le (Heap.lt_size q) hp))];exact n
 there:=fun b u q _=>⟨u,k b u q⟩
 tups:=fun b xs q=>by rw[zal (zat q hn)];exact q
 frzs:=fun b u xs q=>by rw[zal (zat q hn)];exact q
 tbls:=fun b ps q=>⟨#[],by rw[zal (zat q hn),q];simp⟩
theorem Un.write(mu:Mut (H x))(he:e=x∨H e=some (.own x))(k:∀b u,b≠e→h.get? b=some u→h'.get? b=some u)(heo:∃u,h'.get? e=some u):Un fs ex H (upd H x o) h h':=by
 have hx:∀b,H b=none→b≠x:=fun b n z=>by subst z;rw[n] at mu;exact mu
 have hb:∀b,H b=none→b≠e:=fun b n z=>by
  subst z
  rcases he with r|r
  ·exact hx b n r
  ·rw[n] at r;cases r
 have hm:∀b u,H b=some u→¬Mut (some u)→b≠x:=fun b u q nm z=>by subst z;rw[q] at mu;exact nm mu
 refine⟨fun b u q n _ _=>k b u (hb b n) q,fun b u q n _ _=>⟨u.slots,k b u (hb b n) q⟩,fun b u q n _=>by rw[zal (hx b n)];exact n,fun b u q _=>?_,
  fun b xs q=>by rw[zal (hm b _ q fun z=>z)];exact q,fun b u xs q=>by rw[zal (hm b _ q fun z=>z)];exact q,fun b ps q=>⟨#[],by rw[zal (hm b _ q fun z=>z),q];simp⟩⟩
 by_cases aa:b=e
 ·subst aa;exact heo
 ·exact⟨u,k b u aa q⟩
end
def trk(h:Heap)(H:Hp):List Addr:=(List.range h.objs.size).filter fun a=>(H a).isSome
def zk8(h:Heap)(H:Hp):Heap:=PySem.W.hideAll h (trk h H)
theorem zr0(h:Heap)(H:Hp):(zk8 h H).objs.size=h.objs.size:=PySem.W.hideAll_size _ _
theorem zuz{h:Heap}{H:Hp}{b:Addr}{o:Obj}(e:h.get? b=some o)(n:H b=none):(zk8 h H).get? b=some o:=
 PySem.W.hideAll_get _ e fun hm=>by
  have q:(H b).isSome=true:=(List.mem_filter.mp hm).2
  rw[n] at q;simp at q
theorem zvj{h:Heap}{H:Hp}{b:Addr}{o:Obj}(e:(zk8 h H).get? b=some o):h.get? b=some o∧H b=none:=by
 have e':h.get? b=some o:=PySem.W.of_hideAll (trk h H) e
 refine⟨e',?_⟩
 cases q:H b with
 |none=>rfl
 |some x=>
  have hm:b∈trk h H:=List.mem_filter.mpr ⟨List.mem_range.mpr (Heap.lt_size e'),by simp[q]⟩
  have z:(zk8 h H).get? b=none:=PySem.W.hideAll_none (trk h H) hm
  rw[z] at e;cases e
structure Mod(K:PySem.W.Frag)(mg:Str→Option Value)(base:Heap):Prop where
 kin:K.In base
 glob:base.Ns mainGlobals mg
 blt:∃mb,base.Ns builtinsNs mb∧∀x:Str,x ≠ "__name__" → mb x=bootBuiltins x
 nolimit:base.NoLimit
structure Cx where
 prog:Program
 w:World
 K:PySem.W.Frag
 mg:Str→Option Value
 base:Heap
 A:Around
 N:List Str
 s₀:Shared
 H₀:Hp
 env:Env
 outer:List Env
 stack:List Env
 ex:List Addr
 fn:Str→Bool
 calm:Bool
 pn:List (Addr×Obj)
 xe:Value→Shared→Prop
def frs(l:List Env):List Addr:=l.filterMap (·.frame)
abbrev Cx.fs(X:Cx):List Addr:=frs X.outer
def Vis(sc:Scope)(x:Str):Prop:=sc.names.lookup x=some .local∨sc.names.lookup x=some .cell∨sc.names.lookup x=some .free
def Loc(sc:Scope)(x:Str):Prop:=sc.names.lookup x=some .local∨sc.names.lookup x=some .cell
def zzk(env:Env)(h:Heap)(m:Str→Option Value)(x:Str)(u:Value):Prop:=
 (env.kindOf x=some .local∧m x=some u)∨((env.kindOf x=some .cell∨env.kindOf x=some .free)∧∃c,env.cells.lookup x=some c∧h.IsCell c (some u))
structure Cx.Ok(X:Cx):Prop where
 mod:Mod X.K X.mg X.base
 kind:X.env.scope.kind=.function
 glob:X.env.globals=mainGlobals
 blt:X.env.builtins=builtinsNs
 above:X.s₀.heap.objs.size≤X.env.locals
 inj:∀x y c,X.env.cells.lookup x=some c→X.env.cells.lookup y=some c→x=y
 has:∀x,(X.env.kindOf x=some .cell∨X.env.kindOf x=some .free)→∃c,X.env.cells.lookup x=some c
 cab:∀x c,X.fn x=true→X.env.cells.lookup x=some c→X.s₀.heap.objs.size≤c
 hd:X.calm=true→X.A.handled=none
 frames:X.A.frames=some X.stack
 stk:X.stack=X.outer∨(X.stack=X.env::X.outer∧X.env.frame=some X.env.locals)
 exf:∀b∈X.ex,b≠X.env.locals∧∀x c,X.env.cells.lookup x=some c→c≠b
 bs:∀b o,X.base.get? b=some o→X.s₀.heap.get? b=some o∧X.H₀ b=none
 bsz:X.base.objs.size≤X.s₀.heap.objs.size
 noex:∀b o,X.base.get? b=some o→b∉X.ex
 exfs:∀b∈X.ex,b∉X.fs
 funs:X.s₀.heap.FunFrames X.base X.outer
 frf:∀b∈X.fs,X.H₀ b=none
structure Inv(X:Cx)(pins:List (Addr×Obj))(σ:List (Option V))(H:Hp)(s:Shared):Prop where
 ok:X.Ok
 os:s.os=X.s₀.os
 bare:AllBare s.gens
 base:Un X.fs X.ex X.H₀ H X.s₀.heap s.heap
 loc:∃m,s.heap.Ns X.env.locals m∧∀(i:Nat)(x:Str)(v:V),X.N[i]?=some x→σ[i]?=some (some v)→Vis X.env.scope x→∃u,RelV v u∧zzk X.env s.heap m x u
 cell:∀x c,X.env.cells.lookup x=some c→∃v,s.heap.IsCell c v
 free:H X.env.locals=none
 freeC:∀x c,X.env.cells.lookup x=some c→H c=none
 pin:∀p∈X.pn++pins,s.heap.get? p.1=some p.2∧H p.1=none∧p.1≠X.env.locals∧p.1∉X.fs∧∀v,p.2.data≠.cell v
 hok:HOk X.prog X.w H s.heap
 len:σ.length=X.N.length
section
variable {X : Cx} {pins : List (Addr × Obj)} {σ : List (Option V)} {H H' : Hp} {s : Shared} {h' : Heap}
theorem Cx.Ok.nofr(ok:X.Ok){b:Addr}{o:Obj}(e:X.base.get? b=some o):b∉X.fs:=fun hb=>by
 have:=(ok.funs.mem hb).1
 rw[e] at this;cases this
theorem Inv.bs(I:Inv X pins σ H s):∀b o,X.base.get? b=some o→s.heap.get? b=some o∧H b=none:=fun b o e=>
 ⟨I.base.keep b o (I.ok.bs b o e).1 (I.ok.bs b o e).2 (I.ok.nofr e) (I.ok.noex b o e),I.base.free b o (I.ok.bs b o e).1 (I.ok.bs b o e).2 (I.ok.noex b o e)⟩
theorem Inv.bk(I:Inv X pins σ H s):∀b o,X.base.get? b=some o→s.heap.get? b=some o:=fun b o e=>(I.bs b o e).1
theorem Inv.mod(I:Inv X pins σ H s):Mod X.K X.mg X.base:=I.ok.mod
theorem Inv.kIn(I:Inv X pins σ H s):X.K.In s.heap:=I.ok.mod.kin.keeps I.bk
theorem Inv.lt(I:Inv X pins σ H s):X.env.locals<s.heap.objs.size:=let ⟨_,hn,_⟩:=I.loc;hn.lt
theorem Inv.sz(I:Inv X pins σ H s):X.s₀.heap.objs.size≤s.heap.objs.size:=Nat.le_trans I.ok.above (Nat.le_of_lt I.lt)
theorem Inv.nofs(I:Inv X pins σ H s){a:Addr}(h:s.heap.objs.size≤a):a∉X.fs:=fun hb=>by
 obtain⟨_,o,ho,_⟩:=I.ok.funs.mem hb
 exact absurd (Nat.lt_of_lt_of_le (Heap.lt_size ho) (Nat.le_trans I.sz h)) (Nat.lt_irrefl _)
theorem Inv.cne(I:Inv X pins σ H s):∀x c,X.env.cells.lookup x=some c→c≠X.env.locals:=fun x c e z=>by
 obtain⟨v,o,ho,hd⟩:=I.cell x c e
 obtain⟨m,⟨o',es,ep,ho',hd',_⟩,_⟩:=I.loc
 rw[z,ho'] at ho;cases ho;rw[hd'] at hd;cases hd
theorem Inv.funs(I:Inv X pins σ H s):s.heap.FunFrames X.base X.outer:=by
 have all:∀(l:List Env),(∀b∈frs l,b∈X.fs)→X.s₀.heap.FunFrames X.base l→s.heap.FunFrames X.base l:=by
  intro l
  induction l with
  |nil=>intro _ _;trivial
  |cons env r ih=>
   intro hs hl
   obtain⟨hk,⟨L,o,hf,hn,ho,hd⟩,hr⟩:=hl
   have hL:L∈X.fs:=hs L (by unfold frs;rw[List.filterMap_cons,hf];exact List.mem_cons_self)
   obtain⟨sl,e⟩:=I.base.slot L o ho (I.ok.frf L hL) hL fun z=>I.ok.exfs L z hL
   exact⟨hk,⟨L,_,hf,hn,e,hd⟩,ih (fun b hb=>hs b (by unfold frs;rw[List.filterMap_cons,hf];exact List.mem_cons_of_mem _ hb)) hr⟩
 exact all X.outer (fun _ hb=>hb) I.ok.funs
theorem Inv.stack(I:Inv X pins σ H s):s.heap.FunFrames X.base X.stack:=by
 rcases I.ok.stk with e|⟨e,hf⟩
 ·rw[e];exact I.funs
 ·rw[e]
  obtain⟨m,hn,_⟩:=I.loc
  refine .cons (by rw[I.ok.kind];decide) hf hn ?_ I.funs
  exact Heap.get?_none_of_le (Nat.le_trans I.ok.bsz I.ok.above)
theorem Inv.stkSub(I:Inv X pins σ H s):∀b∈frs X.stack,b∈X.env.locals::X.fs:=fun b hb=>by
 rcases I.ok.stk with e|⟨e,hf⟩
 ·rw[e] at hb;exact List.mem_cons_of_mem _ hb
 ·rw[e] at hb
  unfold frs at hb
  rw[List.filterMap_cons,hf] at hb
  exact hb
theorem Inv.stkFree(I:Inv X pins σ H s):∀b∈frs X.stack,H b=none:=fun b hb=>by
 rcases List.mem_cons.mp (I.stkSub b hb) with e|hb
 ·rw[e];exact I.free
 ·obtain⟨_,o,ho,_⟩:=I.ok.funs.mem hb
  exact I.base.free b o ho (I.ok.frf b hb) fun z=>I.ok.exfs b z hb
theorem Inv.step{g':Array GenState}{t':Nat}{d':Drawn}{ch:List Addr}(I:Inv X pins σ H s)
  (hch:∀b∈ch,(b∈X.ex∨X.s₀.heap.objs.size≤b)∧b≠X.env.locals∧(∀x c,X.env.cells.lookup x=some c→c≠b)∧∀p∈X.pn++pins,p.1≠b)
  (keep:∀b o,b≠X.env.locals→b∉X.fs→b∉ch→s.heap.get? b=some o→H b=none→h'.get? b=some o)
  (slot:∀b o,b≠X.env.locals→b∈X.fs→b∉ch→s.heap.get? b=some o→H b=none→∃sl,h'.get? b=some { o with slots:=sl }) (free:∀b o,b∉ch→s.heap.get? b=some o→H b=none→H' b=none)
  (there:∀b o,b∉ch→s.heap.get? b=some o→∃o',h'.get? b=some o')
  (tups:∀b xs,H b=some (.tup xs)→H' b=some (.tup xs)) (frzs:∀b o u,H b=some (.frz o u)→H' b=some (.frz o u)) (tbls:∀b ps,H b=some (.tbl ps)→∃more,H' b=some (.tbl (ps++more)))
  (ns:∀m,s.heap.Ns X.env.locals m→h'.Ns X.env.locals m) (hok:HOk X.prog X.w H' h') (hg:AllBare g'):
  Inv X pins σ H' { s with heap:=h',gens:=g',drawn:=d',toks:=t' }:=by
 have af:∀b o,X.s₀.heap.get? b=some o→b≠X.env.locals:=fun b o e=>Nat.ne_of_lt (Nat.lt_of_lt_of_le (Heap.lt_size e) I.ok.above)
 have ae:∀b o,X.s₀.heap.get? b=some o→b∉X.ex→b∉ch:=fun b o e hx hb=>by
  rcases(hch b hb).1 with z|z
  ·exact hx z
  ·exact absurd (Nat.lt_of_lt_of_le (Heap.lt_size e) z) (Nat.lt_irrefl _)
 have aa:∀x c,X.env.cells.lookup x=some c→∀v,s.heap.IsCell c v→h'.IsCell c v:=fun x c e v ⟨o,ho,hd⟩=>by
  have ad:c∉ch:=fun z=>(hch c z).2.2.1 x c e rfl
  by_cases hc:c∈X.fs
  ·obtain⟨sl,q⟩:=slot c o (I.cne x c e) hc ad ho (I.freeC x c e)
   exact⟨_,q,hd⟩
  ·exact⟨o,keep c o (I.cne x c e) hc ad ho (I.freeC x c e),hd⟩
 refine⟨I.ok,I.os,hg,⟨fun b o e n hb hx=>?_,fun b o e n hb hx=>?_,fun b o e n hx=>?_,fun b o e hx=>?_,fun b xs e=>tups b xs (I.base.tups b xs e),fun b o xs e=>frzs b o xs (I.base.frzs b o xs e),fun b ps e=>?_⟩,?_,fun x c e=>?_,?_,fun x c e=>?_,fun p hp=>?_,hok,I.len⟩
 ·exact keep b o (af b o e) hb (ae b o e hx) (I.base.keep b o e n hb hx) (I.base.free b o e n hx)
 ·obtain⟨sl,e1⟩:=I.base.slot b o e n hb hx
  obtain⟨ag,e2⟩:=slot b _ (af b o e) hb (ae b o e hx) e1 (I.base.free b o e n hx)
  exact⟨ag,e2⟩
 ·obtain⟨o',e1⟩:=I.base.there b o e hx
  exact free b o' (ae b o e hx) e1 (I.base.free b o e n hx)
 ·obtain⟨o',e1⟩:=I.base.there b o e hx
  exact there b o' (ae b o e hx) e1
 ·obtain⟨m1,e1⟩:=I.base.tbls b ps e
  obtain⟨m2,e2⟩:=tbls b _ e1
  exact⟨m1++m2,by rw[e2,Array.append_assoc]⟩
 ·obtain⟨m,hn,hl⟩:=I.loc
  refine⟨m,ns m hn,fun i x v e1 e2 e3=>?_⟩
  obtain⟨u,r,l⟩:=hl i x v e1 e2 e3
  refine⟨u,r,?_⟩
  rcases l with l|⟨k,c,e,z⟩
  ·exact .inl l
  ·exact .inr ⟨k,c,e,aa x c e _ z⟩
 ·obtain⟨v,z⟩:=I.cell x c e
  exact⟨v,aa x c e v z⟩
 ·obtain⟨m,⟨o,_,_,ho,_⟩,_⟩:=I.loc
  exact free _ o (fun z=>(hch _ z).2.1 rfl) ho I.free
 ·obtain⟨v,o,ho,hd⟩:=I.cell x c e
  exact free c o (fun z=>(hch c z).2.2.1 x c e rfl) ho (I.freeC x c e)
 ·obtain⟨e,n,ne,nf,d⟩:=I.pin p hp
  have ad:p.1∉ch:=fun z=>(hch p.1 z).2.2.2 p hp rfl
  exact⟨keep p.1 p.2 ne nf ad e n,free p.1 p.2 ad e n,ne,nf,d⟩
theorem Inv.un{t':Nat}(I:Inv X pins σ H s)(u:Un X.fs [] H H' s.heap h')(hok:HOk X.prog X.w H' h'):Inv X pins σ H' { s with heap:=h',toks:=t' }:=by
 obtain⟨m,⟨o,es,ep,ho,r⟩,_⟩:=id I.loc
 obtain⟨sl,hL⟩:=u.any ho I.free (by simp)
 exact I.step (g':=s.gens) (d':=s.drawn) (ch:=[]) (fun _ z=>nomatch z) (fun b o _ hb _ e n=>u.keep b o e n hb (by simp)) (fun b o _ hb _ e n=>u.slot b o e n hb (by simp)) (fun b o _ e n=>u.free b o e n (by simp)) (fun b o _ e=>u.there b o e (by simp)) u.tups u.frzs u.tbls (fun m' hm=>by
  obtain⟨o',ae,ad,aa,r'⟩:=hm
  rw[ho] at aa;cases aa
  exact⟨_,ae,ad,hL,r'⟩) hok I.bare
theorem Inv.call{g':Array GenState}{t':Nat}{d':Drawn}{ch:List Addr}(I:Inv X pins σ H s)(u:Un (frs X.stack) ch H H' s.heap h')(hok:HOk X.prog X.w H' h')(hg:AllBare g')
  (hch:∀b∈ch,(b∈X.ex∨X.s₀.heap.objs.size≤b)∧b≠X.env.locals∧(∀x c,X.env.cells.lookup x=some c→c≠b)∧∀p∈X.pn++pins,p.1≠b):
  Inv X pins σ H' { s with heap:=h',gens:=g',drawn:=d',toks:=t' }:=by
 obtain⟨m,⟨o,es,ep,ho,r⟩,_⟩:=id I.loc
 obtain⟨sl,hL⟩:=u.any ho I.free fun z=>(hch _ z).2.1 rfl
 exact I.step (ch:=ch) hch (fun b o hL hb hc e n=>u.keep b o e n (fun z=>(List.mem_cons.mp (I.stkSub b z)).elim hL hb) hc) (fun b o _ _ hc e n=>u.any e n hc) (fun b o hc e n=>u.free b o e n hc) (fun b o hc e=>u.there b o e hc) u.tups u.frzs u.tbls (fun m' hm=>by
  obtain⟨o',ae,ad,aa,r'⟩:=hm
  rw[ho] at aa;cases aa
  exact⟨_,ae,ad,hL,r'⟩) hok hg
theorem Inv.turned{t':Nat}{it:Addr}(I:Inv X pins σ H s)(k:∀b o,b≠it→s.heap.get? b=some o→h'.get? b=some o)(hn:H it=none)(hL:it≠X.env.locals)
  (h1:it∈X.ex∨X.s₀.heap.objs.size≤it) (h2:∀x c,X.env.cells.lookup x=some c→c≠it) (h3:∀p∈X.pn++pins,p.1≠it):Inv X pins σ H { s with heap:=h',toks:=t' }:=by
 have aa:∀b u,H b=some u→b≠it:=fun b u e z=>by rw[z,hn] at e;cases e
 refine I.step (g':=s.gens) (d':=s.drawn) (ch:=[it]) (fun b hb=>?_) (fun b o _ _ hc e _=>k b o (fun z=>hc (by simp[z])) e) (fun b o _ _ hc e _=>⟨o.slots,k b o (fun z=>hc (by simp[z])) e⟩) (fun _ _ _ _ n=>n)
  (fun b o hc e=>⟨o,k b o (fun z=>hc (by simp[z])) e⟩) (fun _ _ e=>e) (fun _ _ _ e=>e) (fun b ps e=>⟨#[],by rw[e];simp⟩) (fun m hm=>?_) (fun b u e=>?_) I.bare
 ·have e:b=it:=by simpa using hb
  subst e
  exact⟨h1,hL,h2,h3⟩
 ·obtain⟨o,es,ep,ho,r⟩:=hm
  exact⟨o,es,ep,k _ o (Ne.symm hL) ho,r⟩
 ·refine(I.hok b u e).stay (fun c v hc q=>k c v ?_ q) (fun _ q=>q) fun _ _ q=>q
  rcases hc with z|z
  ·rw[z];exact aa b u e
  ·exact aa c _ z
theorem Inv.tok(I:Inv X pins σ H s)(t:Nat):Inv X pins σ H { s with toks:=t }:=I.un (h':=s.heap) (t':=t) Un.refl I.hok
theorem Inv.kept{t':Nat}(I:Inv X pins σ H s)(k:∀b u,s.heap.get? b=some u→h'.get? b=some u):Inv X pins σ H { s with heap:=h',toks:=t' }:=I.un (Un.kept k) (I.hok.kept k)
theorem Inv.laid{a:Addr}{o:HO}{t':Nat}(I:Inv X pins σ H s)(k:∀b u,s.heap.get? b=some u→h'.get? b=some u)(hp:s.heap.objs.size≤a)(new:ObjOk X.prog X.w (upd H a o) h' a o):
  Inv X pins σ (upd H a o) { s with heap:=h',toks:=t' }:=I.un (Un.laid k hp (I.hok.fresh hp)) (I.hok.laid k hp new)
theorem Inv.write{x e:Addr}{o:HO}{t':Nat}(I:Inv X pins σ H s)(mu:Mut (H x))(he:e=x∨H e=some (.own x))(k:∀b u,b≠e→s.heap.get? b=some u→h'.get? b=some u)(heo:∃u,h'.get? e=some u)
  (new:ObjOk X.prog X.w (upd H x o) h' x o):Inv X pins σ (upd H x o) { s with heap:=h',toks:=t' }:=I.un (Un.write mu he k heo) (I.hok.write mu he k heo new)
theorem Inv.pins_of{pins':List (Addr×Obj)}(I:Inv X pins σ H s)(h:∀p∈pins',s.heap.get? p.1=some p.2∧H p.1=none∧p.1≠X.env.locals∧p.1∉X.fs∧∀v,p.2.data≠.cell v):Inv X pins' σ H s:=
 ⟨I.ok,I.os,I.bare,I.base,I.loc,I.cell,I.free,I.freeC,fun p hp=>(List.mem_append.mp hp).elim (fun z=>I.pin p (List.mem_append_left _ z)) (h p),I.hok,I.len⟩
theorem zox{N:List Str}(hN:N.Nodup){i j:Nat}{x:Str}(a:N[i]?=some x)(b:N[j]?=some x):i=j:=by
 obtain⟨h1,e1⟩:=List.getElem?_eq_some_iff.mp a
 obtain⟨h2,e2⟩:=List.getElem?_eq_some_iff.mp b
 exact(List.getElem_inj hN).mp (e1.trans e2.symm)
theorem zr4{M:Model}{A:Around}{E:Value→Shared→Prop}{i:Nat}{x:Str}{v:V}{u:Value}{Q:Unit→Shared→Prop}(I:Inv X pins σ H s)(hN:X.N.Nodup)(hi:X.N[i]?=some x)(hx:Loc X.env.scope x)(r:RelV v u)
  (h:∀s',Inv X pins (σ.set i (some v)) H s'→(∃a,Heap.SameBut a s.heap s'.heap∧(a=X.env.locals∨X.env.cells.lookup x=some a))→Q () s') (hf:X.fn x=true∨X.env.scope.names.lookup x=some .local:=by first|exact .inl rfl|exact .inr rfl|assumption):wpAny M A (storeName X.env x u) Q E s:=by
 obtain⟨m,hn,hl⟩:=id I.loc
 have af:(X.env.scope.kind==.class||(X.env.scope.kind==.module&&X.env.locals !=X.env.globals))=false:=by rw[I.ok.kind];rfl
 have hiσ:i<σ.length:=by rw[I.len];exact(List.getElem?_eq_some_iff.mp hi).1
 have cne:=I.cne
 have aa:∀{a:Addr} {h':Heap},(∃o,s.heap.get? a=some o∧H a=none)→Heap.SameBut a s.heap h'→HOk X.prog X.w H h':=fun {a h'} ha hs b ob e=>by
  obtain⟨_,_,ad⟩:=ha
  refine(I.hok b ob e).stay (fun c w' hc q=>(hs.2 c ?_).trans q) (fun _ q=>q) fun _ _ q=>q
  rintro rfl
  rcases hc with rfl|hc
  ·rw[ad] at e;cases e
  ·rw[ad] at hc;cases hc
 rcases hx with hk|hk
 ·refine wpAny_storeName_local hk hn (fun h' ak hs=>?_) af
  obtain⟨oL,_,_,al,_⟩:=id hn
  refine h _ ⟨I.ok,I.os,I.bare,⟨fun b o e n hb hx=>?_,fun b o e n hb hx=>?_,I.base.free,fun b o e hx=>?_,I.base.tups,I.base.frzs,I.base.tbls⟩,⟨_,ak,fun j y v' e1 e2 e3=>?_⟩,fun y c e=>?_,I.free,I.freeC,fun p hp=>?_,aa ⟨oL,al,I.free⟩ hs,by simpa using I.len⟩ ⟨_,hs,.inl rfl⟩
  ·exact(hs.2 b (Nat.ne_of_lt (Nat.lt_of_lt_of_le (Heap.lt_size e) I.ok.above))).trans (I.base.keep b o e n hb hx)
  ·obtain⟨sl,e1⟩:=I.base.slot b o e n hb hx
   exact⟨sl,(hs.2 b (Nat.ne_of_lt (Nat.lt_of_lt_of_le (Heap.lt_size e) I.ok.above))).trans e1⟩
  ·obtain⟨o',e1⟩:=I.base.there b o e hx
   exact⟨o',(hs.2 b (Nat.ne_of_lt (Nat.lt_of_lt_of_le (Heap.lt_size e) I.ok.above))).trans e1⟩
  ·by_cases hj:j=i
   ·subst hj
    rw[hi] at e1;cases e1
    rw[List.getElem?_set_self hiσ] at e2
    cases e2
    exact⟨u,r,.inl ⟨hk,by simp⟩⟩
   ·rw[List.getElem?_set_ne (Ne.symm hj)] at e2
    obtain⟨u',r',q⟩:=hl j y v' e1 e2 e3
    refine⟨u',r',?_⟩
    rcases q with⟨k,e⟩|⟨k,c,e,z⟩
    ·refine .inl ⟨k,?_⟩
     have:y≠x:=fun e=>hj (zox hN e1 (e▸hi))
     simp[this,e]
    ·exact .inr ⟨k,c,e,z.sameBut hs (cne y c e)⟩
  ·obtain⟨w',z⟩:=I.cell y c e
   exact⟨w',z.sameBut hs (cne y c e)⟩
  ·obtain⟨e,n,ne,nf,d⟩:=I.pin p hp
   exact⟨(hs.2 p.1 ne).trans e,n,ne,nf,d⟩
 ·have ae:X.fn x=true:=by
   rcases hf with z|z
   ·exact z
   ·rw[z] at hk;cases hk
  obtain⟨c,hc⟩:=I.ok.has x (.inl hk)
  obtain⟨w',z⟩:=I.cell x c hc
  refine wpAny_storeName_cell I.ok.kind hk hc z (fun h' ah hs=>?_)
  obtain⟨oc,ai,ag⟩:=id z
  refine h { s with heap:=h' } ⟨I.ok,I.os,I.bare,⟨fun b o e n hb hx=>?_,fun b o e n hb hx=>?_,I.base.free,fun b o e hx=>?_,I.base.tups,I.base.frzs,I.base.tbls⟩,⟨m,hn.sameBut hs (Ne.symm (cne x c hc)),fun j y v' e1 e2 e3=>?_⟩,fun y c' e=>?_,I.free,I.freeC,fun p hp=>?_,aa ⟨oc,ai,I.freeC x c hc⟩ hs,by simpa using I.len⟩ ⟨c,hs,.inr hc⟩
  ·exact(hs.2 b (Nat.ne_of_lt (Nat.lt_of_lt_of_le (Heap.lt_size e) (I.ok.cab x c ae hc)))).trans (I.base.keep b o e n hb hx)
  ·obtain⟨sl,e1⟩:=I.base.slot b o e n hb hx
   exact⟨sl,(hs.2 b (Nat.ne_of_lt (Nat.lt_of_lt_of_le (Heap.lt_size e) (I.ok.cab x c ae hc)))).trans e1⟩
  ·obtain⟨o',e1⟩:=I.base.there b o e hx
   exact⟨o',(hs.2 b (Nat.ne_of_lt (Nat.lt_of_lt_of_le (Heap.lt_size e) (I.ok.cab x c ae hc)))).trans e1⟩
  ·by_cases hj:j=i
   ·subst hj
    rw[hi] at e1;cases e1
    rw[List.getElem?_set_self hiσ] at e2
    cases e2
    exact⟨u,r,.inr ⟨.inl hk,c,hc,ah⟩⟩
   ·rw[List.getElem?_set_ne (Ne.symm hj)] at e2
    obtain⟨u',r',q⟩:=hl j y v' e1 e2 e3
    refine⟨u',r',?_⟩
    rcases q with q|⟨k,c',e,z'⟩
    ·exact .inl q
    ·refine .inr ⟨k,c',e,z'.sameBut hs ?_⟩
     rintro rfl
     exact hj (zox hN e1 (I.ok.inj _ _ _ e hc▸hi))
  ·by_cases aj:c'=c
   ·subst aj;exact⟨_,ah⟩
   ·obtain⟨w2,z2⟩:=I.cell y c' e
    exact⟨w2,z2.sameBut hs aj⟩
  ·obtain⟨e,n,ne,nf,d⟩:=I.pin p hp
   refine⟨(hs.2 p.1 ?_).trans e,n,ne,nf,d⟩
   intro q
   rw[q,ai] at e
   have q':oc=p.2:=Option.some.inj e
   exact d w' (by rw[←q'];exact ag)
theorem zon{M:Model}{A:Around}{E:Value→Shared→Prop}{i:Nat}{x:Str}{v:V}{u:Value}{Q:Unit→Shared→Prop}(I:Inv X pins σ H s)(hN:X.N.Nodup)(hi:X.N[i]?=some x)(hx:Loc X.env.scope x)(r:RelV v u)
  (h:∀s',Inv X pins (σ.set i (some v)) H s'→Q () s') (hf:X.fn x=true∨X.env.scope.names.lookup x=some .local:=by first|exact .inl rfl|exact .inr rfl|assumption):wpAny M A (storeName X.env x u) Q E s:=
 zr4 I hN hi hx r (fun s' I' _=>h s' I') hf
theorem Inv.call'{s':Shared}{ch:List Addr}(I:Inv X pins σ H s)(ho:s'.os=s.os)(u:Un (frs X.stack) ch H H' s.heap s'.heap)(hok:HOk X.prog X.w H' s'.heap)(hg:AllBare s'.gens)
  (hch:∀b∈ch,(b∈X.ex∨X.s₀.heap.objs.size≤b)∧b≠X.env.locals∧(∀x c,X.env.cells.lookup x=some c→c≠b)∧∀p∈X.pn++pins,p.1≠b):Inv X pins σ H' s':=by
 obtain⟨h',g',d',t',o'⟩:=s'
 have e:o'=s.os:=ho
 subst e
 exact I.call (g':=g') (t':=t') (d':=d') u hok hg hch
end
abbrev XK:=Value→Option Addr→Hp→Prop
abbrev St:=List (Option V)
abbrev VK:=V→Hp→Prop
abbrev TE:=St→Hp→VK→Prop
abbrev TT:=St→Hp→(Bool→Hp→Prop)→Prop
abbrev TA:=St→Hp→(List V→Hp→Prop)→Prop
structure zii where
 nx:St→Hp→Prop
 rt:VK
 bk:St→Hp→Prop:=fun _ _=>False
 ct:St→Hp→Prop:=fun _ _=>False
abbrev TS:=zii→St→Hp→Prop
def EP(X:Cx)(pins:List (Addr×Obj))(σ:St)(Q:VK)(u:Value)(s':Shared):Prop:=∃v H',Inv X pins σ H' s'∧RelV v u∧Q v H'
def TP(X:Cx)(pins:List (Addr×Obj))(σ:St)(Q:Bool→Hp→Prop)(b:Bool)(s':Shared):Prop:=∃H',Inv X pins σ H' s'∧Q b H'
def AP(X:Cx)(pins:List (Addr×Obj))(σ:St)(Q:List V→Hp→Prop)(us:List Value)(s':Shared):Prop:=∃vs H',Inv X pins σ H' s'∧Vals vs us∧Q vs H'
def SP(X:Cx)(pins:List (Addr×Obj))(D:zii)(f:Flow)(s':Shared):Prop:=
 match f with
 |.next=>∃σ' H',Inv X pins σ' H' s'∧D.nx σ' H'
 |.brk=>∃σ' H',Inv X pins σ' H' s'∧D.bk σ' H'
 |.cont=>∃σ' H',Inv X pins σ' H' s'∧D.ct σ' H'
 |.ret u=>∃v σ' H',Inv X pins σ' H' s'∧RelV v u∧D.rt v H'
def PE(X:Cx)(e:Expr)(t:TE):Prop:=
 ∀(pins:List (Addr×Obj))(s:Shared)(σ:St)(H:Hp)(Q:VK),Inv X pins σ H s→t σ H Q→wpAny (model X.prog X.w) X.A (eval e X.env) (EP X pins σ Q) X.xe s
def PT(X:Cx)(e:Expr)(t:TT):Prop:=
 ∀(pins:List (Addr×Obj))(s:Shared)(σ:St)(H:Hp)(Q:Bool→Hp→Prop),Inv X pins σ H s→t σ H Q→wpAny (model X.prog X.w) X.A (isTrue e X.env (eval e X.env)) (TP X pins σ Q) X.xe s
def PW(X:Cx)(e:Expr)(t:TT):Prop:=
 ∀(whole:Sem Value)(pins:List (Addr×Obj))(s:Shared)(σ:St)(H:Hp)(Q:Bool→Hp→Prop),Inv X pins σ H s→t σ H Q→wpAny (model X.prog X.w) X.A (isTrue e X.env whole) (TP X pins σ Q) X.xe s
theorem PW.pt{X:Cx}{e:Expr}{t:TT}(h:PW X e t):PT X e t:=h _
def PA(X:Cx)(es:List Expr)(t:TA):Prop:=
 ∀(pos:Pos)(pins:List (Addr×Obj))(s:Shared)(σ:St)(H:Hp)(Q:List V→Hp→Prop),Inv X pins σ H s→t σ H Q→wpAny (model X.prog X.w) X.A (spliced (backTo pos (starEach es X.env))) (AP X pins σ Q) X.xe s
def PS(X:Cx)(st:Stmt)(t:TS):Prop:=
 ∀(pins:List (Addr×Obj))(s:Shared)(σ:St)(H:Hp)(D:zii),Inv X pins σ H s→t D σ H→wpAny (model X.prog X.w) X.A (exec st X.env) (SP X pins D) X.xe s
def PSs(X:Cx)(st:List Stmt)(t:TS):Prop:=
 ∀(pins:List (Addr×Obj))(s:Shared)(σ:St)(H:Hp)(D:zii),Inv X pins σ H s→t D σ H→wpAny (model X.prog X.w) X.A (execs st X.env) (SP X pins D) X.xe s
theorem thn{α:Type}{t:Sem α}{Q Q':α→Shared→Prop}{M:Model}{A:Around}{E:Value→Shared→Prop}{s:Shared}(h:wpAny M A t Q E s)(hQ:∀a s,Q a s→Q' a s):wpAny M A t Q' E s:=wpAny_mono h hQ fun _ _ x=>x
section
variable {X : Cx}
def zwe(i:Nat):TE:=fun σ H Q=>∃v,σ[i]?=some (some v)∧Q v H
def tC(v:V):TE:=fun _ H Q=>Q v H
theorem ztj{i:Nat}{x:Str}{pos:Pos}(hN:X.N[i]?=some x)(hv:Vis X.env.scope x)(hd:(x==("__debug__" : Str))=false:=by decide)(hcd:(x==("__classdict__" : Str))=false:=by decide):PE X (.Name x pos) (zwe i):=by
 intro pins s σ H Q I h
 obtain⟨v,e,h⟩:=h
 obtain⟨m,hn,hl⟩:=I.loc
 obtain⟨u,r,l⟩:=hl i x v hN e hv
 have fin:EP X pins σ Q u s:=⟨v,H,I,r,h⟩
 rcases l with⟨hk,hm⟩|⟨hk,c,hc,aa⟩
 ·exact wpAny_Name (wpAny_loadName_local I.ok.kind hk hn hm fin) hd
 ·rcases hk with hk|hk
  ·exact wpAny_Name (wpAny_loadName_cell I.ok.kind hk hc aa fin) hd
  ·exact wpAny_Name (wpAny_loadName_free I.ok.kind hk hc aa fin hcd) hd
theorem zaf{i j pos}:PE X (.Constant (.int i) j pos) (tC (.int i)):=fun _ _ _ H _ I h=>wpAny_Constant_int ⟨.int i,H,I.tok _,⟨_,rfl⟩,h⟩
theorem zfv{b j pos}:PE X (.Constant (.bool b) j pos) (tC (.bl b)):=fun _ _ _ H _ I h=>Constant_bool ⟨.bl b,H,I,rfl,h⟩
theorem zcu{j pos}:PE X (.Constant .none j pos) (tC .non):=fun _ _ _ H _ I h=>Constant_none ⟨.non,H,I,rfl,h⟩
theorem zdr{x j pos}:PE X (.Constant (.str x) j pos) (tC (.str x)):=fun _ _ _ H _ I h=>Calls.Constant_str ⟨.str x,H,I.tok _,⟨_,rfl⟩,h⟩
def Gl(X:Cx)(x:Str):Prop:=X.env.kindOf x=some .globalImplicit
theorem zm2{E:Value→Shared→Prop}{pins:List (Addr×Obj)}{s:Shared}{σ:St}{H:Hp}{x:Str}{u:Value}{pos:Pos}{Q:Value→Shared→Prop}(I:Inv X pins σ H s)(hg:Gl X x)(hm:X.mg x=some u)(h:Q u s)
  (hd:(x==("__debug__" : Str))=false:=by decide):wpAny (model X.prog X.w) X.A (eval (.Name x pos) X.env) Q E s:=
 Calls.Name_function_global I.ok.kind hg (Calls.loadGlobal_global (by rw[I.ok.glob];exact I.mod.glob.keeps I.bk) hm h) hd
theorem zj9{E:Value→Shared→Prop}{pins:List (Addr×Obj)}{s:Shared}{σ:St}{H:Hp}{x:Str}{u:Value}{pos:Pos}{Q:Value→Shared→Prop}(I:Inv X pins σ H s)(hg:Gl X x)(hm:X.mg x=none)(hv:bootBuiltins x=some u)(h:Q u s)
  (hn:x ≠ "__name__" := by decide) (hd:(x==("__debug__" : Str))=false:=by decide):wpAny (model X.prog X.w) X.A (eval (.Name x pos) X.env) Q E s:=by
 obtain⟨mb,h1,h2⟩:=I.mod.blt
 exact Calls.Name_function_global I.ok.kind hg (Calls.loadGlobal_builtin (by rw[I.ok.glob];exact I.mod.glob.keeps I.bk) hm (by rw[I.ok.blt];exact h1.keeps I.bk) ((h2 x hn).trans hv) h) hd
variable {a b : Expr} {ta tb : TE} {pos : Pos}
def tB(t:TE):TT:=fun σ H Q=>t σ H fun x H1=>∃c,x=.bl c∧Q c H1
theorem zcv{e:Expr}{t:TE}(h:PE X e t)(he:∀whole,isTrue e X.env whole=(do let v ←whole;standAt e.pos;holding [v] (truthy v)):=by intro _;rfl):PT X e (tB t):=by
 intro pins s σ H Q I hw
 refine isTrue_plain (thn (h pins s σ H _ I hw) fun v s1 ⟨x,H1,I1,r1,q1⟩=>?_) (he _)
 obtain⟨d,rfl,q⟩:=q1
 cases r1
 exact wpAny_truthy_bool ⟨H1,I1,q⟩
variable {tA tB' : TT} {rest : List Expr}
def zzd(t u:TT):TT:=fun σ H Q=>t σ H fun c H1=>if c=true then u σ H1 Q else Q false H1
def tOr(t u:TT):TT:=fun σ H Q=>t σ H fun c H1=>if c=true then Q true H1 else u σ H1 Q
def zza(t:TT):TT:=fun σ H Q=>t σ H fun c H1=>Q (!c) H1
theorem zh5(ha:PT X a tA):PW X (.BoolOp .And [a] pos) tA:=by
 intro wh pins s σ H Q I h
 refine isTrue_and (thn (ha pins s σ H Q I h) fun c s1 e=>?_)
 cases c with
 |true=>exact isTrue_and_nil e
 |false=>exact e
theorem zid(ha:PT X a tA):PW X (.BoolOp .Or [a] pos) tA:=by
 intro wh pins s σ H Q I h
 refine isTrue_or (thn (ha pins s σ H Q I h) fun c s1 e=>?_)
 cases c with
 |false=>exact isTrue_or_nil e
 |true=>exact e
theorem zh8(ha:PT X a tA)(hb:PW X (.BoolOp .And (b::rest) pos) tB'):PW X (.BoolOp .And (a::b::rest) pos) (zzd tA tB'):=by
 intro wh pins s σ H Q I h
 refine isTrue_and (thn (ha pins s σ H _ I h) fun c s1 ⟨H1,I1,q1⟩=>?_)
 cases c with
 |true=>exact hb wh pins s1 σ H1 Q I1 q1
 |false=>exact⟨H1,I1,q1⟩
theorem zjr(ha:PT X a tA)(hb:PW X (.BoolOp .Or (b::rest) pos) tB'):PW X (.BoolOp .Or (a::b::rest) pos) (tOr tA tB'):=by
 intro wh pins s σ H Q I h
 refine isTrue_or (thn (ha pins s σ H _ I h) fun c s1 ⟨H1,I1,q1⟩=>?_)
 cases c with
 |true=>exact⟨H1,I1,q1⟩
 |false=>exact hb wh pins s1 σ H1 Q I1 q1
theorem zkl(ha:PT X a tA):PT X (.UnaryOp .Not a pos) (zza tA):=by
 intro pins s σ H Q I h
 exact isTrue_not (ha pins s σ H (fun c H1=>Q (!c) H1) I h)
def zys(ta tb:TE):TE:=fun σ H Q=>ta σ H fun x H1=>∃c,x=.bl c∧if c=true then tb σ H1 Q else Q (.bl false) H1
def zyu(ta:TE):TE:=fun σ H Q=>ta σ H fun x H1=>∃c,x=.bl c∧Q (.bl (!c)) H1
theorem zfj{op}{t:TE}(h:PE X a t):PE X (.BoolOp op [a] pos) t:=fun pins s σ H Q I hw=>BoolOp_one (h pins s σ H Q I hw)
theorem zeo(ha:PE X a ta)(hb:PE X (.BoolOp .And (b::rest) pos) tb):PE X (.BoolOp .And (a::b::rest) pos) (zys ta tb):=by
 intro pins s σ H Q I h
 refine BoolOp_and (thn (ha pins s σ H _ I h) fun v s1 ⟨x,H1,I1,r1,q1⟩=>?_)
 obtain⟨c,rfl,q1⟩:=q1
 cases r1
 refine wpAny_truthy_bool ?_
 cases c with
 |true=>exact hb pins s1 σ H1 Q I1 q1
 |false=>exact⟨.bl false,H1,I1,rfl,q1⟩
theorem zjt(ha:PE X a ta):PE X (.UnaryOp .Not a pos) (zyu ta):=by
 intro pins s σ H Q I h
 refine UnaryOp_ (thn (ha pins s σ H _ I h) fun v s1 ⟨x,H1,I1,r1,q1⟩=>?_)
 obtain⟨c,rfl,q1⟩:=q1
 cases r1
 exact not_of (wpAny_truthy_bool ⟨.bl (!c),H1,I1,rfl,q1⟩)
end
def SqL(K:PySem.W.Frag)(H:Hp)(a:Addr)(xs:List V):Prop:=
 Rd H a (.lst xs) ∨
  ∃(o:Obj)(its:Array Value)(n:Nat),K.lookup a=some o∧o.cls=.type "list" ∧ o.dict=none∧o.data=.seq its n∧its.size≤sizeLine∧Vals xs its.toList
def SqT(K:PySem.W.Frag)(H:Hp)(a:Addr)(xs:List V):Prop:=
 Rd H a (.tup xs) ∨
  ∃(o:Obj)(its:Array Value)(n:Nat),K.lookup a=some o∧o.cls=.type "tuple" ∧ o.data=.seq its n∧its.size≤sizeLine∧Vals xs its.toList
def zzm:Value→Option V
 |.none=>some .non
 |.bool b=>some (.bl b)
 |.int i _=>some (.int i)
 |.str x _=>some (.str x)
 |.bytes b _=>some (.byt b)
 |.float b _=>some (.flt b)
 |.ref a=>some (.ref a)
 |.type n=>some (.ty n)
 |_=>none
theorem RelV.abs{x:V}{u:Value}(r:RelV x u):zzm u=some x:=by
 cases x with
 |non=>cases r;rfl
 |bl _=>cases r;rfl
 |int _=>obtain⟨t,rfl⟩:=r;rfl
 |str _=>obtain⟨t,rfl⟩:=r;rfl
 |byt _=>obtain⟨t,rfl⟩:=r;rfl
 |flt _=>obtain⟨t,rfl⟩:=r;rfl
 |ref _=>cases r;rfl
 |ty _=>cases r;rfl
theorem RelV.inj{x y:V}{u:Value}(r:RelV x u)(q:RelV y u):x=y:=Option.some.inj (r.abs.symm.trans q.abs)
theorem Vals.inj:∀{xs ys:List V} {us:List Value},Vals xs us→Vals ys us→xs=ys
 |_,_,_,.nil,.nil=>rfl
 |_,_,_,.cons r t,.cons r' t'=>by rw[r.inj r',Vals.inj t t']
section
variable {X : Cx} {pins : List (Addr × Obj)} {σ : St} {H : Hp} {s : Shared} {a : Addr} {xs ys : List V}
theorem SqL.of{K:PySem.W.Frag}(h:H a=some (.lst xs)):SqL K H a xs:=.inl (.inl h)
theorem Inv.list(I:Inv X pins σ H s)(h:SqL X.K H a xs):∃its:List Value,Vals xs its∧PlainL s.heap a its.toArray∧xs.length≤sizeLine:=by
 rcases h with h|⟨o,its,n,hk,hc,hd,hs,hz,r⟩
 ·obtain⟨z,its,n,r,e⟩:=h.ok I.hok
  exact⟨its,r,⟨_,n,e,rfl,rfl,rfl⟩,z⟩
 ·refine⟨its.toList,r,⟨o,n,I.kIn a o hk,hc,hd,by simpa using hs⟩,?_⟩
  have e:=r.length
  simp only[Array.length_toList] at e
  omega
theorem Inv.tuple(I:Inv X pins σ H s)(h:SqT X.K H a xs):∃its:List Value,Vals xs its∧IsTup s.heap a its.toArray∧xs.length≤sizeLine:=by
 rcases h with h|⟨o,its,n,hk,hc,hs,hz,r⟩
 ·obtain⟨z,its,r,p⟩:=h.ok I.hok
  exact⟨its,r,p,z⟩
 ·refine⟨its.toList,r,⟨o,I.kIn a o hk,hc,n,by simpa using hs⟩,?_⟩
  have e:=r.length
  simp only[Array.length_toList] at e
  omega
theorem Inv.list_inj(I:Inv X pins σ H s)(h:SqL X.K H a xs)(h':SqL X.K H a ys):xs=ys:=by
 obtain⟨aa,r,⟨o,n,e,_,_,d⟩,_⟩:=I.list h
 obtain⟨its',r',⟨o',n',e',_,_,d'⟩,_⟩:=I.list h'
 rw[e] at e';cases e'
 rw[d] at d'
 injection d' with d1 _
 have:aa=its':=by simpa using congrArg Array.toList d1
 subst this
 exact r.inj r'
theorem Inv.tuple_inj(I:Inv X pins σ H s)(h:SqT X.K H a xs)(h':SqT X.K H a ys):xs=ys:=by
 obtain⟨aa,r,⟨o,e,_,n,d⟩,_⟩:=I.tuple h
 obtain⟨its',r',⟨o',e',_,n',d'⟩,_⟩:=I.tuple h'
 rw[e] at e';cases e'
 rw[d] at d'
 injection d' with d1 _
 have:aa=its':=by simpa using congrArg Array.toList d1
 subst this
 exact r.inj r'
end
abbrev Cx.wish(X:Cx)(E:Value→Shared→Prop):Cx:={ X with xe:=E }
abbrev Cx.nox(X:Cx):Cx:=X.wish fun _ _=>False
theorem Cx.Ok.wish{X:Cx}(ok:X.Ok)(E:Value→Shared→Prop):(X.wish E).Ok:=
 ⟨ok.mod,ok.kind,ok.glob,ok.blt,ok.above,ok.inj,ok.has,ok.cab,ok.hd,ok.frames,ok.stk,ok.exf,ok.bs,ok.bsz,ok.noex,ok.exfs,ok.funs,ok.frf⟩
theorem Cx.Ok.unwish{X:Cx}{E:Value→Shared→Prop}(ok:(X.wish E).Ok):X.Ok:=
 ⟨ok.mod,ok.kind,ok.glob,ok.blt,ok.above,ok.inj,ok.has,ok.cab,ok.hd,ok.frames,ok.stk,ok.exf,ok.bs,ok.bsz,ok.noex,ok.exfs,ok.funs,ok.frf⟩
section
variable {X : Cx} {pins : List (Addr × Obj)} {σ : St} {H : Hp} {s : Shared} {E : Value → Shared → Prop}
theorem Inv.wish(I:Inv X pins σ H s)(E:Value→Shared→Prop):Inv (X.wish E) pins σ H s:=⟨I.ok.wish E,I.os,I.bare,I.base,I.loc,I.cell,I.free,I.freeC,I.pin,I.hok,I.len⟩
theorem Inv.unwish(I:Inv (X.wish E) pins σ H s):Inv X pins σ H s:=⟨I.ok.unwish,I.os,I.bare,I.base,I.loc,I.cell,I.free,I.freeC,I.pin,I.hok,I.len⟩
theorem SP.unwish{D:zii}{f:Flow}{s':Shared}(h:SP (X.wish E) pins D f s'):SP X pins D f s':=by
 cases f with
 |next=>obtain⟨σ',H',I,q⟩:=h;exact⟨σ',H',I.unwish,q⟩
 |brk=>obtain⟨σ',H',I,q⟩:=h;exact⟨σ',H',I.unwish,q⟩
 |cont=>obtain⟨σ',H',I,q⟩:=h;exact⟨σ',H',I.unwish,q⟩
 |ret u=>obtain⟨v,σ',H',I,r,q⟩:=h;exact⟨v,σ',H',I.unwish,r,q⟩
theorem PSs.nox{st:List Stmt}{t:TS}(h:PSs X.nox st t):PSs X st t:=fun pins s σ H D I hw=>
 wpAny_mono (h pins s σ H D (I.wish _) hw) (fun _ _ q=>q.unwish) fun _ _ z=>False.elim z
end
section
variable {X : Cx} {st : Stmt} {rest : List Stmt} {t u : TS} {e : Expr} {te : TE} {pos : Pos}
def zy3:TS:=fun D σ H=>D.nx σ H
def zy9(t u:TS):TS:=fun D σ H=>t { D with nx:=u D } σ H
theorem za1:PSs X [] zy3:=fun _ _ σ H _ I h=>wpAny_execs_nil ⟨σ,H,I,h⟩
theorem zae(h1:PS X st t)(h2:PSs X rest u):PSs X (st::rest) (zy9 t u):=by
 intro pins s σ H D I h
 refine wpAny_execs_cons (thn (h1 pins s σ H { D with nx:=u D } I h) fun f s1 q=>?_)
 cases f with
 |next=>
  obtain⟨σ',H',I',q⟩:=q
  exact h2 pins s1 σ' H' D I' q
 |ret v=>exact q
 |brk=>exact q
 |cont=>exact q
theorem zai(h1:PS X st t):PSs X [st] t:=by
 intro pins s σ H D I h
 refine wpAny_execs_cons (thn (h1 pins s σ H D I h) fun f s1 q=>?_)
 cases f with
 |next=>exact wpAny_execs_nil q
 |ret v=>exact q
 |brk=>exact q
 |cont=>exact q
theorem Inv.quiet{pins:List (Addr×Obj)}{σ:St}{H:Hp}{s:Shared}(I:Inv X pins σ H s):interactive X.env=false:=by simp[interactive,I.ok.kind]
def zyh(te:TE):TS:=fun D σ H=>te σ H fun _ H1=>D.nx σ H1
theorem zca(he:PE X e te)(hs:swapsWith e none pos.line X.env=pure false:=by rfl):PS X (.Expr e pos) (zyh te):=by
 intro pins s σ H D I h
 exact wpAny_Expr_any (thn (he pins s σ H _ I h) fun v s1 ⟨x,H1,I1,r1,q1⟩=>⟨σ,H1,I1,q1⟩) I.quiet hs
def zzg(te:TE):TS:=fun D σ H=>te σ H D.rt
theorem zaw(he:PE X e te):PS X (.Return (some e) pos) (zzg te):=by
 intro pins s σ H D I h
 exact wpAny_Return_some (thn (he pins s σ H _ I h) fun v s1 ⟨x,H1,I1,r1,q1⟩=>⟨x,σ,H1,I1,r1,q1⟩)
def zzc(c:TT)(t u:TS):TS:=fun D σ H=>c σ H fun b H1=>if b=true then t D σ H1 else u D σ H1
theorem za7{c:Expr}{a b:List Stmt}{tc:TT}(hc:PT X c tc)(ha:PSs X a t)(hb:PSs X b u):PS X (.If c a b pos) (zzc tc t u):=by
 intro pins s σ H D I h
 refine wpAny_If (thn (hc pins s σ H _ I h) fun d s1 ⟨H1,I1,q1⟩=>?_)
 cases d with
 |true=>exact ha pins s1 σ H1 D I1 q1
 |false=>exact hb pins s1 σ H1 D I1 q1
def znf:TS:=fun _ _ _=>False
theorem zh0:PS X st znf:=fun _ _ _ _ _ _ h=>h.elim
theorem zl5{sts:List Stmt}:PSs X sts znf:=fun _ _ _ _ _ _ h=>h.elim
end
abbrev TG:=V→St→Hp→(St→Hp→Prop)→Prop
abbrev TGs:=List V→St→Hp→(St→Hp→Prop)→Prop
def PG(X:Cx)(target:Expr)(t:TG):Prop:=
 ∀(pins:List (Addr×Obj))(s:Shared)(σ:St)(H:Hp)(v:V)(u:Value)(Q:St→Hp→Prop),Inv X pins σ H s→RelV v u→t v σ H Q →
  wpAny (model X.prog X.w) X.A (assign target X.env u) (fun _ s'=>∃σ' H',Inv X pins σ' H' s'∧Q σ' H') X.xe s
def PGs(X:Cx)(ts:List Expr)(t:TGs):Prop:=
 ∀(pins:List (Addr×Obj))(s:Shared)(σ:St)(H:Hp)(vs:List V)(us:List Value)(Q:St→Hp→Prop),Inv X pins σ H s→Vals vs us→t vs σ H Q →
  wpAny (model X.prog X.w) X.A (assignInOrder ((assignEach ts X.env).map (·.2)) us) (fun _ s'=>∃σ' H',Inv X pins σ' H' s'∧Q σ' H') X.xe s
abbrev zxh:=V→V→V→Hp→(Hp→Prop)→Prop
def zyr(X:Cx)(t:zxh):Prop:=
 ∀(pins:List (Addr×Obj))(s:Shared)(σ:St)(H:Hp)(o i v:V)(ov iv u:Value)(Q:Hp→Prop),Inv X pins σ H s→RelV o ov→RelV i iv→RelV v u→t o i v H Q →
  wpAny (model X.prog X.w) X.A (setItem ov iv u) (fun _ s'=>∃H',Inv X pins σ H' s'∧Q H') X.xe s
section
variable {X : Cx} {pos : Pos}
def zmd(i:Nat):TG:=fun v σ H Q=>Q (σ.set i (some v)) H
theorem zan{i:Nat}{x:Str}(hN:X.N.Nodup)(hi:X.N[i]?=some x)(hx:Loc X.env.scope x)(hf:X.fn x=true∨X.env.scope.names.lookup x=some .local:=by first|exact .inl rfl|exact .inr rfl|assumption):PG X (.Name x pos) (zmd i):=by
 intro pins s σ H v u Q I r h
 exact wpAny_assign_Name (zon I hN hi hx r (fun s' I'=>⟨_,H,I',h⟩) hf)
def zzo:TGs:=fun vs σ H Q=>vs=[]∧Q σ H
def zye(t:TG)(u:TGs):TGs:=fun vs σ H Q=>∃v r,vs=v::r∧t v σ H fun σ' H'=>u r σ' H' Q
theorem zbq:PGs X [] zzo:=by
 intro pins s σ H vs us Q I r h
 obtain⟨e,h⟩:=h
 subst e
 cases r
 exact assignInOrder_nil ⟨σ,H,I,h⟩
theorem za0{e:Expr}{es:List Expr}{t:TG}{u:TGs}(h1:PG X e t)(h2:PGs X es u)
  (hs:(assignEach (e::es) X.env).map (·.2)=assign e X.env::(assignEach es X.env).map (·.2):=by rfl):PGs X (e::es) (zye t u):=by
 intro pins s σ H vs us Q I r h
 obtain⟨v,vr,e1,h⟩:=h
 subst e1
 cases r with
 |cons r rr=>
  rw[hs]
  refine assignInOrder_cons (thn (h1 pins s σ H _ _ _ I r h) fun _ s1 ⟨σ1,H1,I1,q1⟩=>?_)
  exact h2 pins s1 σ1 H1 _ _ Q I1 rr q1
def zyb(K:PySem.W.Frag)(n:Nat)(t:TGs):TG:=fun v σ H Q=>∃a xs,v=.ref a∧SqT K H a xs∧xs.length=n∧t xs σ H Q
theorem zw7{es:List Expr}{k:Nat}{t:TGs}{n:Nat}(hc:X.calm=true)(h:PGs X es t)
  (hn:(assignEach es X.env).length=n:=by rfl) (hst:(assignEach es X.env).findIdx? (·.1)=none:=by rfl):PG X (.Tuple es k pos) (zyb X.K n t):=by
 intro pins s σ H v u Q I r hw
 obtain⟨a,xs,e1,hq,hl,hw⟩:=hw
 subst e1
 cases r
 obtain⟨aa,rv,ht,hz⟩:=I.tuple hq
 refine assign_Tuple_tuple (I.ok.hd hc) ht (by simp[hn,←hl,rv.length]) hst fun h' hx=>?_
 have I1:Inv X pins σ H { s with heap:=h' }:=I.kept (t':=s.toks) fun b o e=>hx b o (Nat.ne_of_lt (Heap.lt_size e)) e
 exact h pins _ σ H xs _ Q I1 (by simpa using rv) hw
def zzj(to ti:TE)(t:zxh):TG:=fun v σ H Q=>to σ H fun o H1=>ti σ H1 fun i H2=>t o i v H2 fun H3=>Q σ H3
theorem ztn{o i:Expr}{to ti:TE}{t:zxh}(ho:PE X o to)(hi:PE X i ti)(hs:zyr X t)
  (ha:∀v,assign (.Subscript o i pos) X.env v=(do
   let ov ←holding [v] (eval o X.env)
   let iv ←holding [v,ov] (eval i X.env)
   standAt pos
   holding [v,ov,iv] (setItem ov iv v)
   release [v,ov,iv] []):=by intro _;rfl):PG X (.Subscript o i pos) (zzj to ti t):=by
 intro pins s σ H v u Q I r h
 rw[ha]
 refine wpAny_bind (wpAny_holding (thn (ho pins s σ H _ I h) fun ov s1 ⟨x,H1,I1,r1,q1⟩=>?_))
 refine wpAny_bind (wpAny_holding (thn (hi pins s1 σ H1 _ I1 q1) fun iv s2 ⟨y,H2,I2,r2,q2⟩=>?_))
 refine wpAny_bind (wpAny_standAt (wpAny_bind (wpAny_holding (thn (hs pins s2 σ H2 x y v ov iv u _ I2 r1 r2 r q2) fun _ s3 ⟨H3,I3,q3⟩=>?_))))
 exact wpAny_release ⟨σ,H3,I3,q3⟩
def zxe(te:TE)(g:TG):TS:=fun D σ H=>te σ H fun x H1=>g x σ H1 D.nx
theorem zg5{tg e:Expr}{te:TE}{g:TG}(he:PE X e te)(hg:PG X tg g)(hs:swapsWithSole [tg] e pos.line X.env=pure false:=by rfl)(hw:swappedStores [tg] e X.env=pure none:=by rfl)
  (h1:(assignEach [tg] X.env).map (·.2)=[assign tg X.env]:=by rfl):PS X (.Assign [tg] e pos) (zxe te g):=by
 intro pins s σ H D I h
 refine wpAny_Assign_stores (thn (he pins s σ H _ I h) fun v s1 ⟨x,H1,I1,r1,q1⟩=>?_) hs hw
 rw[h1]
 exact thn (hg pins s1 σ H1 x v _ I1 r1 q1) fun _ s2 q=>q
theorem zar{i:Nat}{x:Str}{e:Expr}{te:TE}{pos':Pos}(hN:X.N.Nodup)(hi:X.N[i]?=some x)(hx:Loc X.env.scope x)(he:PE X e te)(hs:swapsWith e (some (.Name x pos')) pos.line X.env=pure false:=by rfl)(hf:X.fn x=true∨X.env.scope.names.lookup x=some .local:=by first|exact .inl rfl|exact .inr rfl|assumption):
  PS X (.Assign [.Name x pos'] e pos) (zxe te (zmd i)):=by
 intro pins s σ H D I h
 refine wpAny_Assign_Name (thn (he pins s σ H _ I h) fun v s1 ⟨y,H1,I1,r1,q1⟩=>?_) hs
 exact zon I1 hN hi hx r1 (fun s2 I2=>⟨_,H1,I2,q1⟩) hf
end
structure It where
 go:Nat→Hp→Prop
 yld:Nat→Hp→V→Hp→Prop
 stop:Nat→Hp→Prop
def zi9(X:Cx)(pins:List (Addr×Obj))(H:Hp)(b:Addr):Prop:=
 H b=none∧b≠X.env.locals∧b∉X.fs∧(b∈X.ex∨X.s₀.heap.objs.size≤b)∧(∀x c,X.env.cells.lookup x=some c→c≠b)∧∀p∈X.pn++pins,p.1≠b
theorem Inv.fpOk{X:Cx}{pins:List (Addr×Obj)}{σ:St}{H H':Hp}{s:Shared}{b:Addr}(I:Inv X pins σ H s)(hb:s.heap.objs.size≤b)(hn:H' b=none):zi9 X pins H' b:=by
 refine⟨hn,Nat.ne_of_gt (Nat.lt_of_lt_of_le I.lt hb),I.nofs hb,.inr (Nat.le_trans I.sz hb),fun x c e z=>?_,fun p hp z=>?_⟩
 ·obtain⟨v,q⟩:=I.cell x c e
  exact absurd (Nat.lt_of_lt_of_le q.lt (by rw[z];exact hb)) (Nat.lt_irrefl _)
 ·exact absurd (Nat.lt_of_lt_of_le (Heap.lt_size (I.pin p hp).1) (by rw[z];exact hb)) (Nat.lt_irrefl _)
structure zus(P:Program)(w:World)(K:PySem.W.Frag)(tg:Expr)(J:It)(fp:List Addr)(it:Addr)(tn:Nat→Heap→Prop):Prop where
 mem:it∈fp
 obj:∀i h,tn i h→∀b∈fp,∃o,h.get? b=some o∧∀v,o.data≠.cell v
 keep:∀i h h',tn i h→(∀b∈fp,∀o,h.get? b=some o→h'.get? b=some o)→tn i h'
 item:∀(X:Cx),X.prog=P→X.w=w→X.K=K→X.calm=true→∀(i:Nat)(pins:List (Addr×Obj))(s:Shared)(σ:St)(H:Hp)(E:Value→Shared→Prop),Inv X pins σ H s→(∀b∈fp,zi9 X pins H b)→tn i s.heap→J.go i H →
  wpAny (model P w) X.A (pyNext (.ref it)) (fun r s1=>∃u,r=some u ∧
   wpAny (model P w) X.A (letOwnedTupleGo tg (.ref it) u) (fun _ s2=>∃x H',Inv X pins σ H' s2∧RelV x u∧J.yld i H x H'∧tn (i+1) s2.heap∧∀b∈fp,H' b=none) E s1) E s
 done:∀(X:Cx),X.prog=P→X.w=w→X.K=K→X.calm=true→∀(i:Nat)(pins:List (Addr×Obj))(s:Shared)(σ:St)(H:Hp)(E:Value→Shared→Prop),Inv X pins σ H s→(∀b∈fp,zi9 X pins H b)→tn i s.heap→J.stop i H →
  wpAny (model P w) X.A (pyNext (.ref it)) (fun r s1=>r=none∧Inv X pins σ H s1) E s
 self:∀(A:Around)(i:Nat)(s:Shared)(Q:Value→Shared→Prop)(E:Value→Shared→Prop),tn i s.heap→Q (.ref it) s→wpAny (model P w) A (pyIter (.ref it)) Q E s
abbrev TI:=St→Hp→(It→Hp→Prop)→Prop
def PIE(X:Cx)(pins:List (Addr×Obj))(σ:St)(tg:Expr)(R:It→Hp→Prop)(itv:Value)(s2:Shared):Prop:=
 ∃(it:Addr)(fp:List Addr)(tn:Nat→Heap→Prop)(J:It)(H':Hp),itv=.ref it∧Inv X pins σ H' s2∧zus X.prog X.w X.K tg J fp it tn∧tn 0 s2.heap∧(∀b∈fp,zi9 X pins H' b)∧R J H'
def PI(X:Cx)(tg iter:Expr)(wi:TI):Prop:=
 ∀(pins:List (Addr×Obj))(s:Shared)(σ:St)(H:Hp)(R:It→Hp→Prop),Inv X pins σ H s→wi σ H R →
  wpAny (model X.prog X.w) X.A (eval iter X.env) (fun v s1=>wpAny (model X.prog X.w) X.A (pyIter v) (PIE X pins σ tg R) X.xe s1) X.xe s
theorem ztm{M:Model}{A:Around}{E:Value→Shared→Prop}{s:Shared}{tg:Expr}{it:Addr}{u:Value}{o:Obj}{n:String}{vs:Array Value}{Q:Unit→Shared→Prop}(ho:s.heap.get? it=some o)(hc:o.cls=.type n)(hd:o.data=.fields vs)
    (hn:["enumerate", "zip", "dict_itemiterator", "dict_reverseitemiterator", "odict_iterator", "itertools.zip_longest", "itertools.pairwise"].contains n=false) (hQ:Q () s):wpAny M A (letOwnedTupleGo tg (.ref it) u) Q E s:=by
  unfold letOwnedTupleGo
  cases tg<;>first
    |exact wpAny_pure hQ
    | (cases u <;> first
        |exact wpAny_pure hQ
        | (refine wpAny_bind (wpAny_load ho ?_)
           rw[hc,hd]
           show wpAny M A (if (["enumerate", "zip", "dict_itemiterator", "dict_reverseitemiterator", "odict_iterator", "itertools.zip_longest", "itertools.pairwise"].contains n&&vs[0]?==some (rawInt _))=true then _ else _) Q E s
           rw[if_neg (by intro h;rw[hn,Bool.false_and] at h;cases h)]
           exact wpAny_pure hQ))
def Itl(K:PySem.W.Frag)(a:Addr):It:=
 ⟨fun i H=>∃xs x,SqL K H a xs∧xs[i]?=some x,fun i H x H'=>H'=H∧∀xs,SqL K H a xs→xs[i]?=some x,fun i H=>∃xs,SqL K H a xs∧xs.length≤i⟩
def Itt(K:PySem.W.Frag)(a:Addr):It:=
 ⟨fun i H=>∃xs x,SqT K H a xs∧xs[i]?=some x,fun i H x H'=>H'=H∧∀xs,SqT K H a xs→xs[i]?=some x,fun i H=>∃xs,SqT K H a xs∧xs.length≤i⟩
def Itr(lo:Int)(n:Nat):It:=⟨fun i _=>i<n,fun i H x H'=>H'=H∧x=.int (lo+i),fun i _=>n≤i⟩
theorem zlq{P:Program}{w:World}{K:PySem.W.Frag}{tg:Expr}(a it:Addr):zus P w K tg (Itl K a) [it] it (fun i h=>h.IsListIter it a i) where
 mem:=by simp
 obj:=fun i h st b hb=>by
  have e:b=it:=by simpa using hb
  subst e
  obtain⟨o,e,c,d⟩:=st
  exact⟨o,e,fun v z=>by rw[d] at z;cases z⟩
 keep:=fun i h h' st k=>st.at fun o e=>k it (by simp) o e
 item:=by
  intro X hP hw hK hc i pins s σ H E I hf st hg
  subst hP hw hK
  obtain⟨xs,x,hq,hx⟩:=hg
  obtain⟨ad,rv,p,hz⟩:=I.list hq
  obtain⟨u,hu,ru⟩:=rv.get hx
  obtain⟨f0,f1,f2,f3,f4,f5⟩:=hf it (by simp)
  refine wpAny_pyNext_list_item st p.isList (x:=u) (by simpa using hu) fun h' aa sb=>?_
  have I1:Inv X pins σ H { s with heap:=h' }:=I.turned (t':=s.toks) (fun b o hb e=>(sb.2 b hb).trans e) f0 f1 f3 f4 f5
  obtain⟨o,e,c,d⟩:=id aa
  exact⟨u,rfl,ztm (s:={ s with heap:=h' }) e c d (by decide) ⟨x,H,I1,ru,⟨rfl,fun ys hy=>by rw[I.list_inj hy hq];exact hx⟩,aa,fun b hb=>(hf b hb).1⟩⟩
 done:=by
  intro X hP hw hK hc i pins s σ H E I hf st hg
  subst hP hw hK
  obtain⟨xs,hq,hx⟩:=hg
  obtain⟨ad,rv,p,hz⟩:=I.list hq
  obtain⟨f0,f1,f2,f3,f4,f5⟩:=hf it (by simp)
  have hl:=rv.length
  exact wpAny_pyNext_list_end (I.ok.hd hc) st p.isList (by simp;omega) fun h' eb=>⟨rfl,I.turned (t':=s.toks) (fun b o hb e=>eb b o hb e) f0 f1 f3 f4 f5⟩
 self:=fun _ _ _ _ _ st h=>wpAny_pyIter_listiter st h
theorem zj8{P:Program}{w:World}{K:PySem.W.Frag}{tg:Expr}(a it:Addr):zus P w K tg (Itt K a) [it] it (fun i h=>h.IsTupleIter it a i) where
 mem:=by simp
 obj:=fun i h st b hb=>by
  have e:b=it:=by simpa using hb
  subst e
  obtain⟨o,e,c,d⟩:=st
  exact⟨o,e,fun v z=>by rw[d] at z;cases z⟩
 keep:=fun i h h' st k=>st.at fun o e=>k it (by simp) o e
 item:=by
  intro X hP hw hK hc i pins s σ H E I hf st hg
  subst hP hw hK
  obtain⟨xs,x,hq,hx⟩:=hg
  obtain⟨aa,rv,p,hz⟩:=I.tuple hq
  obtain⟨u,hu,ru⟩:=rv.get hx
  obtain⟨f0,f1,f2,f3,f4,f5⟩:=hf it (by simp)
  refine wpAny_pyNext_tuple_item st (show s.heap.IsTuple a aa.toArray from p) (x:=u) (by simpa using hu) fun h' ad sb=>?_
  have I1:Inv X pins σ H { s with heap:=h' }:=I.turned (t':=s.toks) (fun b o hb e=>(sb.2 b hb).trans e) f0 f1 f3 f4 f5
  obtain⟨o,e,c,d⟩:=id ad
  exact⟨u,rfl,ztm (s:={ s with heap:=h' }) e c d (by decide) ⟨x,H,I1,ru,⟨rfl,fun ys hy=>by rw[I.tuple_inj hy hq];exact hx⟩,ad,fun b hb=>(hf b hb).1⟩⟩
 done:=by
  intro X hP hw hK hc i pins s σ H E I hf st hg
  subst hP hw hK
  obtain⟨xs,hq,hx⟩:=hg
  obtain⟨aa,rv,p,hz⟩:=I.tuple hq
  obtain⟨f0,f1,f2,f3,f4,f5⟩:=hf it (by simp)
  have hl:=rv.length
  exact wpAny_pyNext_tuple_end (I.ok.hd hc) st (show s.heap.IsTuple a aa.toArray from p) (by simp;omega) fun h' eb=>⟨rfl,I.turned (t':=s.toks) (fun b o hb e=>eb b o hb e) f0 f1 f3 f4 f5⟩
 self:=fun _ _ _ _ _ st h=>wpAny_pyIter_tupleiter st h
theorem zpw{P:Program}{w:World}{K:PySem.W.Frag}{tg:Expr}(it:Addr)(lo:Int)(n:Nat):zus P w K tg (Itr lo n) [it] it (fun i h=>IsRangeIter h it (lo+(i:Nat)*1) ((n:Int)-(i:Nat)) 1) where
 mem:=by simp
 obj:=fun i h st b hb=>by
  have e:b=it:=by simpa using hb
  subst e
  exact⟨_,st,fun v z=>by
   have z':Data.fields _=Data.cell v:=z
   cases z'⟩
 keep:=fun i h h' st k=>k it (by simp) _ st
 item:=by
  intro X hP hw hK hc i pins s σ H E I hf st hg
  subst hP hw hK
  obtain⟨f0,f1,f2,f3,f4,f5⟩:=hf it (by simp)
  have W:=Walks.range (prog:=X.prog) (w:=X.w) (I.ok.hd hc) it lo 1 n
  refine W.item i s _ _ hg st fun v h' tk hv aa kk=>?_
  obtain⟨t,rfl⟩:=hv
  have I1:Inv X pins σ H { s with heap:=h',toks:=tk }:=I.turned (fun b o hb e=>kk b o (by simpa using hb) e) f0 f1 f3 f4 f5
  refine⟨_,rfl,ztm (s:={ s with heap:=h',toks:=tk }) (n := "range_iterator") aa rfl rfl (by decide) ⟨.int (lo+i),H,I1,⟨t,?_⟩,⟨rfl,rfl⟩,aa,fun b hb=>(hf b hb).1⟩⟩
  rw[Int.mul_one]
 done:=by
  intro X hP hw hK hc i pins s σ H E I hf st hg
  subst hP hw hK
  obtain⟨f0,f1,f2,f3,f4,f5⟩:=hf it (by simp)
  exact wpAny_pyNext_range_end (I.ok.hd hc) st (by have:n≤i:=hg;omega) fun h' eb=>⟨rfl,I.turned (t':=s.toks) (fun b o hb e=>eb b o hb e) f0 f1 f3 f4 f5⟩
 self:=fun _ _ _ _ _ st h=>wpAny_pyIter_rangeiter st h
section
variable {X : Cx} {tg : Expr}
def zwz(K:PySem.W.Frag)(tl:TE):TI:=fun σ H R=>tl σ H fun x H1=>∃a,x=.ref a∧(∃xs,SqL K H1 a xs)∧R (Itl K a) H1
def zyd(K:PySem.W.Frag)(tl:TE):TI:=fun σ H R=>tl σ H fun x H1=>∃a,x=.ref a∧(∃xs,SqT K H1 a xs)∧R (Itt K a) H1
theorem zv3{l:Expr}{tl:TE}(hl:PE X l tl):PI X tg l (zwz X.K tl):=by
 intro pins s σ H R I h
 refine thn (hl pins s σ H _ I h) fun v s1 ⟨x,H1,I1,r1,q1⟩=>?_
 obtain⟨a,e,⟨xs,hq⟩,q⟩:=q1
 subst e
 cases r1
 obtain⟨aa,rv,p,hz⟩:=I1.list hq
 refine wpAny_pyIter_list p.isList ?_
 refine⟨s1.heap.objs.size,[s1.heap.objs.size],_,_,H1,rfl,I1.kept (t':=s1.toks) fun b o e=>Heap.get?_push_of_some _ e,zlq a _,⟨_,Heap.get?_push_size _ rfl,rfl,rfl⟩,fun b hb=>?_,q⟩
 have e:b=s1.heap.objs.size:=by simpa using hb
 subst e
 exact I1.fpOk (Nat.le_refl _) (I1.hok.fresh (Nat.le_refl _))
theorem zxo{l:Expr}{tl:TE}(hl:PE X l tl):PI X tg l (zyd X.K tl):=by
 intro pins s σ H R I h
 refine thn (hl pins s σ H _ I h) fun v s1 ⟨x,H1,I1,r1,q1⟩=>?_
 obtain⟨a,e,⟨xs,hq⟩,q⟩:=q1
 subst e
 cases r1
 obtain⟨aa,rv,p,hz⟩:=I1.tuple hq
 refine wpAny_pyIter_tuple (show s1.heap.IsTuple a aa.toArray from p) ?_
 refine⟨s1.heap.objs.size,[s1.heap.objs.size],_,_,H1,rfl,I1.kept (t':=s1.toks) fun b o e=>Heap.get?_push_of_some _ e,zj8 a _,⟨_,Heap.get?_push_size _ rfl,rfl,rfl⟩,fun b hb=>?_,q⟩
 have e:b=s1.heap.objs.size:=by simpa using hb
 subst e
 exact I1.fpOk (Nat.le_refl _) (I1.hok.fresh (Nat.le_refl _))
theorem zn1{pins:List (Addr×Obj)}{σ:St}{H:Hp}{s:Shared}{R:It→Hp→Prop}{E:Value→Shared→Prop}{lo hi:Int}{t u v:Tok}{tk:Nat}(I:Inv X pins σ H s)(h1 : -(2^62)≤lo)(h2:lo<2^62)(h3 : -(2^62)≤hi)(h4:hi<2^62)
  (q:R (Itr lo (hi-lo).toNat) H):wpAny (model X.prog X.w) X.A (pyIter (.ref s.heap.objs.size)) (PIE X pins σ tg R) E { s with heap:=s.heap.push { cls:=.type "range",data:=.fields #[.int lo t,.int hi u,.int 1 v] },toks:=tk }:=by
 refine wpAny_pyIter_range (IsRange.new ..) (small_one h1 h2 h3 h4) ?_
 have I1:Inv X pins σ H { s with heap:=s.heap.push { cls:=.type "range",data:=.fields #[.int lo t,.int hi u,.int 1 v] },toks:=tk }:=I.kept fun b o e=>Heap.get?_push_of_some _ e
 refine⟨(s.heap.push { cls:=.type "range",data:=.fields #[.int lo t,.int hi u,.int 1 v] }).objs.size,[(s.heap.push { cls:=.type "range",data:=.fields #[.int lo t,.int hi u,.int 1 v] }).objs.size],_,_,H,rfl,
  I1.kept (t':=tk) fun b o e=>Heap.get?_push_of_some _ e,zpw _ lo (hi-lo).toNat,?_,fun b hb=>?_,q⟩
 ·have e1:lo+((0:Nat):Int)*1=lo:=by simp
  have e2:(((hi-lo).toNat:Nat):Int)-((0:Nat):Int)=Builtin.Range.rangeSize lo hi 1:=by rw[rangeSize_one];split<;>omega
  show IsRangeIter _ _ (lo+((0:Nat):Int)*1) ((((hi-lo).toNat:Nat):Int)-((0:Nat):Int)) 1
  rw[e1,e2]
  exact Heap.get?_push_size _ rfl
 ·have e:b=(s.heap.push { cls:=.type "range",data:=.fields #[.int lo t,.int hi u,.int 1 v] }).objs.size:=by simpa using hb
  subst e
  exact I1.fpOk (Nat.le_refl _) (I1.hok.fresh (Nat.le_refl _))
def zy4(ta:TA):TI:=fun σ H R=>ta σ H fun vs H1=>∃j:Int,vs=[.int j]∧-(2^62)≤j∧j<2^62∧R (Itr 0 j.toNat) H1
def zyx(ta:TA):TI:=fun σ H R=>ta σ H fun vs H1=>∃i j:Int,vs=[.int i,.int j]∧(-(2^62)≤i∧i<2^62∧-(2^62)≤j∧j<2^62)∧R (Itr i (j-i).toNat) H1
theorem zdc{a:Expr}{ta:TA}{p pos:Pos}(hg:Gl X "range")(hm:X.mg "range" = none)(ha:PA X [a] ta)(hs:starEach [a] X.env=[(false,eval a X.env)]:=by rfl):PI X tg (.Call (.Name "range" p) [a] [] pos) (zy4 ta):=by
 intro pins s σ H R I h
 refine Call_ (zj9 I hg hm boot_range (PyProof.Rows.callWith_type1 (thn (ha pos pins s σ H _ I h) fun us s1 ⟨vs,H1,I1,r1,q1⟩=>?_) hs rfl))
 obtain⟨j,e,q1,q2,q⟩:=q1
 subst e
 cases r1 with
 |cons r rr=>
  cases rr
  obtain⟨t,rfl⟩:=r
  exact call_range_1 (zn1 I1 (by omega) (by omega) q1 q2 (by simpa using q))
theorem zl0{a b:Expr}{ta:TA}{p pos:Pos}(hg:Gl X "range")(hm:X.mg "range" = none)(ha:PA X [a,b] ta)(hs:starEach [a,b] X.env=[(false,eval a X.env),(false,eval b X.env)]:=by rfl)(hs2:starEach [b] X.env=[(false,eval b X.env)]:=by rfl):
  PI X tg (.Call (.Name "range" p) [a,b] [] pos) (zyx ta):=by
 intro pins s σ H R I h
 refine Call_ (zj9 I hg hm boot_range (PyProof.Rows.callWith_type1 (thn (ha pos pins s σ H _ I h) fun us s1 ⟨vs,H1,I1,r1,q1⟩=>?_) (by rw[hs,hs2]) (by rw[hs2];rfl)))
 obtain⟨i,j,e,⟨q1,q2,q3,q4⟩,q⟩:=q1
 subst e
 cases r1 with
 |cons r rr=>
  cases rr with
  |cons r' rr=>
   cases rr
   obtain⟨t,rfl⟩:=r
   obtain⟨t',rfl⟩:=r'
   exact call_range_2 (zn1 I1 q1 q2 q3 q4 q)
def zzp(wi:TI)(g:TG)(tb:TS):TS:=fun D σ H=>wi σ H fun J H1=>∃W:Nat→Nat→St→Hp→Prop,(∃m,W 0 m σ H1)∧∀i m σ H,W i m σ H →
 (J.stop i H∧D.nx σ H)∨(J.go i H∧∃N:St→Hp→Prop,(∀σ' H',N σ' H'→∃m',m'<m∧W (i+1) m' σ' H')∧∀x H',J.yld i H x H'→g x σ H' fun σ2 H2=>tb { D with nx:=N,ct:=N,bk:=D.nx } σ2 H2)
def zih(fp:List Addr)(h:Heap):List (Addr×Obj):=fp.filterMap fun b=>(h.get? b).map fun o=>(b,o)
theorem zfb{fp:List Addr}{h:Heap}{b:Addr}{o:Obj}(hb:b∈fp)(e:h.get? b=some o):(b,o)∈zih fp h:=List.mem_filterMap.mpr ⟨b,hb,by rw[e];rfl⟩
theorem zrs{fp:List Addr}{h:Heap}{p:Addr×Obj}(hp:p∈zih fp h):p.1∈fp∧h.get? p.1=some p.2:=by
 obtain⟨b,hb,e⟩:=List.mem_filterMap.mp hp
 cases q:h.get? b with
 |none=>rw[q] at e;cases e
 |some o=>
  rw[q] at e
  have e':(b,o)=p:=Option.some.inj e
  subst e'
  exact⟨hb,q⟩
theorem Inv.pinned{pins:List (Addr×Obj)}{σ:St}{H:Hp}{s:Shared}{fp:List Addr}(I:Inv X pins σ H s)(hf:∀b∈fp,zi9 X pins H b)(ho:∀b∈fp,∃o,s.heap.get? b=some o∧∀v,o.data≠.cell v):Inv X (pins++zih fp s.heap) σ H s:=
 I.pins_of fun p hp=>(List.mem_append.mp hp).elim (fun z=>I.pin p (List.mem_append_right _ z)) fun z=>by
  obtain⟨hb,e⟩:=zrs z
  obtain⟨f0,f1,f2,_⟩:=hf p.1 hb
  obtain⟨o,e',d⟩:=ho p.1 hb
  rw[e] at e';cases e'
  exact⟨e,f0,f1,f2,d⟩
theorem Inv.unpinned{pins pl:List (Addr×Obj)}{σ:St}{H:Hp}{s:Shared}(I:Inv X (pins++pl) σ H s):Inv X pins σ H s:=I.pins_of fun p hp=>I.pin p (List.mem_append_right _ (List.mem_append_left _ hp))
theorem zb6{iter:Expr}{body:List Stmt}{wi:TI}{g:TG}{tb:TS}{pos:Pos}(hp:PassesOwn (model X.prog X.w) X.A X.env X.xe)(hc:X.calm=true)(hi:PI X tg iter wi)(hg:PG X tg g)(hb:PSs X body tb)
  (hs:∀x,foldedSetIterable iter X.env x=pure x:=by intro _;rfl):PS X (.For tg iter body [] pos) (zzp wi g tb):=by
 intro pins s σ H D I h
 refine wpAny_For (thn (hi pins s σ H _ I h) fun v s1 h1=>thn h1 fun am s2 h2=>?_) hs
 obtain⟨it,fp,tn,J,H2,e,I2,T,al,f2,W,⟨m0,w0⟩,ae⟩:=h2
 subst e
 have ad:∀{H':Hp},(∀b∈fp,H' b=none)→∀b∈fp,zi9 X pins H' b:=fun hn b hb=>⟨hn b hb,(f2 b hb).2⟩
 refine codeAny_forLoop_any (fun n s'=>∃i σ' H',Inv X pins σ' H' s'∧tn i s'.heap∧(∀b∈fp,H' b=none)∧W i n σ' H') ?_ m0 ⟨0,σ,H2,I2,al,fun b hb=>(f2 b hb).1,w0⟩
 rintro n s3 ⟨i,σ3,H3,I3,ai,ah,w3⟩
 rcases ae i n σ3 H3 w3 with⟨af,qn⟩|⟨go,N,hN,step⟩
 ·refine wpAny_passesOwn hp (thn (T.done X rfl rfl rfl hc i pins s3 σ3 H3 X.xe I3 (ad ah) ai af) fun r s4 ⟨hr,I4⟩=>?_)
  subst hr
  exact wpAny_execs_nil ⟨σ3,H3,I4,qn⟩
 ·refine wpAny_passesOwn hp (thn (T.item X rfl rfl rfl hc i pins s3 σ3 H3 X.xe I3 (ad ah) ai go) fun r s4 ⟨u,hr,h4⟩=>?_)
  subst hr
  refine wpAny_passesOwn hp (thn h4 fun _ s5 ⟨x,H5,I5,r5,y5,ag,aj⟩=>?_)
  have ak:=I5.pinned (ad aj) (T.obj _ _ ag)
  refine wpAny_passesOwn hp (thn (hg _ s5 σ3 H5 x u _ ak r5 (step x H5 y5)) fun _ s6 ⟨σ6,H6,I6,q6⟩=>?_)
  refine wpAny_passesOwn hp (thn (hb _ s6 σ6 H6 _ I6 q6) fun f s7 q7=>?_)
  have aa:∀{σ7:St} {H7:Hp},Inv X (pins++zih fp s5.heap) σ7 H7 s7→N σ7 H7→∃m,m<n∧∃i σ' H',Inv X pins σ' H' s7∧tn i s7.heap∧(∀b∈fp,H' b=none)∧W i m σ' H':=fun {σ7 H7} I7 n7=>by
   obtain⟨m',hm,w7⟩:=hN σ7 H7 n7
   refine⟨m',hm,i+1,σ7,H7,I7.unpinned,T.keep _ _ _ ag fun b hb o e=>(I7.pin (b,o) (List.mem_append_right _ (List.mem_append_right _ (zfb hb e)))).1,fun b hb=>?_,w7⟩
   obtain⟨o,e,d⟩:=T.obj _ _ ag b hb
   exact(I7.pin (b,o) (List.mem_append_right _ (List.mem_append_right _ (zfb hb e)))).2.1
  cases f with
  |next=>obtain⟨σ7,H7,I7,n7⟩:=q7;exact aa I7 n7
  |cont=>obtain⟨σ7,H7,I7,n7⟩:=q7;exact aa I7 n7
  |brk=>obtain⟨σ7,H7,I7,q7⟩:=q7;exact⟨σ7,H7,I7.unpinned,q7⟩
  |ret v=>obtain⟨x7,σ7,H7,I7,r7,q7⟩:=q7;exact⟨x7,σ7,H7,I7.unpinned,r7,q7⟩
end
theorem zce{K:PySem.W.Frag}{a:Addr}{xs:List V}{g:TG}{tb:TS}{D:zii}{σ:St}{H:Hp}(Pv:Nat→St→Hp→Prop)(h0:Pv 0 σ H)(hl:∀i σ H,i≤xs.length→Pv i σ H→SqL K H a xs)
  (hs:∀i x σ H,xs[i]?=some x→Pv i σ H→g x σ H fun σ2 H2=>tb { D with nx:=Pv (i+1),ct:=Pv (i+1),bk:=D.nx } σ2 H2) (hd:∀σ H,Pv xs.length σ H→D.nx σ H):
  ∃W:Nat→Nat→St→Hp→Prop,(∃m,W 0 m σ H)∧∀i m σ H,W i m σ H →
   ((Itl K a).stop i H∧D.nx σ H)∨((Itl K a).go i H∧∃N:St→Hp→Prop,(∀σ' H',N σ' H'→∃m',m'<m∧W (i+1) m' σ' H')∧∀x H',(Itl K a).yld i H x H'→g x σ H' fun σ2 H2=>tb { D with nx:=N,ct:=N,bk:=D.nx } σ2 H2):=by
 refine⟨fun i m σ H=>m=xs.length-i∧i≤xs.length∧Pv i σ H,⟨xs.length,by simp,Nat.zero_le _,h0⟩,?_⟩
 rintro i m σ H ⟨rfl,hi,p⟩
 have q:=hl i σ H hi p
 by_cases aa:i<xs.length
 ·refine .inr ⟨⟨xs,xs[i],q,by simp[aa]⟩,Pv (i+1),fun σ' H' p'=>⟨xs.length-(i+1),by omega,rfl,aa,p'⟩,fun x H' y=>?_⟩
  obtain⟨e,y⟩:=y
  subst e
  exact hs i x σ _ (y xs q) p
 ·have e:i=xs.length:=by omega
  subst e
  exact .inl ⟨⟨xs,q,Nat.le_refl _⟩,hd σ H p⟩
theorem zin{lo:Int}{n:Nat}{g:TG}{tb:TS}{D:zii}{σ:St}{H:Hp}(Pv:Nat→St→Hp→Prop)(h0:Pv 0 σ H)
  (hs:∀i σ H,i<n→Pv i σ H→g (.int (lo+i)) σ H fun σ2 H2=>tb { D with nx:=Pv (i+1),ct:=Pv (i+1),bk:=D.nx } σ2 H2) (hd:∀σ H,Pv n σ H→D.nx σ H):
  ∃W:Nat→Nat→St→Hp→Prop,(∃m,W 0 m σ H)∧∀i m σ H,W i m σ H →
   ((Itr lo n).stop i H∧D.nx σ H)∨((Itr lo n).go i H∧∃N:St→Hp→Prop,(∀σ' H',N σ' H'→∃m',m'<m∧W (i+1) m' σ' H')∧∀x H',(Itr lo n).yld i H x H'→g x σ H' fun σ2 H2=>tb { D with nx:=N,ct:=N,bk:=D.nx } σ2 H2):=by
 refine⟨fun i m σ H=>m=n-i∧i≤n∧Pv i σ H,⟨n,by simp,Nat.zero_le _,h0⟩,?_⟩
 rintro i m σ H ⟨rfl,hi,p⟩
 by_cases aa:i<n
 ·refine .inr ⟨aa,Pv (i+1),fun σ' H' p'=>⟨n-(i+1),by omega,rfl,aa,p'⟩,fun x H' y=>?_⟩
  obtain⟨e,y⟩:=y
  subst e y
  exact hs i σ _ aa p
 ·have e:i=n:=by omega
  subst e
  exact .inl ⟨Nat.le_refl _,hd σ H p⟩
abbrev R2:=V→V→Hp→VK→Prop
def OpR(X:Cx)(f:Value→Value→Sem Value)(r:R2):Prop:=
 ∀(pins:List (Addr×Obj))(s:Shared)(σ:St)(H:Hp)(x y:V)(v u:Value)(Q:VK),Inv X pins σ H s→RelV x v→RelV y u→r x y H Q →
  wpAny (model X.prog X.w) X.A (f v u) (EP X pins σ Q) X.xe s
def UnR(X:Cx)(f:Value→Sem Value)(r:V→Hp→VK→Prop):Prop:=
 ∀(pins:List (Addr×Obj))(s:Shared)(σ:St)(H:Hp)(x:V)(v:Value)(Q:VK),Inv X pins σ H s→RelV x v→r x H Q →
  wpAny (model X.prog X.w) X.A (f v) (EP X pins σ Q) X.xe s
def zef(X:Cx)(f:Value)(r:List V→Hp→VK→Prop):Prop:=
 ∀(pins:List (Addr×Obj))(s:Shared)(σ:St)(H:Hp)(xs:List V)(us:List Value)(Q:VK),Inv X pins σ H s→Vals xs us→r xs H Q →
  wpAny (model X.prog X.w) X.A (call f us) (EP X pins σ Q) X.xe s
def tOp(r:R2)(ta tb:TE):TE:=fun σ H Q=>ta σ H fun x H1=>tb σ H1 fun y H2=>r x y H2 Q
def tUn(r:V→Hp→VK→Prop)(ta:TE):TE:=fun σ H Q=>ta σ H fun x H1=>r x H1 Q
def rI(C:Int→Int→Prop)(g:Int→Int→V):R2:=fun x y H Q=>∃i j,x=.int i∧y=.int j∧C i j∧Q (g i j) H
def rI0(g:Int→Int→V):R2:=fun x y H Q=>∃i j,x=.int i∧y=.int j∧Q (g i j) H
def rU(g:Int→V):V→Hp→VK→Prop:=fun x H Q=>∃i,x=.int i∧Q (g i) H
section
variable {X : Cx} {a b c : Expr} {ta tb tc : TE} {pos : Pos}
theorem zw9(ha:PE X a ta)(hb:PE X b tb){pins:List (Addr×Obj)}{s:Shared}{σ:St}{H:Hp}{R:V→V→Hp→Prop}(I:Inv X pins σ H s)
  (h:ta σ H fun x H1=>tb σ H1 fun y H2=>R x y H2) {Q:Value→Shared→Prop} {f:Value→Value→Sem Value}
  (hf:∀v u s2 x y H2,Inv X pins σ H2 s2→RelV x v→RelV y u→R x y H2→wpAny (model X.prog X.w) X.A (f v u) Q X.xe s2):
  wpAny (model X.prog X.w) X.A (eval a X.env) (fun v s₁=>wpAny (model X.prog X.w) X.A (eval b X.env) (fun u s₂=>wpAny (model X.prog X.w) X.A (f v u) Q X.xe s₂) X.xe s₁) X.xe s:=by
 refine thn (ha pins s σ H _ I h) fun v s1 ⟨x,H1,I1,r1,q1⟩=>?_
 refine thn (hb pins s1 σ H1 _ I1 q1) fun u s2 ⟨y,H2,I2,r2,q2⟩=>?_
 exact hf v u s2 x y H2 I2 r1 r2 q2
theorem zav{op:Operator}{r:R2}(ho:OpR X (binaryOp op) r)(ha:PE X a ta)(hb:PE X b tb):PE X (.BinOp a op b pos) (tOp r ta tb):=by
 intro pins s σ H Q I h
 exact wpAny_BinOp (zw9 ha hb I h fun v u s2 x y H2 I2 rx ry q=>ho pins s2 σ H2 x y v u Q I2 rx ry q)
theorem zoy{op:UnaryOp}{r:V→Hp→VK→Prop}(ho:UnR X (unaryOp op) r)(ha:PE X a ta):PE X (.UnaryOp op a pos) (tUn r ta):=by
 intro pins s σ H Q I h
 exact UnaryOp_ (thn (ha pins s σ H _ I h) fun v s1 ⟨x,H1,I1,r1,q1⟩=>ho pins s1 σ H1 x v Q I1 r1 q1)
theorem opI{f:Value→Value→Sem Value}{C:Int→Int→Prop}{g:Int→Int→Int}
  (rule:∀(i j:Int)(t u:Tok)(s:Shared)(Q:Value→Shared→Prop)(E:Value→Shared→Prop),C i j→Q (.int (g i j) s.toks) { s with toks:=s.toks+1 }→wpAny (model X.prog X.w) X.A (f (.int i t) (.int j u)) Q E s):
  OpR X f (rI C fun i j=>.int (g i j)):=by
 intro pins s σ H x y v u Q I rx ry h
 obtain⟨i,j,rfl,rfl,hc,q⟩:=h
 obtain⟨t,rfl⟩:=rx
 obtain⟨t',rfl⟩:=ry
 exact rule i j t t' s _ _ hc ⟨.int (g i j),H,I.tok _,⟨_,rfl⟩,q⟩
theorem zve{f:Value→Value→Sem Value}{g:Int→Int→Int}
  (rule:∀(i j:Int)(t u:Tok)(s:Shared)(Q:Value→Shared→Prop)(E:Value→Shared→Prop),Q (.int (g i j) s.toks) { s with toks:=s.toks+1 }→wpAny (model X.prog X.w) X.A (f (.int i t) (.int j u)) Q E s):
  OpR X f (rI0 fun i j=>.int (g i j)):=by
 intro pins s σ H x y v u Q I rx ry h
 obtain⟨i,j,rfl,rfl,q⟩:=h
 obtain⟨t,rfl⟩:=rx
 obtain⟨t',rfl⟩:=ry
 exact rule i j t t' s _ _ ⟨.int (g i j),H,I.tok _,⟨_,rfl⟩,q⟩
theorem zv8{f:Value→Value→Sem Value}{g:Int→Int→Bool}
  (rule:∀(i j:Int)(t u:Tok)(s:Shared)(Q:Value→Shared→Prop)(E:Value→Shared→Prop),Q (.bool (g i j)) s→wpAny (model X.prog X.w) X.A (f (.int i t) (.int j u)) Q E s):
  OpR X f (rI0 fun i j=>.bl (g i j)):=by
 intro pins s σ H x y v u Q I rx ry h
 obtain⟨i,j,rfl,rfl,q⟩:=h
 obtain⟨t,rfl⟩:=rx
 obtain⟨t',rfl⟩:=ry
 exact rule i j t t' s _ _ ⟨.bl (g i j),H,I,rfl,q⟩
def zzl(i j:Int):Prop:=0<j∧j<1073741824
def zyw(i j:Int):Prop:=0≤j∧j≤1000000∧i.natAbs<2^64
def CMul(i j:Int):Prop:=(-(2^64)<i∧i<2^64)∨(-(2^64)<j∧j<2^64)
theorem CMul.ok{i j:Int}(h:CMul i j):IntMulOk i j:=by
 rcases h with⟨h1,h2⟩|⟨h1,h2⟩
 ·exact .of_left (intBits_le_64 h1 h2)
 ·exact .of_right (intBits_le_64 h1 h2)
theorem two_pow_nn(k:Nat):(0:Int)≤2^k:=by
 rw[two_pow_cast]
 exact Int.natCast_nonneg _
theorem zb9:OpR X (binaryOp .Add) (rI0 fun i j=>.int (i+j)):=zve fun _ _ _ _ _ _ _ q=>add_int q
theorem zgk:OpR X (binaryOp .Sub) (rI0 fun i j=>.int (i-j)):=zve fun _ _ _ _ _ _ _ q=>sub_int q
theorem zel:OpR X (binaryOp .Mult) (rI CMul fun i j=>.int (i*j)):=opI fun _ _ _ _ _ _ _ hc q=>mul_int q hc.ok
theorem zq7:OpR X (binaryOp .FloorDiv) (rI zzl fun i j=>.int (i/j)):=opI fun i j _ _ _ _ _ hc q=>by
 have h1:(0:Int)<j:=hc.1
 have h2:j<1073741824:=hc.2
 exact floordiv_int (by omega) (by rw[Int.fdiv_eq_ediv_of_nonneg i (by omega)];exact q) (.inl (PyProof.noPylong_small (by omega)))
theorem zf1:OpR X (binaryOp .Mod) (rI (fun _ j=>0<j) fun i j=>.int (i%j)):=opI fun i j _ _ _ _ _ hc q=>by
 have h1:(0:Int)<j:=hc
 exact mod_int' (by omega) (by rw[Int.fmod_eq_emod_of_nonneg i (by omega)];exact q)
theorem zxf:OpR X (binaryOp .Pow) (rI zyw fun i j=>.int (i^j.toNat)):=opI fun _ _ _ _ _ _ _ hc q=>pow_int_small hc.1 hc.2.1 hc.2.2 q
theorem zio:OpR X (binaryOp .LShift) (rI zyw fun i j=>.int (i*2^j.toNat)):=opI fun _ _ _ _ _ _ _ hc q=>lshift_int_small hc.1 hc.2.1 hc.2.2 q
theorem zet:OpR X (binaryOp .RShift) (rI (fun _ j=>0≤j) fun i j=>.int (i/2^j.toNat)):=opI fun i j _ _ _ _ _ hc q=>
 rshift_int hc (by rw[Int.fdiv_eq_ediv_of_nonneg i (two_pow_nn _)];exact q)
theorem zc6:OpR X (binaryOp .BitAnd) (rI0 fun i j=>.int (Builtin.bitAnd i j)):=zve fun _ _ _ _ _ _ _ q=>and_int q
theorem zob:OpR X (binaryOp .BitOr) (rI0 fun i j=>.int (Builtin.bitOr i j)):=zve fun _ _ _ _ _ _ _ q=>or_int q
theorem unI{f:Value→Sem Value}{g:Int→Int}
  (rule:∀(i:Int)(t:Tok)(s:Shared)(Q:Value→Shared→Prop)(E:Value→Shared→Prop),Q (.int (g i) s.toks) { s with toks:=s.toks+1 }→wpAny (model X.prog X.w) X.A (f (.int i t)) Q E s):
  UnR X f (rU fun i=>.int (g i)):=by
 intro pins s σ H x v Q I rx h
 obtain⟨i,rfl,q⟩:=h
 obtain⟨t,rfl⟩:=rx
 exact rule i t s _ _ ⟨.int (g i),H,I.tok _,⟨_,rfl⟩,q⟩
theorem zkm:UnR X (unaryOp .USub) (rU fun i=>.int (-i)):=unI fun _ _ _ _ _ q=>neg_int q
end
def zy0:V→V→Bool
 |.non,.non=>true|.non,.int _=>true|.int _,.non=>true|.non,.bl _=>true|.bl _,.non=>true|.non,.str _=>true|.str _,.non=>true
 |.int _,.int _=>true|.bl _,.bl _=>true|.str _,.str _=>true|.byt _,.byt _=>true
 |.int _,.str _=>true|.str _,.int _=>true|.bl _,.str _=>true|.str _,.bl _=>true
 |_,_=>false
def rEq:R2:=fun x y H Q=>zy0 x y=true∧Q (.bl (decide (x=y))) H
def rNe:R2:=fun x y H Q=>zy0 x y=true∧Q (.bl (!decide (x=y))) H
theorem zjk{i j:Int}:decide (V.int i=V.int j)=(i==j):=by
 rw[Bool.eq_iff_iff]
 simp
theorem zs9{i j:Bool}:decide (V.bl i=V.bl j)=(i==j):=by
 rw[Bool.eq_iff_iff]
 simp
theorem zq5{i j:Str}:decide (V.str i=V.str j)=(i==j):=by
 rw[Bool.eq_iff_iff]
 simp
theorem zrd{i j:Array UInt8}:decide (V.byt i=V.byt j)=(i.toList==j.toList):=by
 rw[Bool.eq_iff_iff]
 cases i
 cases j
 simp
section
variable {X : Cx} {a b c : Expr} {ta tb tc : TE} {pos : Pos}
theorem zbe{pins:List (Addr×Obj)}{σ:St}{H:Hp}{s:Shared}{Q:VK}{k k':Bool}(I:Inv X pins σ H s)(q:Q (.bl k) H)(e:k=k'):EP X pins σ Q (.bool k') s:=by
 subst e
 exact⟨.bl k,H,I,rfl,q⟩
theorem zb3:OpR X (compareOp .Eq) rEq:=by
 intro pins s σ H x y v u Q I rx ry h
 obtain⟨hs,q⟩:=h
 cases x with
 |non=>
  cases rx
  cases y with
  |non=>cases ry;exact PySem.EqNone.eq_none_none (zbe I q (by simp))
  |bl j=>cases ry;exact PySem.EqNone.eq_none_bool (zbe I q (by simp))
  |int j=>obtain⟨t',rfl⟩:=ry;exact PySem.EqNone.eq_none_int (zbe I q (by simp))
  |str j=>obtain⟨t',rfl⟩:=ry;exact PySem.EqNone.eq_none_str (zbe I q (by simp))
  |_=>exact absurd (show false=true from hs) Bool.false_ne_true
 |bl i=>
  cases rx
  cases y with
  |non=>cases ry;exact PySem.EqNone.eq_bool_none (zbe I q (by simp))
  |bl j=>cases ry;exact eq_bool (zbe I q zs9)
  |str j=>obtain⟨t',rfl⟩:=ry;exact PySem.EqMixed.eq_bool_str (zbe I q (by simp))
  |_=>exact absurd (show false=true from hs) Bool.false_ne_true
 |int i=>
  obtain⟨t,rfl⟩:=rx
  cases y with
  |non=>cases ry;exact PySem.EqNone.eq_int_none (zbe I q (by simp))
  |int j=>obtain⟨t',rfl⟩:=ry;exact eq_int (zbe I q zjk)
  |str j=>obtain⟨t',rfl⟩:=ry;exact PySem.EqMixed.eq_int_str (zbe I q (by simp))
  |_=>exact absurd (show false=true from hs) Bool.false_ne_true
 |str i=>
  obtain⟨t,rfl⟩:=rx
  cases y with
  |non=>cases ry;exact PySem.EqNone.eq_str_none (zbe I q (by simp))
  |bl j=>cases ry;exact PySem.EqMixed.eq_str_bool (zbe I q (by simp))
  |int j=>obtain⟨t',rfl⟩:=ry;exact PySem.EqMixed.eq_str_int (zbe I q (by simp))
  |str j=>obtain⟨t',rfl⟩:=ry;exact eq_str (zbe I q zq5)
  |_=>exact absurd (show false=true from hs) Bool.false_ne_true
 |byt i=>
  obtain⟨t,rfl⟩:=rx
  cases y with
  |byt j=>obtain⟨t',rfl⟩:=ry;exact PySem.W.eq_bytes (zbe I q zrd)
  |_=>exact absurd (show false=true from hs) Bool.false_ne_true
 |_=>cases y<;>exact absurd (show false=true from hs) Bool.false_ne_true
theorem zos:OpR X (compareOp .NotEq) rNe:=by
 intro pins s σ H x y v u Q I rx ry h
 obtain⟨hs,q⟩:=h
 cases x with
 |non=>
  cases rx
  cases y with
  |non=>cases ry;exact PySem.EqNone.ne_none_none (zbe I q (by simp))
  |bl j=>cases ry;exact PySem.EqNone.ne_none_bool (zbe I q (by simp))
  |int j=>obtain⟨t',rfl⟩:=ry;exact PySem.EqNone.ne_none_int (zbe I q (by simp))
  |str j=>obtain⟨t',rfl⟩:=ry;exact PySem.EqNone.ne_none_str (zbe I q (by simp))
  |_=>exact absurd (show false=true from hs) Bool.false_ne_true
 |bl i=>
  cases rx
  cases y with
  |non=>cases ry;exact PySem.EqNone.ne_bool_none (zbe I q (by simp))
  |bl j=>cases ry;exact ne_bool (zbe I q (congrArg not zs9))
  |str j=>obtain⟨t',rfl⟩:=ry;exact PySem.EqMixed.ne_bool_str (zbe I q (by simp))
  |_=>exact absurd (show false=true from hs) Bool.false_ne_true
 |int i=>
  obtain⟨t,rfl⟩:=rx
  cases y with
  |non=>cases ry;exact PySem.EqNone.ne_int_none (zbe I q (by simp))
  |int j=>obtain⟨t',rfl⟩:=ry;exact ne_int (zbe I q (congrArg not zjk))
  |str j=>obtain⟨t',rfl⟩:=ry;exact PySem.EqMixed.ne_int_str (zbe I q (by simp))
  |_=>exact absurd (show false=true from hs) Bool.false_ne_true
 |str i=>
  obtain⟨t,rfl⟩:=rx
  cases y with
  |non=>cases ry;exact PySem.EqNone.ne_str_none (zbe I q (by simp))
  |bl j=>cases ry;exact PySem.EqMixed.ne_str_bool (zbe I q (by simp))
  |int j=>obtain⟨t',rfl⟩:=ry;exact PySem.EqMixed.ne_str_int (zbe I q (by simp))
  |str j=>obtain⟨t',rfl⟩:=ry;exact ne_str (zbe I q (congrArg not zq5))
  |_=>exact absurd (show false=true from hs) Bool.false_ne_true
 |byt i=>
  obtain⟨t,rfl⟩:=rx
  cases y with
  |byt j=>obtain⟨t',rfl⟩:=ry;exact PySem.W.ne_bytes (zbe I q (congrArg not zrd))
  |_=>exact absurd (show false=true from hs) Bool.false_ne_true
 |_=>cases y<;>exact absurd (show false=true from hs) Bool.false_ne_true
theorem zoa:OpR X (compareOp .Lt) (rI0 fun i j=>.bl (decide (i<j))):=zv8 fun _ _ _ _ _ _ _ q=>lt_int q
theorem zl8:OpR X (compareOp .LtE) (rI0 fun i j=>.bl (decide (i≤j))):=zv8 fun _ _ _ _ _ _ _ q=>le_int q
theorem zix:OpR X (compareOp .Gt) (rI0 fun i j=>.bl (decide (j<i))):=zv8 fun _ _ _ _ _ _ _ q=>gt_int q
theorem zws:OpR X (compareOp .GtE) (rI0 fun i j=>.bl (decide (j≤i))):=zv8 fun _ _ _ _ _ _ _ q=>ge_int q
theorem zmy:OpR X (compareOp .Is) (fun x y H Q=>y=.non∧Q (.bl (decide (x=.non))) H):=by
 intro pins s σ H x y v u Q I rx ry h
 obtain⟨rfl,q⟩:=h
 cases ry
 refine is_none_gen (zbe I q ?_)
 cases x<;>first
  |(cases rx;rfl)
  |(obtain⟨t,rfl⟩:=rx;rfl)
theorem zgt:OpR X (compareOp .IsNot) (fun x y H Q=>y=.non∧Q (.bl (!decide (x=.non))) H):=by
 intro pins s σ H x y v u Q I rx ry h
 obtain⟨rfl,q⟩:=h
 cases ry
 refine isnot_none_gen (zbe I q ?_)
 cases x<;>first
  |(cases rx;rfl)
  |(obtain⟨t,rfl⟩:=rx;rfl)
theorem zau(b:Expr){op:CmpOp}(h:op≠.In:=by decide)(h2:op≠.NotIn:=by decide):behindInMarks op b=false:=by
 have e1:(op==CmpOp.In)=false:=by cases op<;>first|rfl|exact absurd rfl h
 have e2:(op==CmpOp.NotIn)=false:=by cases op<;>first|rfl|exact absurd rfl h2
 cases b<;>simp[behindInMarks,e1,e2]
theorem zbo{op:CmpOp}{r:R2}(ho:OpR X (compareOp op) r)(ha:PE X a ta)(hb:PE X b tb)(hm:behindInMarks op b=false):PE X (.Compare a [op] [b] pos) (tOp r ta tb):=by
 intro pins s σ H Q I h
 exact wpAny_Compare1 (zw9 ha hb I h fun v u s2 x y H2 I2 rx ry q=>ho pins s2 σ H2 x y v u Q I2 rx ry q) hm
def zyp(t:TE):TT:=fun σ H Q=>t σ H fun x H'=>∃k,x=.bl k∧Q k H'
theorem zap{op:CmpOp}{r:R2}(ho:OpR X (compareOp op) r)(ha:PE X a ta)(hb:PE X b tb)(hm:behindInMarks op b=false):PT X (.Compare a [op] [b] pos) (zyp (tOp r ta tb)):=by
 intro pins s σ H Q I h
 refine wpAny_isTrue_Compare1 (thn (ha pins s σ H _ I h) fun v s1 ⟨x,H1,I1,r1,q1⟩=>thn (hb pins s1 σ H1 _ I1 q1) fun u s2 ⟨y,H2,I2,r2,q2⟩=>
  thn (ho pins s2 σ H2 x y v u _ I2 r1 r2 q2) fun c s3 ⟨z,H3,I3,r3,k,e,q3⟩=>?_) hm
 subst e
 cases r3
 exact wpAny_truthy_bool ⟨H3,I3,q3⟩
def zw2(r r':R2)(ta tb tc:TE):TE:=fun σ H Q=>ta σ H fun x H1=>tb σ H1 fun y H2=>r x y H2 fun z H3=>∃k,z=.bl k ∧
 (if k=true then tc σ H3 fun w' H4=>r' y w' H4 Q else Q (.bl false) H3)
theorem ztv{op op':CmpOp}{r r':R2}(ho:OpR X (compareOp op) r)(ho':OpR X (compareOp op') r')(ha:PE X a ta)(hb:PE X b tb)(hc:PE X c tc)
  (hm:lastMarks [op,op'] [b,c]=false:=by with_unfolding_all rfl):PE X (.Compare a [op,op'] [b,c] pos) (zw2 r r' ta tb tc):=by
 intro pins s σ H Q I h
 refine Compare_chain (thn (ha pins s σ H _ I h) fun v s1 ⟨x,H1,I1,r1,q1⟩=>chain_link (thn (hb pins s1 σ H1 _ I1 q1) fun u s2 ⟨y,H2,I2,r2,q2⟩=>
  thn (ho pins s2 σ H2 x y v u _ I2 r1 r2 q2) fun d s3 ⟨z,H3,I3,r3,k,e,q3⟩=>?_)) hm
 subst e
 cases r3
 refine wpAny_truthy_bool ?_
 cases k with
 |false=>exact ite_ff ⟨.bl false,H3,I3,rfl,q3⟩
 |true=>exact ite_tt (chain_last (thn (hc pins s3 σ H3 _ I3 q3) fun w' s4 ⟨z',H4,I4,r4,q4⟩=>ho' pins s4 σ H4 y z' u w' Q I4 r2 r4 q4))
theorem zky:(sizeLine:Nat)<2^63:=by rw[sizeLine_eq];decide
theorem ze7{x:V}{us:List Value}(r:Vals [x] us):∃u,us=[u]∧RelV x u:=by
 cases r with
 |cons r1 r2=>cases r2;exact⟨_,rfl,r1⟩
theorem zx6{x y:V}{us:List Value}(r:Vals [x,y] us):∃u w',us=[u,w']∧RelV x u∧RelV y w':=by
 cases r with
 |cons r1 r2=>
  cases r2 with
  |cons r3 r4=>cases r4;exact⟨_,_,rfl,r1,r3⟩
theorem ziq(hc:X.calm=true):zef X (.builtin "max") (fun xs H Q=>∃i j,xs=[.int i,.int j]∧Q (.int (if j>i then j else i)) H):=by
 intro pins s σ H xs us Q I r h
 obtain⟨i,j,rfl,q⟩:=h
 obtain⟨u,w',rfl,⟨t,rfl⟩,⟨t',rfl⟩⟩:=zx6 r
 refine max_two_ints (I.ok.hd hc) fun h' tk k=>⟨_,H,I.kept k,?_,q⟩
 by_cases hj:j>i
 ·rw[if_pos hj,if_pos hj];exact⟨_,rfl⟩
 ·rw[if_neg hj,if_neg hj];exact⟨_,rfl⟩
theorem zs5:zef X (.type "int") (fun xs H Q=>(∃i,xs=[.int i]∧Q (.int i) H)∨∃k,xs=[.bl k]∧Q (.int (if k then 1 else 0)) H):=by
 intro pins s σ H xs us Q I r h
 rcases h with⟨i,rfl,q⟩|⟨k,rfl,q⟩
 ·obtain⟨u,rfl,t,rfl⟩:=ze7 r
  exact call_int_int ⟨.int i,H,I,⟨_,rfl⟩,q⟩
 ·obtain⟨u,rfl,r1⟩:=ze7 r
  cases r1
  exact call_int_bool ⟨.int (if k then 1 else 0),H,I.tok _,⟨_,rfl⟩,q⟩
end
structure ObjM(h:Heap)(x dx C:Addr)(mA:Str→Option Value):Prop where
 obj:h.get? x=some (PySem.W.instObj C dx)
 ns:h.Ns1 dx mA
 ne:dx≠x
theorem zsu{h:Heap}{dx:Addr}{mA:Str→Option Value}(n:h.Ns1 dx mA):∃od,h.get? dx=some od∧∀name,PySem.W.lookIn name od=some (mA name):=by
 obtain⟨o,es,ep,ho,hd,hk,_,hm⟩:=n
 refine⟨o,ho,fun name=>?_⟩
 have e:=hm name
 unfold nsFind findBy at e
 rw[←Array.find?_toList] at e
 unfold PySem.W.lookIn
 rw[hd]
 dsimp only
 split
 ·rename_i y q
  rw[q] at e
  exact congrArg some e
 ·rename_i q
  rw[q] at e
  have a:es.toList.any (·.refKey)=false:=by
   rw[List.any_eq_false]
   intro y hy
   obtain⟨z,t,aa⟩:=hk y (Array.mem_toList_iff.mp hy)
   simp[DictEntry.refKey,aa]
  have a':¬es.toList.any (·.refKey)=true:=by rw[a];exact Bool.false_ne_true
  rw[if_neg a']
  exact congrArg some e
theorem ObjM.look{h:Heap}{x dx C:Addr}{mA:Str→Option Value}(I:ObjM h x dx C mA):∃od,PySem.W.InstAt h x (PySem.W.instObj C dx) C (some od)∧∀name,PySem.W.lookIn name od=some (mA name):=
 let ⟨od,ho,hl⟩:=zsu I.ns
 ⟨od,⟨I.obj,rfl,rfl,ho⟩,hl⟩
section
variable {prog : Program} {w : World} {A : Around} {E : Value → Shared → Prop} {s : Shared} {K : PySem.W.Frag} {x dx C f : Addr} {mA : Str → Option Value} {name : Str} {v : Value}
theorem zvo{expr:Bool}{Q:Value→Shared→Prop}(X:K.In s.heap)(I:ObjM s.heap x dx C mA)(hg:PySem.W.plainGet K C name=true)(hh:PySem.W.hasDictIn K C=true)
  (ha:PySem.W.findIn K (.ref C) name=some none) (hv:mA name=some v) (hv':PySem.W.handedIn v=true) (h:Q v { s with toks:=s.toks+1 }):
  wpAny (model prog w) A (getAttr (.ref x) name expr) Q E s:=by
 obtain⟨od,J,hl⟩:=I.look
 exact PySem.W.get_value X J (PySem.W.plainGet_of hg).1 (PySem.W.findObj_own hh ha rfl (by rw[hl,hv])) hv' h
theorem zug{pl:Sem Bool}{Q:Value×List Value→Shared→Prop}(X:K.In s.heap)(I:ObjM s.heap x dx C mA)(hg:PySem.W.plainGet K C name=true)
  (hf:PySem.W.findIn K (.ref C) name=some (some (.ref f))) (ht:PySem.W.isFn K (.ref f)=true) (hv:mA name=none) (h:Q (.ref f,[.ref x]) s):
  wpAny (model prog w) A (getMethod (.ref x) name pl) Q E s:=by
 obtain⟨od,J,hl⟩:=I.look
 exact PySem.W.method_fn X J (PySem.W.plainGet_of hg).1 (PySem.W.plainGet_of hg).2 hf (beq_iff_eq.mp ht) (by show(PySem.W.lookIn name od).map (·.isSome)=some false;rw[hl,hv];rfl) h
theorem zv0{ns:List Str}{Q:Unit→Shared→Prop}(X:K.In s.heap)(I:ObjM s.heap x dx C mA)
  (hs:PySem.W.findIn K (.ref C) "__setattr__" = some (some (.builtin "object.__setattr__"))) (hp:PySem.W.plainOver K C=true) (ht:PySem.W.takerIn K C name=some none) (hh:PySem.W.hasDictIn K C=true)
  (hw:PySem.Within mA ns) (hsz:ns.length≤sizeLine)
  (h:∀h',ObjM h' x dx C (fun y=>if y=name then some v else mA y)→Heap.SameBut dx s.heap h'→Q () { s with heap:=h',toks:=s.toks+2 }):
  wpAny (model prog w) A (setAttr (.ref x) name v) Q E s:=by
 obtain⟨od,J,hl⟩:=I.look
 refine PySem.W.set_plain X J hs (PySem.W.osa_open (s:={ s with toks:=s.toks+1 }) (r:=none) X J hp ht fun b=>?_)
 obtain⟨cd,hc,ag⟩:=PySem.W.any_some hh
 have hx:s.heap.get? x=some ⟨.ref C,some dx,.plain,#[]⟩:=I.obj
 refine wpAny_bind (wpAny_pure (wpAny_bind (wpAny_bind (wpAny_loadPart hx (wpAny_bind (PySem.W.Looks.here (s:={ s with toks:=s.toks+1 }) (PySem.W.looks_clsIn X hc) ?_))))))
 rw[ag]
 refine wpAny_pure (a:=some dx) (wpAny_bind (wpAny_pure (wpAny_bind ?_)))
 refine wpAny_nsSet1 (s:={ s with toks:=s.toks+1 }) I.ns fun h' ad aa=>?_
 obtain⟨oD,ai,aj,af,ae,ah⟩:=ad.count (PySem.Within.cons name v hw)
 refine wpAny_bind (wpAny_lookBehind af (by rw[ae];exact pastItsLine_dict (Nat.le_trans ah (by rw[List.length_cons];omega))) ?_)
 exact wpAny_pure (h _ ⟨(aa.2 _ (Ne.symm I.ne)).trans I.obj,ad,I.ne⟩ aa)
theorem zu5{R:Result→Shared→Prop}{vs:List Value}{kw:List (Str×Value)}(X:K.In s.heap)(hm:PySem.W.makesIn K C=true)
  (hi:PySem.W.findIn K (.ref C) "__init__" = some (some (.ref f))) (hf:PySem.W.typeIn K (.ref f)=some (.type "function"))
  (h:codeAny (model prog w) (A.under (.builtin "type.__call__" ⟨.ref C::vs,kw⟩)) (.call (.ref f) ⟨.ref (s.heap.objs.size+1)::vs,kw⟩) (PySem.W.InitBack (s.heap.objs.size+1) R)
   { s with heap:=(s.heap.push PySem.W.emptyDict).push (PySem.W.instObj C s.heap.objs.size) }):
  codeAny (model prog w) A (.call (.ref C) ⟨vs,kw⟩) R s:=by
 obtain⟨hh,g,d,t,os⟩:=s
 exact PySem.W.make_core (PySem.W.makes_of X hm) (PySem.W.looks_findIn X hi) (fun aa=>PySem.W.bind_fn X aa hf) (.inl rfl) h
end
def zgy(f:Str)(v:V):List (Str×V)→List (Str×V)
 |[]=>[(f,v)]
 |(g,x)::r=>if g=f then (g,v)::r else (g,x)::zgy f v r
theorem zi1(f g:Str)(v:V):∀fs:List (Str×V),(zgy f v fs).lookup g=if g=f then some v else fs.lookup g
 |[]=>by
  show List.lookup g [(f,v)]=_
  by_cases h:g=f
  ·have hb:(g==f)=true:=beq_iff_eq.mpr h
   simp only[List.lookup,hb,if_pos h]
  ·have hb:(g==f)=false:=beq_eq_false_iff_ne.mpr h
   simp only[List.lookup,hb,if_neg h]
 |(k,x)::r=>by
  have ih:=zi1 f g v r
  rw[show zgy f v ((k,x)::r)=(if k=f then (k,v)::r else (k,x)::zgy f v r) from rfl]
  by_cases hk:k=f
  ·rw[if_pos hk]
   by_cases h:g=k
   ·have hb:(g==k)=true:=beq_iff_eq.mpr h
    simp only[List.lookup,hb,if_pos (h.trans hk)]
   ·have hb:(g==k)=false:=beq_eq_false_iff_ne.mpr h
    simp only[List.lookup,hb,if_neg (fun e:g=f=>h (e.trans hk.symm))]
  ·rw[if_neg hk]
   by_cases h:g=k
   ·have hb:(g==k)=true:=beq_iff_eq.mpr h
    simp only[List.lookup,hb,if_neg (fun e:g=f=>hk (h.symm.trans e))]
   ·have hb:(g==k)=false:=beq_eq_false_iff_ne.mpr h
    simp only[List.lookup,hb]
    exact ih
theorem zib(f:Str)(v:V):∀fs:List (Str×V),f∈(zgy f v fs).map (·.1)∧∀g,g∈fs.map (·.1)→g∈(zgy f v fs).map (·.1)
 |[]=>⟨by simp[zgy],fun g h=>by simp at h⟩
 |(k,x)::r=>by
  obtain⟨i1,i2⟩:=zib f v r
  rw[show zgy f v ((k,x)::r)=(if k=f then (k,v)::r else (k,x)::zgy f v r) from rfl]
  by_cases hk:k=f
  ·rw[if_pos hk]
   subst hk
   exact⟨by simp,fun g h=>by simpa using h⟩
  ·rw[if_neg hk]
   refine⟨?_,fun g h=>?_⟩
   ·rw[List.map_cons]
    exact List.mem_cons_of_mem _ i1
   ·rw[List.map_cons] at h ⊢
    rcases List.mem_cons.mp h with e|e
    ·exact List.mem_cons.mpr (.inl e)
    ·exact List.mem_cons_of_mem _ (i2 g e)
theorem zis(f:Str)(v:V):∀fs:List (Str×V),(zgy f v fs).length≤fs.length+1
 |[]=>by simp[zgy]
 |(k,x)::r=>by
  have ih:=zis f v r
  rw[show zgy f v ((k,x)::r)=(if k=f then (k,v)::r else (k,x)::zgy f v r) from rfl]
  by_cases hk:k=f
  ·rw[if_pos hk,List.length_cons,List.length_cons];omega
  ·rw[if_neg hk,List.length_cons,List.length_cons];omega
theorem RelO.some_of{v:V}{o:Option Value}(r:RelO (some v) o):∃u,o=some u∧RelV v u:=by
 cases o with
 |none=>exact(show False from r).elim
 |some u=>exact⟨u,rfl,r⟩
theorem RelO.none_of{o:Option Value}(r:RelO none o):o=none:=by
 cases o with
 |none=>rfl
 |some u=>exact(show False from r).elim
theorem zsy{v:V}{u:Value}(r:RelV v u):PySem.W.handedIn u=true:=by
 cases v with
 |non=>cases(show u=Value.none from r);rfl
 |bl b=>cases(show u=Value.bool b from r);rfl
 |int i=>obtain⟨t,e⟩:=(show ∃t,u=Value.int i t from r);cases e;rfl
 |str x=>obtain⟨t,e⟩:=(show ∃t,u=Value.str x t from r);cases e;rfl
 |byt b=>obtain⟨t,e⟩:=(show ∃t,u=Value.bytes b t from r);cases e;rfl
 |flt b=>obtain⟨t,e⟩:=(show ∃t,u=Value.float b t from r);cases e;rfl
 |ref a=>cases(show u=Value.ref a from r);rfl
 |ty n=>cases(show u=Value.type n from r);rfl
section
variable {P : Program} {w : World} {H H' : Hp} {h h' : Heap} {a C dx : Addr} {fs fs' : List (Str × V)}
theorem znn(hok:HOk P w H h)(e:H a=some (.ins C dx fs)):∃mA,ObjM h a dx C mA∧(∀f,RelO (fs.lookup f) (mA f))∧PySem.Within mA (fs.map (·.1))∧fs.length≤1000∧H dx=some (.own a):=by
 obtain⟨d,z,ne,ob,mA,n,r,q⟩:=(show ObjOk P w H h a (.ins C dx fs) from hok a _ e)
 exact⟨mA,⟨ob,n,ne⟩,r,q,z,d⟩
end
structure Cls(K:PySem.W.Frag)(C:Addr):Prop where
 pg:PySem.W.plainGet K C Str.empty=true
 hd:PySem.W.hasDictIn K C=true
 po:PySem.W.plainOver K C=true
 sa:PySem.W.findIn K (.ref C) "__setattr__" = some (some (.builtin "object.__setattr__"))
theorem Cls.get{K:PySem.W.Frag}{C:Addr}(c:Cls K C)(f:Str):PySem.W.plainGet K C f=true:=c.pg
def NoAttr(K:PySem.W.Frag)(C:Addr)(f:Str):Prop:=PySem.W.findIn K (.ref C) f=some none
theorem NoAttr.taker{K:PySem.W.Frag}{C:Addr}{f:Str}(n:NoAttr K C f):PySem.W.takerIn K C f=some none:=by
 unfold PySem.W.takerIn
 rw[show PySem.W.findIn K (.ref C) f=some none from n]
 rfl
structure znq(K:PySem.W.Frag)(C:Addr)(m:Str)(f:Addr):Prop where
 at_:PySem.W.findIn K (.ref C) m=some (some (.ref f))
 fn:PySem.W.isFn K (.ref f)=true
 kp:PySem.W.keepIn K (.ref f)=true
section
variable {X : Cx} {pins : List (Addr × Obj)} {σ : St} {H : Hp} {s : Shared} {a C dx : Addr} {fs : List (Str × V)} {f : Str} {v : V} {A : Around} {E : Value → Shared → Prop}
theorem zp5{b:Bool}{Q:Value→Shared→Prop}(I:Inv X pins σ H s)(e:H a=some (.ins C dx fs))(c:Cls X.K C)(n:NoAttr X.K C f)(l:fs.lookup f=some v)
  (h:∀u s',Inv X pins σ H s'→RelV v u→Q u s'):wpAny (model X.prog X.w) A (getAttr (.ref a) f b) Q E s:=by
 obtain⟨mA,O,r,_,_,_⟩:=znn I.hok e
 obtain⟨u,hu,ru⟩:=RelO.some_of (v:=v) (o:=mA f) (by rw[←l];exact r f)
 exact zvo I.kIn O (c.get f) c.hd n hu (zsy ru) (h u _ (I.tok _) ru)
theorem zko{m:Str}{g:Addr}{pl:Sem Bool}{Q:Value×List Value→Shared→Prop}(I:Inv X pins σ H s)(e:H a=some (.ins C dx fs))(c:Cls X.K C)(k:znq X.K C m g)(l:fs.lookup m=none)
  (h:Q (.ref g,[.ref a]) s):wpAny (model X.prog X.w) A (getMethod (.ref a) m pl) Q E s:=by
 obtain⟨mA,O,r,_,_,_⟩:=znn I.hok e
 have hn:mA m=none:=RelO.none_of (by rw[←l];exact r m)
 exact zug I.kIn O (c.get m) k.at_ k.fn hn h
theorem zqm{y:V}{u:Value}{Q:Unit→Shared→Prop}(I:Inv X pins σ H s)(e:H a=some (.ins C dx fs))(c:Cls X.K C)(n:NoAttr X.K C f)(hl:fs.length<1000)(ry:RelV y u)
  (h:∀s',Inv X pins σ (upd H a (.ins C dx (zgy f y fs))) s'→Q () s'):wpAny (model X.prog X.w) A (setAttr (.ref a) f u) Q E s:=by
 obtain⟨mA,O,r,wi,_,ho⟩:=znn I.hok e
 have hz:(fs.map (·.1)).length≤sizeLine:=by rw[List.length_map,sizeLine_eq];omega
 refine zv0 I.kIn O c.sa c.po n.taker c.hd wi hz fun h' O' sb=>h _ ?_
 have hd:∃o,h'.get? dx=some o:=let ⟨o,_,_,e',_⟩:=O'.ns;⟨o,e'⟩
 refine I.write (x:=a) (e:=dx) (by rw[e];exact True.intro) (.inr ho) (fun b q hb z=>(sb.2 b hb).trans z) hd ?_
 refine⟨by rw[zal O.ne];exact ho,?_,O.ne,O'.obj,_,O'.ns,fun g=>?_,fun g hg=>?_⟩
 ·have:=zis f y fs;omega
 ·show RelO ((zgy f y fs).lookup g) (if g=f then some u else mA g)
  rw[zi1]
  by_cases q:g=f
  ·rw[if_pos q,if_pos q];exact ry
  ·rw[if_neg q,if_neg q];exact r g
 ·by_cases q:g=f
  ·rw[q];exact(zib f y fs).1
  ·refine(zib f y fs).2 g (wi g fun z=>hg ?_)
   show(if g=f then some u else mA g)=none
   rw[if_neg q];exact z
theorem Inv.made(I:Inv X pins σ H s):Inv X pins σ (upd (upd H s.heap.objs.size (.own (s.heap.objs.size+1))) (s.heap.objs.size+1) (.ins C s.heap.objs.size []))
  { s with heap:=(s.heap.push PySem.W.emptyDict).push (PySem.W.instObj C s.heap.objs.size) }:=by
 have e1:(s.heap.push PySem.W.emptyDict).get? s.heap.objs.size=some PySem.W.emptyDict:=Heap.get?_push_size s.heap rfl
 have e2:((s.heap.push PySem.W.emptyDict).push (PySem.W.instObj C s.heap.objs.size)).get? (s.heap.objs.size+1)=some (PySem.W.instObj C s.heap.objs.size):=by
  have:=Heap.get?_push_size (s.heap.push PySem.W.emptyDict) (o:=PySem.W.instObj C s.heap.objs.size) rfl
  rwa [Heap.size_push] at this
 have e3:(s.heap.push PySem.W.emptyDict).Ns s.heap.objs.size (fun _=>none):=⟨PySem.W.emptyDict,#[],_,e1,rfl,(fun e he=>absurd he (by simp)),fun _=>rfl⟩
 have I1:=I.laid (a:=s.heap.objs.size) (o:=.own (s.heap.objs.size+1)) (h':=s.heap.push PySem.W.emptyDict) (t':=s.toks) (fun b u q=>Heap.get?_push_of_some _ q) (Nat.le_refl _) ⟨_,e1⟩
 refine I1.laid (a:=s.heap.objs.size+1) (o:=.ins C s.heap.objs.size []) (t':=s.toks) (fun b u q=>Heap.get?_push_of_some _ q) (Nat.le_of_eq (Heap.size_push _ _)) ?_
 have ne:s.heap.objs.size≠s.heap.objs.size+1:=Nat.ne_of_lt (Nat.lt_succ_self _)
 refine⟨by rw[zal ne,zab],Nat.zero_le _,ne,e2,fun _=>none,(Heap.Ns1.of_empty e3).at fun o q=>Heap.get?_push_of_some _ q,fun _=>True.intro,fun y hy=>absurd rfl hy⟩
theorem zvn{prog:Program}{w:World}{env:Env}{e:Expr}{f:Str}{pos:Pos}{s:Shared}{Q:Value→Shared→Prop}(hb:attributeBase e f env (eval e env)=eval e env)
  (h:wpAny (model prog w) A (eval e env) (fun o s₁=>wpAny (model prog w) A (getAttr o f true) Q E s₁) E s):wpAny (model prog w) A (eval (.Attribute e f pos) env) Q E s:=
 Attribute_any_ h (by rw[arm_eval_Attribute,hb])
end
def zyz(K:PySem.W.Frag)(ta:TE)(f:Str):TE:=fun σ H Q=>ta σ H fun x H1=>∃a C dx fs v,x=.ref a∧H1 a=some (.ins C dx fs)∧Cls K C∧NoAttr K C f∧fs.lookup f=some v∧Q v H1
def zy6(K:PySem.W.Frag)(ta tv:TE)(f:Str):TS:=fun D σ H=>tv σ H fun y H1=>ta σ H1 fun x H2=>∃a C dx fs,x=.ref a∧H2 a=some (.ins C dx fs)∧Cls K C∧NoAttr K C f∧fs.length<1000 ∧
 D.nx σ (upd H2 a (.ins C dx (zgy f y fs)))
section
variable {X : Cx} {o e value : Expr} {f : Str} {pos pos' tpos : Pos} {ta tv : TE}
theorem zb8(he:PE X e ta)(hb:attributeBase e f X.env (eval e X.env)=eval e X.env):PE X (.Attribute e f pos) (zyz X.K ta f):=by
 intro pins s σ H Q I h
 refine zvn hb (thn (he pins s σ H _ I h) fun u s1 ⟨x,H1,I1,rx,a,C,dx,fs,v,ex,ea,c,n,l,q⟩=>?_)
 subst ex
 obtain rfl:u=Value.ref a:=rx
 exact zp5 I1 ea c n l fun u' s2 I2 ru=>⟨v,H1,I2,ru,q⟩
theorem zpx(ha:PE X o ta)(hv:PE X value tv)(hs:swapsWith value (some (.Attribute o f pos')) pos.line X.env=pure false):PS X (.Assign [.Attribute o f pos'] value pos) (zy6 X.K ta tv f):=by
 intro pins s σ H D I h
 refine plainObj_wpAny_Assign_Attribute (thn (hv pins s σ H _ I h) fun u s1 ⟨y,H1,I1,ry,q⟩=>thn (ha pins s1 σ H1 _ I1 q) fun ov s2 ⟨x,H2,I2,rx,a,C,dx,fs,ex,ea,c,n,l,q2⟩=>?_) hs
 subst ex
 obtain rfl:ov=Value.ref a:=rx
 exact zqm I2 ea c n l ry fun s3 I3=>⟨σ,_,I3,q2⟩
end
structure Room(k:Nat)(A:Around):Prop where
 hd:A.handled=none
 dp:A.depth+3*k+5<recursionLimit
 un:A.units+16*k+200<cLine
theorem Room.mono{j k:Nat}{A:Around}(r:Room k A)(h:j≤k):Room j A:=⟨r.hd,by have:=r.dp;omega,by have:=r.un;omega⟩
theorem Room.deeper{k:Nat}{A:Around}(r:Room (k+1) A)(env:Env):Room k (A.deeper env):=
 ⟨r.hd,by have:=r.dp;show A.depth+1+3*k+5<_;omega,by have:=r.un;show A.units+3+16*k+200<_;omega⟩
theorem zqv{A:Around}{C:Addr}{us:List Value}{kw:List (Str×Value)}:(A.under (.builtin "type.__call__" ⟨.ref C::us,kw⟩)).depth=A.depth+1:=by
 first|rfl|simp[Around.under,Code.weight,Code.isCreation,Code.isGuard,Code.isCaller,Code.frames,Code.isFrame,guardIds]
theorem zqd{A:Around}{C:Addr}{us:List Value}{kw:List (Str×Value)}:(A.under (.builtin "type.__call__" ⟨.ref C::us,kw⟩)).units=A.units+1:=by
 first|rfl|simp[Around.under,Code.cUnits,Code.frames,Code.isFrame]
theorem Room.make{k:Nat}{A:Around}(r:Room (k+1) A)(C:Addr)(us:List Value)(kw:List (Str×Value)):Room k (A.under (.builtin "type.__call__" ⟨.ref C::us,kw⟩)):=
 ⟨r.hd,by have:=r.dp;rw[zqv];omega,by have:=r.un;rw[zqd];omega⟩
theorem Room.depth{k:Nat}{A:Around}(r:Room k A):A.depth<recursionLimit:=by have:=r.dp;omega
theorem Room.units{k:Nat}{A:Around}(r:Room k A):A.units+64<cLine:=by have:=r.un;omega
def zyl:TA:=fun _ H Q=>Q [] H
def zx7(ta:TE)(tr:TA):TA:=fun σ H Q=>ta σ H fun x H1=>tr σ H1 fun xs H2=>Q (x::xs) H2
section
variable {X : Cx} {e : Expr} {es : List Expr} {te : TE} {t : TA} {pos : Pos}
theorem zac:PA X [] zyl:=fun _ _ _ _ H Q I h=>Calls.spliced_nil ⟨[],H,I,.nil,h⟩
theorem zaa(ha:PE X e te)(hr:PA X es t)(hs:starEach (e::es) X.env=(false,eval e X.env)::starEach es X.env:=by rfl):PA X (e::es) (zx7 te t):=by
 intro pos pins s σ H Q I h
 rw[hs]
 show wpAny _ _ (spliced ((false,eval e X.env)::backTo pos (starEach es X.env))) _ _ s
 refine Calls.spliced_cons (thn (ha pins s σ H _ I h) fun u s1 ⟨x,H1,I1,r1,q1⟩=>?_)
 exact thn (hr pos pins s1 σ H1 _ I1 q1) fun us s2 ⟨xs,H2,I2,r2,q2⟩=>⟨x::xs,H2,I2,.cons r1 r2,q2⟩
def zze(t:TA):TE:=fun σ H Q=>t σ H fun xs H1=>xs.length≤sizeLine∧∀p,H1 p=none→Q (.ref p) (upd H1 p (.tup xs))
def zzh(t:TA):TE:=fun σ H Q=>t σ H fun xs H1=>xs.length≤sizeLine∧∀p,H1 p=none→Q (.ref p) (upd H1 p (.lst xs))
theorem zbc{x1}(h:PA X es t):PE X (.Tuple es x1 pos) (zze t):=by
 intro pins s σ H Q I hq
 refine wpAny_Tuple_spliced (thn (h pos pins s σ H _ I hq) fun us s1 ⟨xs,H1,I1,r,z,q⟩=>⟨by rw[←r.length];exact z,?_⟩)
 have hf:H1 s1.heap.objs.size=none:=I1.hok.fresh (Nat.le_refl _)
 refine⟨.ref s1.heap.objs.size,upd H1 s1.heap.objs.size (.tup xs),I1.laid (t':=s1.toks) (fun b u e=>Heap.get?_push_of_some _ e) (Nat.le_refl _) ?_,rfl,q _ hf⟩
 exact⟨z,us,r,⟨_,Heap.get?_push_size _ rfl,rfl,_,rfl⟩⟩
theorem zbb(h:PA X es t):PE X (.List es pos) (zzh t):=by
 intro pins s σ H Q I hq
 refine wpAny_List_spliced (thn (h pos pins s σ H _ I hq) fun us s1 ⟨xs,H1,I1,r,z,q⟩=>⟨by rw[←r.length];exact z,?_⟩)
 have hf:H1 s1.heap.objs.size=none:=I1.hok.fresh (Nat.le_refl _)
 refine⟨.ref s1.heap.objs.size,upd H1 s1.heap.objs.size (.lst xs),I1.laid (t':=s1.toks) (fun b u e=>Heap.get?_push_of_some _ e) (Nat.le_refl _) ?_,rfl,q _ hf⟩
 exact⟨z,us,0,r,Heap.get?_push_size _ rfl⟩
end
abbrev Sp:=List V→Hp→VK→XK→Prop
abbrev CXT:=List Env→Hp→Shared→XK→Value→Shared→Prop
structure Env0(P:Program)(w:World)(K:PySem.W.Frag)(mg:Str→Option Value)(base:Heap)(A:Around)(outer:List Env)(s:Shared)(H:Hp):Prop where
 frames:A.frames=some outer
 mod:Mod K mg base
 bs:∀b o,base.get? b=some o→s.heap.get? b=some o∧H b=none
 bsz:base.objs.size≤s.heap.objs.size
 funs:s.heap.FunFrames base outer
 frf:∀b∈frs outer,H b=none
 hok:HOk P w H s.heap
 bare:AllBare s.gens
def CE(outer:List Env)(P:Program)(w:World)(H:Hp)(s:Shared)(Q:VK)(u:Value)(s':Shared):Prop:=
 ∃v H',s'.os=s.os∧AllBare s'.gens∧Un (frs outer) [] H H' s.heap s'.heap∧HOk P w H' s'.heap∧RelV v u∧Q v H'
def CR(CX:CXT)(outer:List Env)(P:Program)(w:World)(H:Hp)(s:Shared)(Q:VK)(E:XK)(r:Result)(s':Shared):Prop:=
 match r with
 |.ok (.ret u)=>CE outer P w H s Q u s'
 |.ok _=>False
 |.error e=>CX outer H s E e s'
structure FnOk(P:Program)(w:World)(K:PySem.W.Frag)(mg:Str→Option Value)(base:Heap)(CX:CXT)(k:Nat)(f:Addr)(fd:FuncData)(ps:List Str)(sp:Sp):Prop where
 len:∀vs H Q E,sp vs H Q E→vs.length=ps.length
 run:∀(A:Around)(outer:List Env)(s:Shared)(H:Hp)(args:Args)(us:List Value)(vs:List V)(Q:VK)(E:XK),Room k A→Env0 P w K mg base A outer s H→BindsTo s fd args (ps.zip us)→Vals vs us→sp vs H Q E →
  codeAny (model P w) A (.call (.ref f) args) (CR CX outer P w H s Q E) s
theorem FnOk.imp{P:Program}{w:World}{K:PySem.W.Frag}{mg:Str→Option Value}{base:Heap}{CX:CXT}{k:Nat}{f:Addr}{fd:FuncData}{ps:List Str}{sp sp':Sp}(F:FnOk P w K mg base CX k f fd ps sp)
  (h:∀vs H Q E,sp' vs H Q E→sp vs H Q E):FnOk P w K mg base CX k f fd ps sp':=
 ⟨fun vs H Q E q=>F.len vs H Q E (h _ _ _ _ q),fun A outer s H args us vs Q E hr he hb hv hs=>F.run A outer s H args us vs Q E hr he hb hv (h _ _ _ _ hs)⟩
theorem Env0.make{P:Program}{w:World}{K:PySem.W.Frag}{mg:Str→Option Value}{base:Heap}{A:Around}{outer:List Env}{s:Shared}{H:Hp}(e:Env0 P w K mg base A outer s H)(C:Addr)(us:List Value)(kw:List (Str×Value)):
  Env0 P w K mg base (A.under (.builtin "type.__call__" ⟨.ref C::us,kw⟩)) outer s H:=⟨by first|exact e.frames|(simpa [Around.under,Code.envs,Code.isFrame,pushEnvs] using e.frames),e.mod,e.bs,e.bsz,e.funs,e.frf,e.hok,e.bare⟩
section
variable {X : Cx} {pins : List (Addr × Obj)} {σ : St} {H : Hp} {s s' : Shared}
theorem Inv.env0(I:Inv X pins σ H s):Env0 X.prog X.w X.K X.mg X.base X.A X.stack s H:=
 ⟨I.ok.frames,I.ok.mod,I.bs,Nat.le_trans I.ok.bsz I.sz,I.stack,I.stkFree,I.hok,I.bare⟩
theorem Inv.after{Q:VK}{u:Value}(I:Inv X pins σ H s)(h:CE X.stack X.prog X.w H s Q u s'):EP X pins σ Q u s':=by
 obtain⟨v,H',os,bare,un,ad,r,q⟩:=h
 obtain⟨hh,g,d,t,aa⟩:=s'
 obtain rfl:aa=s.os:=os
 exact⟨v,H',I.call (h':=hh) (g':=g) (d':=d) (t':=t) (ch:=[]) un ad bare (fun b z=>absurd z (by simp)),r,q⟩
end
def zww(sp:Sp)(dvs:List V)(E:XK)(t:TA):TE:=fun σ H Q=>t σ H fun vs H1=>sp (vs++dvs) H1 Q E
def zwq(C:Addr)(m:Str)(sp:Sp)(dvs:List V)(E:XK)(ta:TE)(t:TA):TE:=fun σ H Q=>ta σ H fun x H1=>∃a dx fs,x=.ref a∧H1 a=some (.ins C dx fs)∧fs.lookup m=none ∧
 t σ H1 fun vs H2=>sp (x::(vs++dvs)) H2 Q E
def zym(C:Addr)(sp:Sp)(dvs:List V)(E:XK)(t:TA):TE:=fun σ H Q=>t σ H fun vs H1=>∀x dx,H1 x=none→H1 dx=none→dx≠x →
 sp (.ref x::(vs++dvs)) (upd (upd H1 dx (.own x)) x (.ins C dx [])) (fun v H2=>v=.non∧Q (.ref x) H2) E
def Binds(K:PySem.W.Frag)(fd:FuncData)(ps:List Str)(ds:List Value):Prop:=
 ∀(s:Shared)(us:List Value),K.In s.heap→(us++ds).length=ps.length→BindsTo s fd ⟨us,[]⟩ (ps.zip (us++ds))
theorem Binds.all{K:PySem.W.Frag}{fd:FuncData}{ps:List Str}(h:∀us:List Value,us.length=ps.length→bindArgs fd ⟨us,[]⟩=pure (ps.zip us)):Binds K fd ps []:=fun s us _ hl=>by
 rw[List.append_nil] at hl ⊢
 exact .of_eq (h us hl)
def zg4(CX:CXT)(X:Cx)(E:XK):Prop:=∀(pins:List (Addr×Obj))(σ:St)(H:Hp)(s:Shared)(e:Value)(s':Shared),Inv X pins σ H s→CX X.stack H s E e s'→X.xe e s'
section
variable {X : Cx} {CX : CXT} {k : Nat} {f C : Addr} {fd : FuncData} {ps : List Str} {sp : Sp} {dvs : List V} {ds : List Value} {E : XK} {x m : Str} {p pos apos : Pos} {e o : Expr} {es : List Expr} {ta : TE} {t : TA}
theorem znk{pins:List (Addr×Obj)}{σ:St}{H:Hp}{s:Shared}{Q:VK}{us:List Value}{vs:List V}(F:FnOk X.prog X.w X.K X.mg X.base CX k f fd ps sp)(hr:Room k X.A)(hb:Binds X.K fd ps ds)(hd:Vals dvs ds)(hx:zg4 CX X E)
  (I:Inv X pins σ H s) (r:Vals vs us) (h:sp (vs++dvs) H Q E):wpAny (model X.prog X.w) X.A (call (.ref f) us) (EP X pins σ Q) X.xe s:=by
 have r2:Vals (vs++dvs) (us++ds):=r.append hd
 have hl:(us++ds).length=ps.length:=by rw[←r2.length];exact F.len _ _ _ _ h
 refine wpAny_call (codeAny_mono (F.run X.A X.stack s H ⟨us,[]⟩ (us++ds) (vs++dvs) Q E hr I.env0 (hb s us I.kIn hl) r2 h) fun r s' hq=>?_)
 cases r with
 |error e=>exact hx pins σ H s e s' I hq
 |ok fl=>
  cases fl with
  |ret u=>exact I.after hq
  |next=>exact False.elim hq
  |brk=>exact False.elim hq
  |cont=>exact False.elim hq
theorem zq4(F:FnOk X.prog X.w X.K X.mg X.base CX k f fd ps sp)(hr:Room k X.A)(hg:Gl X x)(hm:X.mg x=some (.ref f))(hk:PySem.W.keepIn X.K (.ref f)=true)(hb:Binds X.K fd ps ds)(hd:Vals dvs ds)(hx:zg4 CX X E)
  (ha:PA X (e::es) t) (hdb:(x==("__debug__" : Str))=false:=by decide) (he:starEach (e::es) X.env=(false,eval e X.env)::starEach es X.env:=by rfl) (hpl:(backTo pos (starEach es X.env)).any (·.1)=false:=by rfl):
  PE X (.Call (.Name x p) (e::es) [] pos) (zww sp dvs E t):=by
 intro pins s σ H Q I h
 refine wpAny_Call_Name_kw (zm2 I hg hm ?_ hdb)
 refine PySem.W.callWith_K (h₀:=X.base) I.ok.mod.kin hk (thn (ha pos pins s σ H _ I h) fun us s1 ⟨vs,H1,I1,r,q⟩=>⟨I1.kIn,?_⟩) he hpl
 exact znk F hr hb hd hx I1 r q
theorem zfq{pl:Sem Bool}(he:PE X o ta)(c:Cls X.K C)(hm:znq X.K C m f)(F:FnOk X.prog X.w X.K X.mg X.base CX k f fd ps sp)(hr:Room k X.A)(hb:Binds X.K fd ps ds)(hd:Vals dvs ds)(hx:zg4 CX X E)(ha:PA X (e::es) t)
  (hst:starEach (e::es) X.env=(false,eval e X.env)::starEach es X.env:=by rfl) (hpl:(backTo pos (starEach es X.env)).any (·.1)=false:=by rfl)
  (ht:eval (.Call (.Attribute o m apos) (e::es) [] pos) X.env=(do
   let ov ←eval o X.env
   standAt apos.atName
   let (f,first) ←holding [ov] (getMethod ov m pl)
   callWith pos f first (backTo pos (starEach (e::es) X.env)) (backToKw pos (keywordEach [] X.env))):=by rfl):
  PE X (.Call (.Attribute o m apos) (e::es) [] pos) (zwq C m sp dvs E ta t):=by
 intro pins s σ H Q I h
 refine PySem.W.methodCall_KW (pl:=pl) (thn (he pins s σ H _ I h) fun u s1 ⟨x,H1,I1,rx,a,dx,fs,ex,ea,l,q⟩=>?_) ht
 subst ex
 obtain rfl:u=Value.ref a:=rx
 refine zko I1 ea c hm l ?_
 refine PySem.W.callWith_K (first:=[.ref a]) (h₀:=X.base) I.ok.mod.kin hm.kp (thn (ha pos pins s1 σ H1 _ I1 q) fun us s2 ⟨vs,H2,I2,r,q2⟩=>⟨I2.kIn,?_⟩) hst hpl
 exact znk (us:=.ref a::us) (vs:=.ref a::vs) F hr hb hd hx I2 (.cons rfl r) q2
theorem ze8{pl:Sem Bool}(he:PE X o ta)(c:Cls X.K C)(hm:znq X.K C m f)(F:FnOk X.prog X.w X.K X.mg X.base CX k f fd ps sp)(hr:Room k X.A)(hb:Binds X.K fd ps ds)(hd:Vals dvs ds)(hx:zg4 CX X E)
  (ht:eval (.Call (.Attribute o m apos) [] [] pos) X.env=(do
   let ov ←eval o X.env
   standAt apos.atName
   let (f,first) ←holding [ov] (getMethod ov m pl)
   callWith pos f first (backTo pos (starEach [] X.env)) (backToKw pos (keywordEach [] X.env))):=by rfl):
  PE X (.Call (.Attribute o m apos) [] [] pos) (zwq C m sp dvs E ta zyl):=by
 intro pins s σ H Q I h
 refine PySem.W.methodCall_KW (pl:=pl) (thn (he pins s σ H _ I h) fun u s1 ⟨x,H1,I1,rx,a,dx,fs,ex,ea,l,q⟩=>?_) ht
 subst ex
 obtain rfl:u=Value.ref a:=rx
 refine zko I1 ea c hm l ?_
 exact PySem.W.callWith_K0 (first:=[.ref a]) I1.kIn hm.kp (znk (us:=[.ref a]) (vs:=[.ref a]) F hr hb hd hx I1 (.cons rfl .nil) q)
structure Mk(K:PySem.W.Frag)(C f:Addr):Prop where
 makes:PySem.W.makesIn K C=true
 init:PySem.W.findIn K (.ref C) "__init__" = some (some (.ref f))
 fn:PySem.W.isFn K (.ref f)=true
 kp:PySem.W.keepIn K (.ref C)=true
theorem zto{pins:List (Addr×Obj)}{σ:St}{H:Hp}{s:Shared}{Q:VK}{us:List Value}{vs:List V}(M:Mk X.K C f)(F:FnOk X.prog X.w X.K X.mg X.base CX k f fd ps sp)(hr:Room (k+1) X.A)(hb:Binds X.K fd ps ds)(hd:Vals dvs ds)
  (hx:zg4 CX X E) (I:Inv X pins σ H s) (r:Vals vs us)
  (h:∀x dx,H x=none→H dx=none→dx≠x→sp (.ref x::(vs++dvs)) (upd (upd H dx (.own x)) x (.ins C dx [])) (fun v H2=>v=.non∧Q (.ref x) H2) E):
  wpAny (model X.prog X.w) X.A (call (.ref C) us) (EP X pins σ Q) X.xe s:=by
 have hq:=h (s.heap.objs.size+1) s.heap.objs.size (I.hok.fresh (Nat.le_succ _)) (I.hok.fresh (Nat.le_refl _)) (Nat.ne_of_lt (Nat.lt_succ_self _))
 have I2:=Inv.made (C:=C) I
 have r2:Vals (V.ref (s.heap.objs.size+1)::(vs++dvs)) (Value.ref (s.heap.objs.size+1)::(us++ds)):=.cons rfl (r.append hd)
 have hl:(Value.ref (s.heap.objs.size+1)::us++ds).length=ps.length:=by
  have e:=r2.length
  rw[F.len _ _ _ _ hq] at e
  exact e.symm
 refine wpAny_call (zu5 (f:=f) I.kIn M.makes M.init (beq_iff_eq.mp M.fn) (codeAny_mono (F.run _ X.stack _ _ ⟨Value.ref (s.heap.objs.size+1)::us,[]⟩ (Value.ref (s.heap.objs.size+1)::(us++ds)) _ _ E (hr.make C us [])
  (I2.env0.make C us []) (hb _ (Value.ref (s.heap.objs.size+1)::us) I2.kIn hl) r2 hq) fun r s' aa=>?_))
 cases r with
 |error e=>exact hx pins σ _ _ e s' I2 aa
 |ok fl=>
  cases fl with
  |ret u=>
   obtain⟨v,H',I3,rv,ev,q3⟩:=I2.after aa
   subst ev
   exact⟨rv,⟨V.ref (s.heap.objs.size+1),H',I3,rfl,q3⟩⟩
  |next=>exact False.elim aa
  |brk=>exact False.elim aa
  |cont=>exact False.elim aa
theorem znt(M:Mk X.K C f)(F:FnOk X.prog X.w X.K X.mg X.base CX k f fd ps sp)(hr:Room (k+1) X.A)(hg:Gl X x)(hm:X.mg x=some (.ref C))(hb:Binds X.K fd ps ds)(hd:Vals dvs ds)(hx:zg4 CX X E)
  (ha:PA X (e::es) t) (hdb:(x==("__debug__" : Str))=false:=by decide) (he:starEach (e::es) X.env=(false,eval e X.env)::starEach es X.env:=by rfl) (hpl:(backTo pos (starEach es X.env)).any (·.1)=false:=by rfl):
  PE X (.Call (.Name x p) (e::es) [] pos) (zym C sp dvs E t):=by
 intro pins s σ H Q I h
 refine wpAny_Call_Name_kw (zm2 I hg hm ?_ hdb)
 refine PySem.W.callWith_K (h₀:=X.base) I.ok.mod.kin M.kp (thn (ha pos pins s σ H _ I h) fun us s1 ⟨vs,H1,I1,r,q⟩=>⟨I1.kIn,?_⟩) he hpl
 exact zto M F hr hb hd hx I1 r q
end
section
variable {X : Cx} {CX : CXT} {k : Nat} {f C : Addr} {fd : FuncData} {ps ks : List Str} {sp : Sp} {E : XK} {x m : Str} {p pos apos kpos : Pos} {e o : Expr} {es : List Expr} {kws : List Keyword} {te ta : TE} {t tk : TA} {nm : Option Str}
variable {g : List Value → List Value → List Value} {gV : List V → List V → List V}
end
structure zay(N P:List Str)(sc:Scope):Prop where
 kind:sc.kind=.function
 co:sc.isCoroutine=false
 gen:sc.isGenerator=false
 nd:N.Nodup
 pre:N.take P.length=P
 par:∀x∈P,sc.names.lookup x=some .local∨sc.names.lookup x=some .cell
 nofree:∀y∈sc.names,y.2≠.free
theorem zlp{kindOf:Str→Option NameKind}{x:Str}:∀{binds:List (Str×Value)} {m:Str→Option Value},(∀v,(x,v)∉binds)→bindL kindOf binds m x=m x
 |[],_,_=>rfl
 |(n,v)::r,m,h=>by
  unfold bindL
  rw[zlp fun w hw=>h w (List.mem_cons_of_mem _ hw)]
  split
  ·have:x≠n:=by rintro rfl;exact h v List.mem_cons_self
   simp[this]
  ·rfl
theorem zlw{kindOf:Str→Option NameKind}{x:Str}:∀{binds:List (Str×Value)} {m:Str→Option Value},(∀v,(x,v)∉binds)→bindC kindOf binds m x=m x
 |[],_,_=>rfl
 |(n,v)::r,m,h=>by
  unfold bindC
  rw[zlw fun w hw=>h w (List.mem_cons_of_mem _ hw)]
  split
  ·rfl
  ·have:x≠n:=by rintro rfl;exact h v List.mem_cons_self
   simp[this]
theorem zlu{kindOf:Str→Option NameKind}{x:Str}{v:Value}:∀{P:List Str} {vs:List Value} {i:Nat} {m:Str→Option Value},P.Nodup→P[i]?=some x→vs[i]?=some v→kindOf x=some .local →
  bindL kindOf (P.zip vs) m x=some v
 |[],_,_,_,_,h,_,_=>by simp at h
 |_::_,[],_,_,_,_,h,_=>by simp at h
 |p::P,w::vs,0,m,nd,h1,h2,hk=>by
  simp at h1 h2;subst h1;subst h2
  show bindL kindOf ((p,w)::P.zip vs) m p=_
  unfold bindL
  rw[zlp fun v hv=>(List.nodup_cons.mp nd).1 (List.of_mem_zip hv).1,if_pos hk]
  simp
 |p::P,w::vs,i+1,m,nd,h1,h2,hk=>by
  show bindL kindOf ((p,w)::P.zip vs) m x=_
  unfold bindL
  exact zlu (i:=i) (List.nodup_cons.mp nd).2 (by simpa using h1) (by simpa using h2) hk
theorem zlx{kindOf:Str→Option NameKind}{x:Str}{v:Value}:∀{P:List Str} {vs:List Value} {i:Nat} {m:Str→Option Value},P.Nodup→P[i]?=some x→vs[i]?=some v→kindOf x≠some .local →
  bindC kindOf (P.zip vs) m x=some v
 |[],_,_,_,_,h,_,_=>by simp at h
 |_::_,[],_,_,_,_,h,_=>by simp at h
 |p::P,w::vs,0,m,nd,h1,h2,hk=>by
  simp at h1 h2;subst h1;subst h2
  show bindC kindOf ((p,w)::P.zip vs) m p=_
  unfold bindC
  rw[zlw fun v hv=>(List.nodup_cons.mp nd).1 (List.of_mem_zip hv).1,if_neg hk]
  simp
 |p::P,w::vs,i+1,m,nd,h1,h2,hk=>by
  show bindC kindOf ((p,w)::P.zip vs) m x=_
  unfold bindC
  exact zlx (i:=i) (List.nodup_cons.mp nd).2 (by simpa using h1) (by simpa using h2) hk
def zhn(N:List Str)(vs:List V):St:=vs.map some++List.replicate (N.length-vs.length) none
def zd2(CX:CXT)(P:Program)(w:World)(K:PySem.W.Frag)(mg:Str→Option Value)(base:Heap)(N:List Str)(qual:Str)(scope:Scope)(f:Addr)(cd:Value)(A:Around)(outer:List Env)(s:Shared)(H:Hp)(E:XK):Cx where
 prog:=P
 w:=w
 K:=K
 mg:=mg
 base:=base
 A:=A.deeper (envOfC qual scope s.heap.objs.size f cd)
 N:=N
 s₀:=s
 H₀:=H
 env:=envOfC qual scope s.heap.objs.size f cd
 outer:=outer
 stack:=envOfC qual scope s.heap.objs.size f cd::outer
 ex:=[]
 calm:=true
 fn:=fun _=>true
 pn:=[]
 xe:=fun e s'=>wpAny (model P w) (A.deeper (envOfC qual scope s.heap.objs.size f cd)) (leaving (envOfC qual scope s.heap.objs.size f cd) e) (fun _ s''=>CX outer H s E e s'') (fun e' s''=>CX outer H s E e' s'') s'
theorem zpo{sc:Scope}{n:Nat}{x:Str}(h:sc.names.lookup x=some .cell):∃c,(cellsFrom n sc.names []).lookup x=some c:=by
 have q:=PySem.W.cellsFrom_some sc.names n [] (.inl h)
 exact Option.isSome_iff_exists.mp q
theorem zsc{CX:CXT}{P:Program}{w:World}{K:PySem.W.Frag}{mg:Str→Option Value}{base:Heap}{N ps:List Str}{qual:Str}{scope:Scope}{f:Addr}{cd:Value}{A:Around}{outer:List Env}{s s1:Shared}{H:Hp}{E:XK}{us:List Value}{vs:List V}
  (S:zay N ps scope) (hd:A.handled=none) (e0:Env0 P w K mg base A outer s H) (hl:vs.length=ps.length) (r:Vals vs us)
  (x:InCallC s s.heap.objs.size (bindL (envOfC qual scope s.heap.objs.size f cd).kindOf (ps.zip us) fun _=>none) (cellsFrom (s.heap.objs.size+1) scope.names []) (bindC (envOfC qual scope s.heap.objs.size f cd).kindOf (ps.zip us) fun _=>none) s1):
  Inv (zd2 CX P w K mg base N qual scope f cd A outer s H E) [] (zhn N vs) H s1:=by
 have ae:ps.length≤N.length:=by have:=congrArg List.length S.pre;rw[List.length_take] at this;omega
 obtain⟨h1,tk,rfl,hk⟩:=x.done
 have aa:∀b:Addr,b∉(zd2 CX P w K mg base N qual scope f cd A outer s H E).ex:=fun b z=>absurd (show b∈([]:List Addr) from z) (by simp)
 refine⟨⟨e0.mod,S.kind,rfl,rfl,Nat.le_refl _,fun y z c h1 h2=>?_,fun y hy=>?_,fun y c _ h=>?_,fun _=>hd,Around.frames_deeper e0.frames,.inr ⟨rfl,rfl⟩,fun b z=>absurd z (aa b),e0.bs,e0.bsz,fun b _ _=>aa b,fun b z=>absurd z (aa b),e0.funs,e0.frf⟩,
  rfl,e0.bare,Un.kept hk,⟨_,x.toInCall.ns,fun i y v h1 h2 h3=>?_⟩,fun y c h=>⟨_,x.cell y c h⟩,e0.hok.fresh (Nat.le_refl _),fun y c h=>?_,fun p hp=>absurd (show p∈([]:List (Addr×Obj)) from hp) (by simp),e0.hok.kept hk,?_⟩
 ·exact name_of_addr x.apart (PySem.mem_of_lookup h1) (PySem.mem_of_lookup h2)
 ·have hy:scope.names.lookup y=some .cell∨scope.names.lookup y=some .free:=hy
  rcases hy with hy|hy
  ·exact zpo hy
  ·exact absurd rfl (S.nofree _ (PySem.mem_of_lookup hy))
 ·exact Nat.le_of_lt (x.above y c (PySem.mem_of_lookup h))
 ·have hi:i<vs.length:=by
   unfold zhn at h2
   by_cases hi:i<vs.length
   ·exact hi
   ·rw[List.getElem?_append_right (by simpa using hi)] at h2
    rw[List.getElem?_replicate] at h2
    split at h2<;>cases h2
  have ha:vs[i]?=some v:=by
   unfold zhn at h2
   rw[List.getElem?_append_left (by simpa using hi),List.getElem?_map] at h2
   cases e:vs[i]? with
   |none=>rw[e] at h2;cases h2
   |some a=>rw[e] at h2;cases h2;rfl
  obtain⟨u,hu,rv⟩:=r.get ha
  have hp:ps[i]?=some y:=by
   rw[←S.pre,List.getElem?_take_of_lt (by omega)];exact h1
  have ad:ps.Nodup:=by rw[←S.pre];exact S.nd.sublist (List.take_sublist _ _)
  refine⟨u,rv,?_⟩
  rcases S.par y (List.mem_of_getElem? hp) with k|k
  ·exact .inl ⟨k,zlu ad hp hu k⟩
  ·obtain⟨c,e⟩:=zpo (n:=s.heap.objs.size+1) k
   refine .inr ⟨.inl k,c,e,?_⟩
   have q:=x.cell y c e
   rw[zlx ad hp hu (by show scope.names.lookup y≠_;rw[k];decide)] at q
   exact q
 ·exact e0.hok.fresh (Nat.le_of_lt (x.above y c (PySem.mem_of_lookup h)))
 ·unfold zhn
  show _=N.length
  rw[List.length_append,List.length_map,List.length_replicate]
  omega
theorem zwu{CX:CXT}{P:Program}{w:World}{K:PySem.W.Frag}{mg:Str→Option Value}{base:Heap}{k:Nat}{f:Addr}{name qual:Str}{params:Arguments}{body:List Stmt}{scope:Scope}{dV kV doc pm cdv ct oc:Value}{an od:Option Addr}
  {osl:Array (Option Value)} {N ps:List Str} {sp:Sp} (lk:K.lookup f=some ⟨oc,od,.func (PySem.W.fnOf name qual params body scope dV kV doc pm an cdv ct),osl⟩) (hcd:PySem.W.codeIn K cdv qual=true) (S:zay N ps scope)
  (len:∀vs H Q E,sp vs H Q E→vs.length=ps.length)
  (hbody:∀(A:Around)(outer:List Env)(s:Shared)(H:Hp)(vs:List V)(Q:VK)(E:XK),Room k (A.deeper (envOfC qual scope s.heap.objs.size f cdv))→sp vs H Q E →
   ∃t,PSs (zd2 CX P w K mg base N qual scope f cdv A outer s H E) body t∧t { nx:=fun _ H'=>Q .non H',rt:=Q } (zhn N vs) H):
  FnOk P w K mg base CX (k+1) f (PySem.W.fnOf name qual params body scope dV kV doc pm an cdv ct) ps sp:=by
 refine⟨len,fun A outer s H args us vs Q E hr e0 hb r ad=>?_⟩
 have hl:=len _ _ _ _ ad
 have KX:K.In s.heap:=e0.mod.kin.keeps fun b o e=>(e0.bs b o e).1
 have ae:s.heap.NoLimit:=e0.mod.nolimit.keeps fun b o e=>(e0.bs b o e).1
 have aa:∀y∈ps.zip us,scope.names.lookup y.1=some .local∨(scope.names.lookup y.1=some .cell∧((cellsFrom (s.heap.objs.size+1) scope.names []).lookup y.1).isSome=true):=fun⟨n,v⟩ hy=>by
  rcases S.par n (List.of_mem_zip hy).1 with q|q
  ·exact .inl q
  ·exact .inr ⟨q,PySem.W.cellsFrom_some _ _ _ (.inl q)⟩
 refine codeAny_call_function hr.depth (KX _ _ lk) rfl S.co S.gen rfl (PySem.W.codeRec_of KX hcd) (hb _ _ _ _ ?_)
 refine wpAny_newFunctionEnv_cells S.kind aa fun env he s1 x=>?_
 subst he
 refine⟨ae.keeps x.toInCall.keep,codeAny_func ?_⟩
 obtain⟨t,ht,hq⟩:=hbody A outer s H vs Q E (hr.deeper _) ad
 have I:Inv (zd2 CX P w K mg base N qual scope f cdv A outer s H E) [] (zhn N vs) H s1:=zsc S hr.hd e0 hl r x
 refine wpAny_mono (ht [] s1 (zhn N vs) H _ I hq) (fun fl s' hs=>?_) fun e s' hs=>hs
 have fin:∀{σ':St} {H':Hp} {v:V} {u:Value},Inv (zd2 CX P w K mg base N qual scope f cdv A outer s H E) [] σ' H' s'→RelV v u→Q v H'→CE outer P w H s Q u s':=
  fun {σ' H' v u} J rv q=>⟨v,H',J.os,J.bare,J.base,J.hok,rv,q⟩
 cases fl with
 |ret u=>
  obtain⟨v,σ',H',J,rv,q⟩:=hs
  exact fin J rv q
 |next=>
  obtain⟨σ',H',J,q⟩:=hs
  exact fin (v:=V.non) (u:=Value.none) J rfl q
 |brk=>
  obtain⟨_,_,_,q⟩:=hs
  exact False.elim q
 |cont=>
  obtain⟨_,_,_,q⟩:=hs
  exact False.elim q
section
variable {X : Cx} {x : Str} {p pos : Pos} {e : Expr} {es : List Expr} {t : TA} {id T : String} {r : List V → Hp → VK → Prop}
def tCB(r:List V→Hp→VK→Prop)(t:TA):TE:=fun σ H Q=>t σ H fun vs H1=>r vs H1 Q
theorem za3(hc:zef X (.builtin id) r)(hg:Gl X x)(hm:X.mg x=none)(hv:bootBuiltins x=some (.builtin id))(ha:PA X (e::es) t)(hn:x ≠ "__name__" := by decide)(hdb:(x==("__debug__" : Str))=false:=by decide)
  (he:starEach (e::es) X.env=(false,eval e X.env)::starEach es X.env:=by rfl) (hpl:(backTo pos (starEach es X.env)).any (·.1)=false:=by rfl):PE X (.Call (.Name x p) (e::es) [] pos) (tCB r t):=by
 intro pins s σ H Q I h
 refine wpAny_Call_Name_kw (zj9 I hg hm hv ?_ hn hdb)
 exact PyProof.Rows.callWith_builtin1 (thn (ha pos pins s σ H _ I h) fun us s1 ⟨vs,H1,I1,r1,q1⟩=>hc pins s1 σ H1 vs us Q I1 r1 q1) he hpl
theorem zbt(hc:zef X (.type T) r)(hg:Gl X x)(hm:X.mg x=none)(hv:bootBuiltins x=some (.type T))(ha:PA X (e::es) t)(hn:x ≠ "__name__" := by decide)(hdb:(x==("__debug__" : Str))=false:=by decide)
  (he:starEach (e::es) X.env=(false,eval e X.env)::starEach es X.env:=by rfl) (hpl:(backTo pos (starEach es X.env)).any (·.1)=false:=by rfl):PE X (.Call (.Name x p) (e::es) [] pos) (tCB r t):=by
 intro pins s σ H Q I h
 refine wpAny_Call_Name_kw (zj9 I hg hm hv ?_ hn hdb)
 exact PyProof.Rows.callWith_type1 (thn (ha pos pins s σ H _ I h) fun us s1 ⟨vs,H1,I1,r1,q1⟩=>hc pins s1 σ H1 vs us Q I1 r1 q1) he hpl
end
end L2
namespace HT
open PySem PyProof.Rows
section
open PySem.SeqAt
open PySem.AutoSeq1 (wpAny_loadPart')
open PySem.MeetsSeq PySem.MeetsSeq2 PySem.MeetsSeq3
end
end HT
namespace L2
open PySem PySem.Spec PyProof.Rows
theorem zct{ns:List Int}:∀{us:List Value},Vals (ns.map V.int) us→IntsAre us ns:=by
 induction ns with
 |nil=>intro us r;rw[List.map_nil] at r;cases r;exact .nil
 |cons n ns ih=>
  intro us r
  rw[List.map_cons] at r
  cases r with
  |cons r1 r2=>
   obtain⟨t,e⟩:=r1
   subst e
   exact .cons n t (ih r2)
def ixN(n:Nat)(i:Int):Option Nat:=if 0≤i then (if i<n then some i.toNat else none) else if -(n:Int)≤i then some (i+n).toNat else none
def atI{α:Type}(xs:List α)(i:Int):Option α:=(ixN xs.length i).bind fun j=>xs[j]?
theorem zqw{n:Nat}{i:Int}{j:Nat}(h:ixN n i=some j):seqIndex? i n=some j∧j<n∧-(n:Int)≤i∧i<n:=by
 unfold ixN at h
 by_cases h0:0≤i
 ·rw[if_pos h0] at h
  by_cases h1:i<n
  ·rw[if_pos h1] at h
   have e:i.toNat=j:=Option.some.inj h
   exact⟨by rw[seqIndex_of h0 h1,e],by omega,by omega,h1⟩
  ·rw[if_neg h1] at h;cases h
 ·rw[if_neg h0] at h
  by_cases h1 : -(n:Int)≤i
  ·rw[if_pos h1] at h
   have e:(i+n).toNat=j:=Option.some.inj h
   exact⟨by rw[seqIndex_neg (by omega) h1,e],by omega,h1,by omega⟩
  ·rw[if_neg h1] at h;cases h
theorem zrn{α:Type}{xs:List α}{i:Int}{v:α}(h:atI xs i=some v):∃j,seqIndex? i xs.length=some j∧xs[j]?=some v∧j<xs.length∧-(xs.length:Int)≤i∧i<xs.length:=by
 unfold atI at h
 cases e:ixN xs.length i with
 |none=>rw[e] at h;cases h
 |some j=>
  rw[e] at h
  obtain⟨h1,h2,h3,h4⟩:=zqw e
  exact⟨j,h1,h,h2,h3,h4⟩
theorem zc5{α:Type}{xs:List α}{j:Nat}{v:α}(h:xs[j]?=some v):atI xs (j:Int)=some v:=by
 have hj:j<xs.length:=(List.getElem?_eq_some_iff.mp h).1
 have e:ixN xs.length (j:Int)=some j:=by
  unfold ixN
  rw[if_pos (by omega),if_pos (by omega)];simp
 unfold atI;rw[e];exact h
def zvp(b:Expr):Prop:=∀o i,subscripted b false o i=operate [o,i] (getItem o i)
def IxR(X:Cx)(r:R2):Prop:=
 ∀(value slice:Expr)(pins:List (Addr×Obj))(s:Shared)(σ:St)(H:Hp)(x y:V)(v u:Value)(Q:VK),Inv X pins σ H s→RelV x v→RelV y u→r x y H Q →
  subscripted slice false v u=operate [v,u] (getItem v u)→wpAny (model X.prog X.w) X.A (subscriptTail value slice v u) (EP X pins σ Q) X.xe s
def MtR(X:Cx)(id:String)(r:V→List V→Hp→VK→Prop):Prop:=
 ∀(pins:List (Addr×Obj))(s:Shared)(σ:St)(H:Hp)(x:V)(xs:List V)(v:Value)(us:List Value)(Q:VK),Inv X pins σ H s→RelV x v→Vals xs us→r x xs H Q →
  wpAny (model X.prog X.w) X.A (call (.builtin id) (v::us)) (EP X pins σ Q) X.xe s
section
variable {X : Cx} {a b : Expr} {ta tb : TE} {pos : Pos}
theorem zax{r:R2}(hr:IxR X r)(ha:PE X a ta)(hb:PE X b tb)(hs:zvp b):PE X (.Subscript a b pos) (tOp r ta tb):=by
 intro pins s σ H Q I h
 exact Subscript_ (zw9 ha hb I h fun v u s2 x y H2 I2 rx ry q=>hr a b pins s2 σ H2 x y v u Q I2 rx ry q (hs _ _))
def zyc(K:PySem.W.Frag):R2:=fun x y H Q=>∃p xs i v,x=.ref p∧y=.int i∧SqL K H p xs∧atI xs i=some v∧Q v H
def zx9(K:PySem.W.Frag):R2:=fun x y H Q=>∃p xs i v,x=.ref p∧y=.int i∧SqT K H p xs∧atI xs i=some v∧Q v H
theorem zvz:IxR X (zyc X.K):=by
 intro value aa pins s σ H x y v u Q I rx ry h hs
 obtain⟨p,xs,i,z,rfl,rfl,hq,he,q⟩:=h
 cases rx
 obtain⟨t,rfl⟩:=ry
 obtain⟨ad,r,pl,hz⟩:=I.list hq
 obtain⟨j,h1,h2,h3,h4,h5⟩:=zrn he
 obtain⟨w,ew,ae⟩:=r.get h2
 have hl:=r.length
 have hn:=zky
 have fin:EP X pins σ Q w s:=⟨z,H,I,ae,q⟩
 by_cases h0:0≤i
 ·have hj:i.toNat=j:=by
   rw[seqIndex_of h0 h5] at h1
   exact Option.some.inj h1
  exact item_listR pl.isList h0 (by omega) (by rw[hj];simpa using ew) fin hs
 ·have hj:(i+(ad.toArray.size:Int)).toNat=j:=by
   rw[seqIndex_neg (by omega) h4] at h1
   rw[List.size_toArray,←hl]
   exact Option.some.inj h1
  exact subscriptTail_builtinR (x:=w) pl.isList.typeIs slot_list_getitem.lookup
   (wpAny_getItem_list_neg (Q:=fun r s'=>r=w∧EP X pins σ Q r s') pl.isList (by omega) (by rw[List.size_toArray]<;>omega) (by omega) (by rw[hj];simpa using ew) ⟨rfl,fin⟩) hs
theorem zxb:IxR X (zx9 X.K):=by
 intro value aa pins s σ H x y v u Q I rx ry h hs
 obtain⟨p,xs,i,z,rfl,rfl,hq,he,q⟩:=h
 cases rx
 obtain⟨t,rfl⟩:=ry
 obtain⟨ae,r,pl,hz⟩:=I.tuple hq
 obtain⟨j,h1,h2,h3,h4,h5⟩:=zrn he
 obtain⟨w,ew,ad⟩:=r.get h2
 have hl:=r.length
 have hn:=zky
 have fin:EP X pins σ Q w s:=⟨z,H,I,ad,q⟩
 exact subscriptTail_builtinR (x:=w) pl.typeIs slot_tuple_getitem.lookup
  (getItem_tuple (j:=j) (Q:=fun r s'=>r=w∧EP X pins σ Q r s') pl (by omega) (by omega) (by rw[List.size_toArray,←hl];exact h1) (by simpa using ew) ⟨rfl,fin⟩) hs
theorem zqg(its:List Value)(n j:Nat)(u:Value):Obj.mapSeq (·.setIfInBounds j u) { cls:=.type "list",data:=.seq its.toArray n }={ cls:=.type "list",data:=.seq (its.set j u).toArray n }:=by
 simp[Obj.mapSeq]
theorem Inv.lst{pins:List (Addr×Obj)}{σ:St}{H:Hp}{s:Shared}{p:Addr}{xs:List V}(I:Inv X pins σ H s)(h:H p=some (.lst xs)):
  ∃(its:List Value)(n:Nat),Vals xs its∧s.heap.get? p=some { cls:=.type "list",data:=.seq its.toArray n }∧xs.length≤sizeLine:=by
 obtain⟨z,its,n,r,e⟩:=I.hok p _ h
 exact⟨its,n,r,e,z⟩
theorem Inv.lstUpd{pins:List (Addr×Obj)}{σ:St}{H:Hp}{s:Shared}{p:Addr}{xs ys:List V}{its its':List Value}{n n':Nat}{f:Obj→Obj}(I:Inv X pins σ H s)(h:H p=some (.lst xs))
  (ho:s.heap.get? p=some { cls:=.type "list",data:=.seq its.toArray n }) (hf:f { cls:=.type "list",data:=.seq its.toArray n }={ cls:=.type "list",data:=.seq its'.toArray n' }) (r:Vals ys its') (hz:ys.length≤sizeLine) (t:Nat):
  Inv X pins σ (upd H p (.lst ys)) { s with heap:=s.heap.update p f,toks:=t }:=by
 have e:(s.heap.update p f).get? p=some { cls:=.type "list",data:=.seq its'.toArray n' }:=by
  rw[Heap.get?_update_self f ho (by rw[hf]<;>rfl),hf]
 refine I.write (x:=p) (e:=p) (by rw[h];trivial) (.inl rfl) (fun b u hb q=>(Heap.get?_update_other _ _ (Ne.symm hb)).trans q) ⟨_,e⟩ ?_
 exact⟨hz,its',n',r,e⟩
def zyo:V→V→V→Hp→(Hp→Prop)→Prop:=fun o i v H Q=>∃p xs k j,o=.ref p∧i=.int k∧H p=some (.lst xs)∧ixN xs.length k=some j∧Q (upd H p (.lst (xs.set j v)))
theorem zoe:zyr X zyo:=by
 intro pins s σ H o i v ov iv u Q I ro ri rv h
 obtain⟨p,xs,k,j,rfl,rfl,hp,hj,q⟩:=h
 cases ro
 obtain⟨t,rfl⟩:=ri
 obtain⟨aa,n,r,ho,hz⟩:=I.lst hp
 obtain⟨h1,h2,h3,h4⟩:=zqw hj
 have hl:=r.length
 have hn:=zky
 have I':Inv X pins σ (upd H p (.lst (xs.set j v))) { s with heap:=s.heap.update p (Obj.mapSeq (·.setIfInBounds j u)) }:=
  I.lstUpd hp ho (zqg aa n j u) (r.set rv j) (by rw[List.length_set];exact hz) s.toks
 by_cases h0:0≤k
 ·have hk:k.toNat=j:=by
   rw[seqIndex_of h0 h4] at h1
   exact Option.some.inj h1
  exact PySem.W.ki_setAt ho h0 (by omega) (by rw[List.size_toArray,←hl];exact h4) (by rw[hk];exact⟨_,I',q⟩)
 ·have hk:(k+(aa.toArray.size:Int)).toNat=j:=by
   rw[seqIndex_neg (by omega) h3] at h1
   rw[List.size_toArray,←hl]
   exact Option.some.inj h1
  exact PySem.W.ki_setBack ho (by omega) (by rw[List.size_toArray,←hl];exact h3) (by omega) (by rw[hk];exact⟨_,I',q⟩)
def zh2:V→Bool
 |.non=>true
 |.bl _=>true
 |.int _=>true
 |.str _=>true
 |_=>false
def eqV:V→V→Bool
 |.non,.non=>true
 |.bl a,.bl b=>a==b
 |.bl a,.int b=>(if a then 1 else 0)==b
 |.int a,.bl b=>a==(if b then 1 else 0)
 |.int a,.int b=>a==b
 |.str a,.str b=>a==b
 |_,_=>false
theorem zxz{A:Around}{s:Shared}{y x:V}{u v:Value}(ry:RelV y u)(rx:RelV x v)(fy:zh2 y=true)(fx:zh2 x=true):SeqAt.EqAt A s u v (eqV y x):=by
 cases y with
 |non=>
  cases ry
  cases x with
  |non=>cases rx;exact SeqAt.EqAt.same _
  |bl b=>cases rx;exact SeqAt.EqAt.none_bool b
  |int b=>obtain⟨t,rfl⟩:=rx;exact SeqAt.EqAt.none_int b t
  |str b=>obtain⟨t,rfl⟩:=rx;exact SeqAt.EqAt.none_str b t
  |_=>exact absurd (show false=true from fx) Bool.false_ne_true
 |bl a=>
  cases ry
  cases x with
  |non=>cases rx;exact SeqAt.EqAt.bool_none a
  |bl b=>cases rx;exact SeqAt.EqAt.bool_bool a b
  |int b=>obtain⟨t,rfl⟩:=rx;exact SeqAt.EqAt.bool_int a b t
  |str b=>obtain⟨t,rfl⟩:=rx;exact SeqAt.EqAt.bool_str a b t
  |_=>exact absurd (show false=true from fx) Bool.false_ne_true
 |int a=>
  obtain⟨t',rfl⟩:=ry
  cases x with
  |non=>cases rx;exact SeqAt.EqAt.int_none a t'
  |bl b=>cases rx;exact SeqAt.EqAt.int_bool a t' b
  |int b=>obtain⟨t,rfl⟩:=rx;exact SeqAt.EqAt.int_int a t' b t
  |str b=>obtain⟨t,rfl⟩:=rx;exact SeqAt.EqAt.int_str a t' b t
  |_=>exact absurd (show false=true from fx) Bool.false_ne_true
 |str a=>
  obtain⟨t',rfl⟩:=ry
  cases x with
  |non=>cases rx;exact SeqAt.EqAt.str_none a t'
  |bl b=>cases rx;exact SeqAt.EqAt.str_bool a t' b
  |int b=>obtain⟨t,rfl⟩:=rx;exact SeqAt.EqAt.str_int a t' b t
  |str b=>obtain⟨t,rfl⟩:=rx;exact SeqAt.EqAt.str_str a t' b t
  |_=>exact absurd (show false=true from fx) Bool.false_ne_true
 |_=>exact absurd (show false=true from fy) Bool.false_ne_true
def eqU(x:V)(u:Value):Bool:=match u with
 |.none=>eqV .non x
 |.bool b=>eqV (.bl b) x
 |.int i _=>eqV (.int i) x
 |.str z _=>eqV (.str z) x
 |_=>false
theorem ztt{x y:V}{u:Value}(r:RelV y u)(f:zh2 y=true):eqU x u=eqV y x:=by
 cases y with
 |non=>cases r;rfl
 |bl b=>cases r;rfl
 |int i=>obtain⟨t,rfl⟩:=r;rfl
 |str z=>obtain⟨t,rfl⟩:=r;rfl
 |_=>exact absurd (show false=true from f) Bool.false_ne_true
theorem zmm{x:V}:∀{xs:List V} {us:List Value},Vals xs us→xs.all zh2=true→us.any (eqU x)=xs.any fun y=>eqV y x
 |_,_,.nil,_=>rfl
 |y::xs,u::us,.cons r t,f=>by
  rw[List.all_cons,Bool.and_eq_true] at f
  rw[List.any_cons,List.any_cons,ztt r f.1,zmm t f.2]
theorem zku{A:Around}{s:Shared}{x:V}{v:Value}(rx:RelV x v)(fx:zh2 x=true):∀{xs:List V} {us:List Value},Vals xs us→xs.all zh2=true→∀u∈us,SeqAt.EqAt A s u v (eqU x u)
 |_,_,.nil,_=>fun u hu=>by cases hu
 |y::xs,u::us,.cons r t,f=>fun u' hu=>by
  rw[List.all_cons,Bool.and_eq_true] at f
  rcases List.mem_cons.mp hu with rfl|hu
  ·rw[ztt r f.1];exact zxz r rx f.1 fx
  ·exact zku rx fx t f.2 u' hu
def inV(x:V)(xs:List V):Bool:=xs.any fun y=>eqV y x
def rIn(K:PySem.W.Frag)(neg:Bool):R2:=fun x y H Q=>∃p xs,y=.ref p∧(SqL K H p xs∨SqT K H p xs)∧zh2 x=true∧xs.all zh2=true∧Q (.bl (if neg then !inV x xs else inV x xs)) H
theorem zd1:OpR X (compareOp .NotIn) (rIn X.K true):=by
 intro pins s σ H x y v u Q I rx ry h
 obtain⟨p,xs,rfl,hq,fx,fs,q⟩:=h
 cases ry
 rcases hq with hq|hq
 ·obtain⟨aa,r,pl,hz⟩:=I.list hq
  refine SeqAt.notIn_listAt (eqU x) pl.isList (fun w hw=>zku rx fx r fs w (by simpa using hw)) ⟨.bl _,H,I,rfl,?_⟩
  rw[show aa.toArray.any (eqU x)=aa.any (eqU x) by simp,zmm r fs]
  exact q
 ·obtain⟨aa,r,pl,hz⟩:=I.tuple hq
  refine SeqAt.notIn_tupleAt (eqU x) pl (fun w hw=>zku rx fx r fs w (by simpa using hw)) ⟨.bl _,H,I,rfl,?_⟩
  rw[show aa.toArray.any (eqU x)=aa.any (eqU x) by simp,zmm r fs]
  exact q
theorem zmr:zef X (.builtin "len") (fun xs H Q=>∃p ys,xs=[.ref p]∧(SqL X.K H p ys∨SqT X.K H p ys)∧Q (.int ys.length) H):=by
 intro pins s σ H xs us Q I r h
 obtain⟨p,ys,rfl,hq,q⟩:=h
 obtain⟨u,rfl,rx⟩:=ze7 r
 cases rx
 have hn:=zky
 rcases hq with hq|hq
 ·obtain⟨ad,r',pl,hz⟩:=I.list hq
  have aa:=r'.length
  exact Calls.call_len_list pl.isList (by simp only[List.size_toArray]<;>omega) ⟨.int ys.length,H,I.tok _,⟨s.toks+1,by rw[List.size_toArray,aa]⟩,q⟩
 ·obtain⟨ad,r',pl,hz⟩:=I.tuple hq
  have aa:=r'.length
  exact len_tuple pl (by simp only[List.size_toArray]<;>omega) ⟨.int ys.length,H,I.tok _,⟨s.toks+1,by rw[List.size_toArray,aa]⟩,q⟩
theorem zfm:zef X (.type "list") (fun xs H Q=>∃p ys,xs=[.ref p]∧(SqL X.K H p ys∨SqT X.K H p ys)∧∀l,H l=none→Q (.ref l) (upd H l (.lst ys))):=by
 intro pins s σ H xs us Q I r h
 obtain⟨p,ys,rfl,hq,q⟩:=h
 obtain⟨u,rfl,rx⟩:=ze7 r
 cases rx
 have fin:∀(aa:List Value),Vals ys aa→ys.length≤sizeLine→∀(h':Heap)(c':Nat),(∀b o',s.heap.get? b=some o'→h'.get? b=some o') →
   h'.get? s.heap.objs.size=some { cls:=.type "list",dict:=none,data:=.seq aa.toArray c',slots:=#[] }→EP X pins σ Q (.ref s.heap.objs.size) { s with heap:=h' }:=fun aa r' hz h' c' kp e=>
  ⟨.ref s.heap.objs.size,_,I.laid (t':=s.toks) kp (Nat.le_refl _) (show ObjOk X.prog X.w _ h' _ (.lst ys) from⟨hz,aa,c',r',e⟩),rfl,q _ (I.hok.fresh (Nat.le_refl _))⟩
 rcases hq with hq|hq
 ·obtain⟨aa,r',pl,hz⟩:=I.list hq
  have ad:=r'.length
  obtain⟨o,ho,hc,n,hd⟩:=pl.isList
  exact call_list_seq p (.inl rfl) ho hc hd (fun h' c' kp e=>fin aa r' hz h' c' kp e) (by simp only[List.size_toArray]<;>omega)
 ·obtain⟨aa,r',pl,hz⟩:=I.tuple hq
  have ad:=r'.length
  obtain⟨o,ho,hc,n,hd⟩:=pl
  exact call_list_seq p (.inr rfl) ho hc hd (fun h' c' kp e=>fin aa r' hz h' c' kp e) (by simp only[List.size_toArray]<;>omega)
theorem zcq:zef X (.type "tuple") (fun xs H Q=>∃p ys,xs=[.ref p]∧((SqL X.K H p ys∧∀l,H l=none→Q (.ref l) (upd H l (.tup ys)))∨(SqT X.K H p ys∧Q (.ref p) H))):=by
 intro pins s σ H xs us Q I r h
 obtain⟨p,ys,rfl,h⟩:=h
 obtain⟨u,rfl,rx⟩:=ze7 r
 cases rx
 rcases h with⟨hq,q⟩|⟨hq,q⟩
 ·obtain⟨aa,r',pl,hz⟩:=I.list hq
  have ad:=r'.length
  refine call_tuple_list pl.isList (fun h' kp=>?_) (by simp only[List.size_toArray]<;>omega)
  have I1:Inv X pins σ H { s with heap:=h' }:=I.kept (t':=s.toks) kp
  have I2:Inv X pins σ (upd H h'.objs.size (.tup ys)) { s with heap:=h'.push { cls:=.type "tuple",data:=.seq aa.toArray } }:=
   I1.laid (t':=s.toks) (fun b o e=>Heap.get?_push_of_some _ e) (Nat.le_refl _) (show ObjOk X.prog X.w _ _ _ (.tup ys) from⟨hz,aa,r',IsTup.new _ _⟩)
  exact⟨.ref h'.objs.size,_,I2,rfl,q _ (I1.hok.fresh (Nat.le_refl _))⟩
 ·obtain⟨aa,r',pl,hz⟩:=I.tuple hq
  exact call_tuple_same pl ⟨.ref p,H,I,rfl,q⟩
def tyV(K:PySem.W.Frag)(T:String)(x:V)(H:Hp):Prop:=match x with
 |.str _=>T = "str"
 |.int _=>T = "int"
 |.ref p=>(T = "list" ∧ ∃xs,SqL K H p xs)∨(T = "tuple" ∧ ∃o,K.lookup p=some o∧o.cls=.type "tuple" ∧ o.dict=none) ∨
   (T = "dict" ∧ ((∃kvs,H p=some (.dK kvs))∨∃kvs,H p=some (.dT kvs)))∨(T = "set" ∧ ∃S n,H p=some (.set S n))
 |_=>False
theorem zw0{pins:List (Addr×Obj)}{σ:St}{H:Hp}{s:Shared}{T:String}{x:V}{v:Value}(I:Inv X pins σ H s)(r:RelV x v)(ty:tyV X.K T x H):
  s.TypeIs v T∧∀a,v=.ref a→∃ob,s.heap.get? a=some ob∧ob.dict=none:=by
 cases x with
 |str z=>
  obtain⟨t,rfl⟩:=r
  cases(show T = "str" from ty)
  exact⟨typeIs_str s z t,fun _ e=>nomatch e⟩
 |int i=>
  obtain⟨t,rfl⟩:=r
  cases(show T = "int" from ty)
  exact⟨typeIs_int s i t,fun _ e=>nomatch e⟩
 |ref p=>
  cases r
  rcases ty with⟨rfl,xs,hq⟩|⟨rfl,o,hk,hc,hd⟩|⟨rfl,hk⟩|⟨rfl,S,n,hk⟩
  ·obtain⟨aa,_,pl,_⟩:=I.list hq
   refine⟨pl.isList.typeIs,fun a e=>?_⟩
   cases e
   obtain⟨o,n,e,c,hd,_⟩:=pl
   exact⟨o,e,hd⟩
  ·refine⟨⟨o,I.kIn p o hk,hc⟩,fun a e=>?_⟩
   cases e
   exact⟨o,I.kIn _ o hk,hd⟩
  ·have z:∃o,s.heap.get? p=some o∧o.ExactDict:=by
    rcases hk with⟨kvs,hk⟩|⟨kvs,hk⟩
    ·obtain⟨_,_,_,_,o,_,_,e,ex,_⟩:=I.hok p _ hk
     exact⟨o,e,ex⟩
    ·obtain⟨_,_,_,_,o,_,_,e,ex,_⟩:=I.hok p _ hk
     exact⟨o,e,ex⟩
   obtain⟨o,e,ex⟩:=z
   refine⟨⟨o,e,ex.1⟩,fun a e2=>?_⟩
   cases e2
   exact⟨o,e,ex.2.1⟩
  ·obtain⟨o,_,_,_,e,ex,_⟩:=I.hok p _ hk
   refine⟨⟨o,e,ex.1⟩,fun a e2=>?_⟩
   cases e2
   exact⟨o,e,ex.2.1⟩
 |_=>exact False.elim ty
def tBM(K:PySem.W.Frag)(T:String)(r:V→List V→Hp→VK→Prop)(to:TE)(t:TA):TE:=fun σ H Q=>to σ H fun x H1=>tyV K T x H1∧t σ H1 fun xs H2=>r x xs H2 Q
variable {o e : Expr} {es : List Expr} {to : TE} {t : TA} {name : Str} {apos cpos : Pos} {T id : String} {r : V → List V → Hp → VK → Prop}
theorem zyi(pa:PlainAttrs T)(slot:Slot T name id)(hty:typeOf (.builtin id)=pure (.type "method_descriptor"))(hm:MtR X id r)(ho:PE X o to)(ha:PA X (e::es) t)
  (hbase:attributeBase o name X.env (eval o X.env)=eval o X.env:=by rfl)
  (hfew:((backTo cpos (starEach (e::es) X.env)).all (fun x=>!x.1)&&(backToKw cpos (keywordEach [] X.env)).all (fun x=>x.1.isSome)
   && decide ((e::es).length+([]:List Keyword).length+(if ([]:List Keyword).isEmpty then 0 else 1)<30))=true:=by rfl)
  (hline:(apos.endLine==cpos.line)=true:=by rfl) (hs:starEach (e::es) X.env=(false,eval e X.env)::starEach es X.env:=by rfl) (hplain:(backTo cpos (starEach es X.env)).any (·.1)=false:=by rfl):
  PE X (.Call (.Attribute o name apos) (e::es) [] cpos) (tBM X.K T r to t):=by
 intro pins s σ H Q I h
 refine wpAny_Call_method_late hbase hfew hline rfl (thn (ho pins s σ H _ I h) fun v s1 ⟨x,H1,I1,r1,ty,q1⟩=>?_)
 obtain⟨h1,h2⟩:=zw0 I1 r1 ty
 refine⟨T,id,pa,slot,hty,h1,h2,?_⟩
 have hA:=ha cpos pins s1 σ H1 _ I1 q1
 rw[hs] at hA ⊢
 refine Calls.callWith_builtin (by show(false||(backTo cpos (starEach es X.env)).any (·.1))=false;rw[hplain]<;>rfl) (Calls.evalArgs_plain ?_)
 exact thn hA fun us s2 ⟨vs,H2,I2,r2,q2⟩=>hm pins s2 σ H2 x vs v us Q I2 r1 r2 q2
end
def MtM(X:Cx)(id:String)(r:V→List V→Hp→VK→Prop):Prop:=
 ∀(pins:List (Addr×Obj))(s:Shared)(σ:St)(H:Hp)(x:V)(xs:List V)(v:Value)(us:List Value)(Q:VK),Inv X pins σ H s→RelV x v→Vals xs us→r x xs H Q →
  wpAny (model X.prog X.w) X.A (call (.builtin id) (v::us)) (EP X pins σ Q) X.xe s
theorem Vals.one:∀{x:V} {us:List Value},Vals [x] us→∃u,us=[u]∧RelV x u
 |_,_,.cons r .nil=>⟨_,rfl,r⟩
theorem Vals.reverse{xs:List V}{us:List Value}(h:Vals xs us):Vals xs.reverse us.reverse:=by
 induction h with
 |nil=>exact .nil
 |cons r t ih=>rw[List.reverse_cons,List.reverse_cons];exact Vals.append ih (.cons r .nil)
section
variable {X : Cx} {pins : List (Addr × Obj)} {σ : St} {H : Hp} {s : Shared} {l b : Addr} {xs ys zs : List V}
theorem Inv.lset{its its':List Value}{n:Nat}{f:Array Value→Array Value}{t':Nat}(I:Inv X pins σ H s)(hH:H l=some (.lst xs))
  (e:s.heap.get? l=some { cls:=.type "list",data:=.seq its.toArray n }) (hf:f its.toArray=its'.toArray) (hv:Vals ys its') (hz:ys.length≤sizeLine):
  Inv X pins σ (upd H l (.lst ys)) { s with heap:=s.heap.update l (Obj.mapSeq f),toks:=t' }:=by
 have q:=PySem.IsL.update e f
 rw[hf] at q
 refine I.write (x:=l) (e:=l) (by rw[hH];exact trivial) (.inl rfl) (fun b' u hb hu=>(Heap.get?_update_other s.heap (Obj.mapSeq f) (Ne.symm hb)).trans hu) ⟨_,q⟩ ?_
 exact⟨hz,its',_,hv,q⟩
theorem Inv.lnew{its:List Value}{t':Nat}(I:Inv X pins σ H s)(hv:Vals ys its)(hz:ys.length≤sizeLine):
  Inv X pins σ (upd H s.heap.objs.size (.lst ys)) { s with heap:=s.heap.push { cls:=.type "list",data:=.seq its.toArray },toks:=t' }:=
 I.laid (fun _ _ q=>Heap.get?_push_of_some _ q) (Nat.le_refl _) ⟨hz,its,0,hv,Heap.get?_push_size _ rfl⟩
theorem Inv.fresh(I:Inv X pins σ H s):H s.heap.objs.size=none:=I.hok.fresh (Nat.le_refl _)
theorem Inv.lstM(I:Inv X pins σ H s)(hH:H l=some (.lst xs)):xs.length≤sizeLine∧∃(its:List Value)(n:Nat),Vals xs its∧xs.length=its.length∧s.heap.get? l=some { cls:=.type "list",data:=.seq its.toArray n }:=by
 obtain⟨z,its,n,r,e⟩:=I.hok l _ hH
 exact⟨z,its,n,r,r.length,e⟩
theorem zt6{n:Nat}(h:n≤sizeLine):Builtin.List.listTooLong n=false:=by
 unfold Builtin.List.listTooLong
 exact decide_eq_false (by omega)
end
section
variable {X : Cx}
def zvx:V→List V→Hp→VK→Prop:=fun x vs H Q=>∃l xs y,x=.ref l∧vs=[y]∧H l=some (.lst xs)∧xs.length<sizeLine∧Q .non (upd H l (.lst (xs++[y])))
theorem zcz:MtM X "list.append" zvx:=by
 intro pins s σ H x vs v us Q I rx rv h
 obtain⟨l,xs,y,rfl,rfl,hH,hz,q⟩:=h
 cases rx
 obtain⟨u,rfl,ru⟩:=rv.one
 obtain⟨z,aa,n,r,hl,e⟩:=I.lstM hH
 refine call_meets F.slot_list_append ⟨_,e,rfl⟩ F.entry_list_append (F.args_list_append_2 _ _) (PySem.list_append l aa.toArray n u (by rw[List.size_toArray];omega)) ⟨e,?_⟩
 refine⟨.non,_,I.lset (its':=aa++[u]) hH e (by simp) (r.append (.cons ru .nil)) ?_,rfl,q⟩
 rw[List.length_append,List.length_singleton]
 omega
def zwk:V→List V→Hp→VK→Prop:=fun x vs H Q=>∃l b xs zs,x=.ref l∧vs=[.ref b]∧H l=some (.lst xs)∧H b=some (.lst zs)∧xs.length+zs.length≤sizeLine∧Q .non (upd H l (.lst (xs++zs)))
theorem zsw:MtM X "list.extend" zwk:=by
 intro pins s σ H x vs v us Q I rx rv h
 obtain⟨l,b,xs,zs,rfl,rfl,hH,hB,hz,q⟩:=h
 cases rx
 obtain⟨u,rfl,ru⟩:=rv.one
 cases ru
 obtain⟨z,ad,n,r,hl,e⟩:=I.lstM hH
 obtain⟨z2,aa,n2,r2,af,e2⟩:=I.lstM hB
 have hsz:ad.toArray.size+aa.toArray.size≤sizeLine:=by rw[List.size_toArray,List.size_toArray];omega
 have ae:¬(!ad.toArray.isEmpty&&Builtin.List.listTooLong (ad.toArray.size+aa.toArray.size))=true:=by
  rw[zt6 hsz,Bool.and_false]
  exact Bool.false_ne_true
 refine call_meets F.slot_list_extend ⟨_,e,rfl⟩ F.entry_list_extend (F.args_list_extend_2 _ _)
  (AutoSeq1.list_extend_list_list_0 l ad.toArray n b aa.toArray n2 ae (by rw[List.size_toArray];omega) (by omega)) ⟨e,e2,?_⟩
 refine⟨.non,_,I.lset (its':=ad++aa) hH e (by simp) (r.append r2) ?_,rfl,q⟩
 rw[List.length_append]
 omega
def zzq:R2:=fun x y H Q=>∃l b xs zs,x=.ref l∧y=.ref b∧H l=some (.lst xs)∧H b=some (.lst zs)∧xs.length+zs.length≤sizeLine∧∀p,H p=none→Q (.ref p) (upd H p (.lst (xs++zs)))
theorem zdp:OpR X (binaryOp .Add) zzq:=by
 intro pins s σ H x y v u Q I rx ry h
 obtain⟨l,b,xs,zs,rfl,rfl,hH,hB,hz,q⟩:=h
 cases rx
 cases ry
 obtain⟨z,ad,n,r,hl,e⟩:=I.lstM hH
 obtain⟨z2,aa,n2,r2,ae,e2⟩:=I.lstM hB
 refine PySem.P.add_list e e2 ?_ (by rw[List.size_toArray,List.size_toArray];omega)
 have ea:ad.toArray++aa.toArray=(ad++aa).toArray:=by simp
 rw[ea]
 exact⟨.ref _,_,I.lnew (t':=s.toks) (r.append r2) (by rw[List.length_append];omega),rfl,q _ I.fresh⟩
end
section
variable {prog : Program} {w : World} {A : Around} {E : Value → Shared → Prop} {s : Shared}
set_option maxRecDepth 100000 in
end
end L2
namespace Att
open PySem PySem.W PySem.Calls PyProof.Rows
theorem zi5{P:Params}{h:Heap}:∀(ns:List Int)(vs:List Value),WellAll P h vs (ns.map WData.int)→IntsAre vs ns:=by
 intro ns
 induction ns with
 |nil=>
  intro vs w
  rw[List.map_nil] at w
  cases w
  exact .nil
 |cons n ns ih=>
  intro vs w
  rw[List.map_cons] at w
  cases w with
  |cons a b=>
   cases a
   exact .cons _ _ (ih _ b)
theorem zso{l:OpenLaw}{n:Nat}(hn:l.most=some n){P:Params}{h:Heap}{args:List WData}{vals:List Value}
  (hpre:l.row.toRowW.claim.pre args=true) (hwl:WellAll P h vals args):
  ∃a vs ns,vals=[Value.ref a]∧args=[WData.list (ns.map WData.int)]∧h.get? a=some { cls:=.type "list",data:=.seq vs.toArray }∧IntsAre vs ns∧ns.length≤n:=by
 have ad:WShape.hasAll [] args [.list .int]=true:=(pre_splitW hpre).1
 have hc:l.pre.holds [] { args:=args }=true:=(pre_splitW hpre).2
 obtain⟨d,r,rfl,h1,h2⟩:=hasAllW_cons ad
 obtain rfl:=hasAllW_nil h2
 obtain⟨xs,rfl,h3⟩:=hasW_list h1
 obtain⟨ns,rfl⟩:=items_int h3
 have aa:ns.length≤n:=by
  unfold OpenLaw.pre at hc
  have h4:(WTm.not (.lt (.lit (.int (n:Int))) (.len (.arg 0)))).holds [] { args:=[.list (ns.map .int)] }=true:=by
   have h4:=(holds_andW hc).1
   rw[hn] at h4
   exact h4
  have h5:=condW_of h4 (w_not (w_lt w_lit (w_len_list (w_arg rfl))))
  rw[List.length_map] at h5
  refine Nat.le_of_not_lt fun q=>?_
  have q':(n:Int)<((ns.length:Nat):Int):=by omega
  first
   |(rw[decide_eq_true q'] at h5;exact absurd h5 (by decide))
   |(simp at h5;omega)
 cases hwl with
 |cons w1 w2=>
  cases w2
  cases w1 with
  |list ho hall=>exact⟨_,_,ns,rfl,rfl,ho,zi5 ns _ hall,aa⟩
theorem zsa(l:OpenLaw)(args:List WData):l.row.toRowW.claim.post args (.bool true) args=true:=
 postW_of (r:=l.row.toRowW) (X:=(true==true))
  (show WShape.has [] (.bool true) .bool=true by first|rfl|decide|simp[WShape.has,WShape.arms,WShape.armsAll])
  (show(WTm.eq .res (.lit (.bool true))).value [] { args:=args,res:=some (.bool true),after:=args }=some (.bool (true==true)) from w_eq_bool (w_res rfl) w_lit) rfl
theorem attach_call{l:OpenLaw}{n:Nat}{q:Program}{loose:List Str}{XP:(Str→Option Value)→Heap→Prop}{YP:World→Heap→Prop}{d:DefRec}
  (hn:l.most=some n) (hdf:d.params.defaults=[])
  (call:∀(w:World)(s₀ s₁:Shared)(mg mb:Str→Option Value)(fa:Addr)(o:Obj)(pm cd doc:Value)(a:Addr)(vs:List Value)(ns:List Int),
   Ground q loose [] XP w s₀ mg mb s₁.heap→YP w s₁.heap →
   s₁.heap.get? fa=some o→o.data=.func (docDef d.name d.params d.body d.scope pm cd doc)→s₁.heap.CodeRec cd d.name→mg d.name=some (.ref fa) →
   s₁.heap.get? a=some { cls:=.type "list",data:=.seq vs.toArray }→IntsAre vs ns→ns.length≤n→s₁.gens=#[] →
   codeAny (model l.prog w) callerA (.call (.ref fa) ⟨[.ref a],[]⟩) (fun r s'=>r=.ok (.ret (.bool true))∧OldK s₁.heap s'.heap∧s'.os=s₁.os∧AllBare s'.gens) s₁):
  WalkO q loose XP YP l.row.toRowW d [] (fun f vs=>PySem.call f vs):=by
 intro w s₀ s₁ mg mb G Y fa o pm cd doc dV kV ho hd ag hD aj hg args ak as ad ah am ai al
 obtain rfl:dV=.none:=Dflts.none hD hdf
 obtain rfl:kV=.none:=Dflts.noKw hD
 obtain⟨a,vs,ns,rfl,rfl,af,aa,ae⟩:=zso hn ad ai
 refine enter_call (codeAny_mono (call w s₀ s₁ mg mb fa o pm cd doc a vs ns G Y ho (fd_plain hd) ag aj af aa ae hg) fun r s' hq=>?_)
 obtain⟨rfl,h2,h3,h4⟩:=hq
 exact⟨.inl ⟨.bool true,.bool true,[],rfl,fun _=>rfl,.bool true,zsa l _,fun _=>⟨List.Pairwise.nil,fun _ hm=>(nomatch hm)⟩⟩,h2,h3,h4⟩
end Att
namespace L2
open PySem PySem.Spec PyProof.Rows
theorem zig:∀{vs:List Value} {ns:List Int},IntsAre vs ns→Vals (ns.map V.int) vs
 |_,_,.nil=>.nil
 |_,_,.cons n t h=>.cons ⟨t,rfl⟩ (zig h)
def zdy(s:Stmt):Arguments:=match s with
 |.FunctionDef _ a _ _ _ _ _ _ _ _=>a
 |_=>{ posonlyargs:=[],args:=[],vararg:=none,kwonlyargs:=[],kw_defaults:=[],kwarg:=none,defaults:=[] }
def zba(s:Stmt):List Stmt:=match s with
 |.FunctionDef _ _ b _ _ _ _ _ _ _=>b
 |_=>[]
def zah(s:Stmt):Scope:=match s with
 |.FunctionDef _ _ _ _ _ _ sc _ _ _=>sc
 |_=>{ kind:=.function,names:=[],isGenerator:=false,isCoroutine:=false }
abbrev CX0:CXT:=fun _ _ _ _ _ _=>False
abbrev E0:XK:=fun _ _ _=>False
theorem zc1{X:Cx}:zg4 CX0 X E0:=fun _ _ _ _ _ _ _ h=>h.elim
structure Fun(K:PySem.W.Frag)(x qual:Str)(st:Stmt)(f:Addr)(fd:FuncData):Prop where
 ex:∃(oc:Value)(od:Option Addr)(kV doc pm:Value)(an:Option Addr)(cdv ct:Value)(osl:Array (Option Value)),
  fd=PySem.W.fnOf x qual (zdy st) (zba st) (zah st) .none kV doc pm an cdv ct∧K.lookup f=some ⟨oc,od,.func fd,osl⟩∧PySem.W.codeIn K cdv qual=true
 kp:PySem.W.keepIn K (.ref f)=true
section
variable {P : Program} {w : World} {K : PySem.W.Frag} {mg : Str → Option Value} {base : Heap}
theorem Fun.ok{x qual:Str}{st:Stmt}{f:Addr}{fd:FuncData}{N ps:List Str}{k:Nat}{sp:Sp}(F:Fun K x qual st f fd)(S:zay N ps (zah st))(len:∀vs H Q E,sp vs H Q E→vs.length=ps.length)
  (hbody:∀(cdv:Value)(A:Around)(outer:List Env)(s:Shared)(H:Hp)(vs:List V)(Q:VK)(E:XK),Room k (A.deeper (envOfC qual (zah st) s.heap.objs.size f cdv))→sp vs H Q E →
   ∃t,PSs (zd2 CX0 P w K mg base N qual (zah st) f cdv A outer s H E).nox (zba st) t∧t { nx:=fun _ H'=>Q .non H',rt:=Q } (zhn N vs) H):FnOk P w K mg base CX0 (k+1) f fd ps sp:=by
 obtain⟨oc,od,kV,doc,pm,an,cdv,ct,osl,rfl,lk,aa⟩:=F.ex
 refine zwu lk aa S len fun A outer s H vs Q E hr ad=>?_
 obtain⟨t,h,q⟩:=hbody cdv A outer s H vs Q E hr ad
 exact⟨t,h.nox,q⟩
theorem Fun.binds{x qual:Str}{st:Stmt}{f:Addr}{fd:FuncData}{ps:List Str}(F:Fun K x qual st f fd)
  (h:∀(kV doc pm:Value)(an:Option Addr)(cdv ct:Value)(us:List Value),us.length=ps.length→bindArgs (PySem.W.fnOf x qual (zdy st) (zba st) (zah st) .none kV doc pm an cdv ct) ⟨us,[]⟩=pure (ps.zip us)):Binds K fd ps []:=by
 obtain⟨oc,od,kV,doc,pm,an,cdv,ct,osl,rfl,lk,aa⟩:=F.ex
 exact .all (h kV doc pm an cdv ct)
theorem zt5{x qual:Str}{st:Stmt}{f:Addr}{oc:Value}{od an:Option Addr}{osl:Array (Option Value)}{kV doc pm cdv ct:Value}(l:K.lookup f=some ⟨oc,od,.func (PySem.W.fnOf x qual (zdy st) (zba st) (zah st) .none kV doc pm an cdv ct),osl⟩)
  (c:PySem.W.codeIn K cdv qual=true) (k:PySem.W.keepIn K (.ref f)=true):Fun K x qual st f (PySem.W.fnOf x qual (zdy st) (zba st) (zah st) .none kV doc pm an cdv ct):=⟨⟨oc,od,kV,doc,pm,an,cdv,ct,osl,rfl,l,c⟩,k⟩
end
theorem zbi{n:Nat}(h:n≤1000):n<sizeLine:=Nat.lt_of_le_of_lt h (by decide)
section
variable {X : Cx}
theorem pv(i:Nat){x:Str}{pos:Pos}(hN:X.N[i]?=some x:=by rfl)(hv:Vis X.env.scope x:=by first|exact Or.inl rfl|exact Or.inr (Or.inl rfl)|exact Or.inr (Or.inr rfl))(hd:(x==("__debug__" : Str))=false:=by decide)
  (hcd:(x==("__classdict__" : Str))=false:=by decide):PE X (.Name x pos) (zwe i):=ztj hN hv hd hcd
end
theorem zgb{A B:Prop}(h:B):if false=true then A else B:=by
 rw[if_neg Bool.false_ne_true]
 exact h
theorem zkg{A B:Prop}(h:A):if true=true then A else B:=by
 rw[if_pos rfl]
 exact h
theorem zcw{c A B:Prop}[Decidable c](h1:c→A)(h2:¬c→B):if c then A else B:=by
 by_cases h:c
 ·rw[if_pos h]
  exact h1 h
 ·rw[if_neg h]
  exact h2 h
theorem zfr{c A B:Prop}[Decidable c](hc:c)(h:B):if (!decide c)=true then A else B:=by
 rw[decide_eq_true hc]
 exact zgb h
def zgz(c:Addr):Heap→Prop:=fun h=>∃(o:Obj)(vs:Array Value)(q:Str)(t:Nat),h.get? c=some o∧o.data=.fields vs∧vs[1]?=some (.str q t)
def zcm(H:Hp)(P:Addr):Prop:=∃ps:Array Value,H P=some (.tbl ps)∧TriplesOk ps.toList∧∀pos:Pos,codeAmong pos ps.toList=none∨∃c:Addr,codeAmong pos ps.toList=some (.ref c)∧H c=some (.ext (zgz c))
def Kp(H H':Hp)(b:Addr):HO→Prop
 |.tbl _=>(∃ps,H' b=some (.tbl ps))∧(zcm H b→zcm H' b)
 |o=>H' b=some o
def Same(H H':Hp):Prop:=∀b o,H b=some o→Kp H H' b o
theorem Kp.of{H H':Hp}{b:Addr}{o:HO}(h:H b=some o)(e:H' b=some o)(hc:∀c,H c=some (.ext (zgz c))→H' c=some (.ext (zgz c))):Kp H H' b o:=by
 cases o
 case tbl ps=>
  refine⟨⟨ps,e⟩,fun⟨qs,hq,tr,hp⟩=>?_⟩
  rw[h] at hq
  cases hq
  exact⟨_,e,tr,fun pos=>(hp pos).imp id fun⟨c,z1,z2⟩=>⟨c,z1,hc c z2⟩⟩
 all_goals exact e
theorem znb{H H':Hp}(h:∀b o,H b=some o→H' b=some o):Same H H':=fun b o e=>Kp.of e (h b o e) fun c z=>h c _ z
theorem Same.refl(H:Hp):Same H H:=znb fun _ _ h=>h
theorem Same.trans{H H1 H2:Hp}(a:Same H H1)(b:Same H1 H2):Same H H2:=fun c o h=>by
 have z:=a c o h
 cases o
 case tbl ps=>
  obtain⟨⟨qs,hq⟩,k⟩:=z
  obtain⟨q2,k2⟩:=b c _ hq
  exact⟨q2,fun t=>k2 (k t)⟩
 all_goals exact b c _ z
theorem Kp.some{H H':Hp}{b:Addr}{o:HO}(k:Kp H H' b o):∃u,H' b=some u:=by
 cases o
 case tbl ps=>exact⟨_,k.1.choose_spec⟩
 all_goals exact⟨_,k⟩
theorem Same.free{H H':Hp}(e:Same H H'){l:Addr}(h:H' l=Option.none):H l=Option.none:=by
 cases q:H l with
 |none=>rfl
 |some o=>
  obtain⟨u,z⟩:=(e l o q).some
  rw[z] at h
  cases h
theorem Same.tab{H H':Hp}{P:Addr}(e:Same H H')(t:zcm H P):zcm H' P:=by
 obtain⟨ps,h,_⟩:=id t
 exact(e _ _ h).2 t
theorem zj6{pos pos':Pos}{c:Value}(l:List Value)(h:TriplesOk l):codeAmong pos (l++[rawInt pos'.line,rawInt pos'.col,c])=codeAmong pos l∨codeAmong pos (l++[rawInt pos'.line,rawInt pos'.col,c])=some c:=by
 fun_induction TriplesOk l with
 |case1=>
  by_cases hc:((pos'.line:Int)==(pos.line:Int)&&(pos'.col:Int)==(pos.col:Int))=true
  ·exact .inr (by simp only[List.nil_append,codeAmong,rawInt];rw[if_pos hc])
  ·exact .inl (by simp only[List.nil_append,codeAmong,rawInt];rw[if_neg hc])
 |case2 a t b u x rest ih=>
  simp only[List.cons_append,codeAmong]
  split
  ·exact .inl rfl
  ·exact ih h
 |case3=>exact h.elim
theorem zmh{α β:Type}(g:α→β→β){f:α→β→Sem (ForInStep β)}:∀(l:List α)(b:β),(∀x∈l,∀c,f x c=pure (ForInStep.yield (g x c))) →
  forIn l b f=(pure (l.foldl (fun c x=>g x c) b):Sem β)
 |[],b,_=>by simp only[List.forIn_nil,List.foldl_nil]
 |x::r,b,h=>by
  rw[List.forIn_cons,h x List.mem_cons_self b,pure_bind]
  exact zmh g r (g x b) fun y hy c=>h y (List.mem_cons_of_mem _ hy) c
def zge(sc:Scope)(env:Env):List (Str×Addr):=
 sc.names.foldl (fun cs y=>if (y.2==NameKind.free)=true then (y.1,(env.cells.lookup y.1).getD 0)::cs else cs) []
theorem zq6{sc:Scope}{env:Env}(h:∀y∈sc.names,y.2=.free→∃c,env.cells.lookup y.1=some c):closureFor sc env=pure (zge sc env):=by
 simp only[closureFor]
 rw[zmh (fun(y:Str×NameKind)(cs:List (Str×Addr))=>if (y.2==NameKind.free)=true then (y.1,(env.cells.lookup y.1).getD 0)::cs else cs) sc.names [] (fun y hy c=>by
  obtain⟨n,k⟩:=y
  by_cases hk:k=.free
  ·obtain⟨a,ha⟩:=h _ hy hk
   subst hk
   simp only[cellOf,ha,beq_self_eq_true,if_true,pure_bind,Option.getD_some]
  ·have z:(k==NameKind.free)=false:=by simpa using hk
   simp only[z,Bool.false_eq_true,if_false])]
 rfl
theorem zme{α β:Type}{P:β→Prop}{g:α→List β→List β}:∀(l:List α)(b:List β),(∀p∈b,P p)→(∀x∈l,∀c,(∀p∈c,P p)→∀p∈g x c,P p)→∀p∈l.foldl (fun c x=>g x c) b,P p
 |[],b,hb,_=>hb
 |x::r,b,hb,h=>zme r (g x b) (h x List.mem_cons_self b hb) fun y hy=>h y (List.mem_cons_of_mem _ hy)
theorem zui{sc:Scope}{env:Env}(h:∀y∈sc.names,y.2=.free→∃c,env.cells.lookup y.1=some c):∀p∈zge sc env,env.cells.lookup p.1=some p.2:=by
 refine zme (P:=fun p:Str×Addr=>env.cells.lookup p.1=some p.2) sc.names [] (fun _ z=>nomatch z) fun y hy c hc p hp=>?_
 by_cases hk:y.2=.free
 ·have z:(y.2==NameKind.free)=true:=by simpa using hk
  rw[if_pos z] at hp
  rcases List.mem_cons.mp hp with e|hp
  ·obtain⟨a,ha⟩:=h y hy hk
   rw[e]
   show env.cells.lookup y.1=some ((env.cells.lookup y.1).getD 0)
   rw[ha]
   rfl
  ·exact hc p hp
 ·have z:¬(y.2==NameKind.free)=true:=by simpa using hk
  rw[if_neg z] at hp
  exact hc p hp
theorem zk3{α β:Type}{q:β}{g:α→List β→List β}(hg:∀x c,q∈c→q∈g x c):∀(l:List α)(b:List β),q∈b→q∈l.foldl (fun c x=>g x c) b
 |[],_,hb=>hb
 |x::r,b,hb=>zk3 hg r (g x b) (hg x b hb)
theorem zu9{sc:Scope}{env:Env}{x:Str}{c:Addr}(hx:(x,NameKind.free)∈sc.names)(hc:env.cells.lookup x=some c):(x,c)∈zge sc env:=by
 have kp:∀(y:Str×NameKind)(cs:List (Str×Addr)),(x,c)∈cs→(x,c)∈(if (y.2==NameKind.free)=true then (y.1,(env.cells.lookup y.1).getD 0)::cs else cs):=fun y cs h=>by
  by_cases z:(y.2==NameKind.free)=true
  ·rw[if_pos z]
   exact List.mem_cons_of_mem _ h
  ·rw[if_neg z]
   exact h
 unfold zge
 obtain⟨l1,l2,e⟩:=List.append_of_mem hx
 rw[e,List.foldl_append,List.foldl_cons]
 refine zk3 (g:=fun(y:Str×NameKind)(cs:List (Str×Addr))=>if (y.2==NameKind.free)=true then (y.1,(env.cells.lookup y.1).getD 0)::cs else cs) kp l2 _ ?_
 rw[if_pos (by simp)]
 rw[hc]
 exact List.mem_cons_self
theorem zf4{β:Type}{x:Str}{b:β}:∀{l:List (Str×β)},(x,b)∈l→∃c,l.lookup x=some c
 |[],h=>nomatch h
 |(y,d)::r,h=>by
  by_cases e:x=y
  ·subst e
   exact⟨d,by rw[List.lookup_cons_self]⟩
  ·have z:(x==y)=false:=by simpa using e
   rcases List.mem_cons.mp h with q|q
   ·cases q
    exact absurd rfl e
   ·obtain⟨c,hc⟩:=zf4 q
    exact⟨c,by rw[List.lookup_cons,z];exact hc⟩
theorem zb5{sc:Scope}{env:Env}(h:∀y∈sc.names,y.2=.free→∃c,env.cells.lookup y.1=some c){x:Str}{c:Addr}(e:(zge sc env).lookup x=some c):env.cells.lookup x=some c:=
 zui h _ (PySem.mem_of_lookup e)
theorem zji{sc:Scope}{env:Env}(h:∀y∈sc.names,y.2=.free→∃c,env.cells.lookup y.1=some c){x:Str}{c:Addr}(hx:(x,NameKind.free)∈sc.names)(hc:env.cells.lookup x=some c):(zge sc env).lookup x=some c:=by
 obtain⟨d,hd⟩:=zf4 (zu9 hx hc)
 have:=zb5 h hd
 rw[hc] at this
 cases this
 exact hd
def zp0(sc sc0:Scope):Scope:=
 { sc with names:=sc.names.map fun(n,k)=>if (k==.free&&sc0.kind==.function&&sc0.names.lookup n==some .cell) then (n,.cell) else (n,k) }
def zs2(sc0 sc:Scope)(XN N':List Str)(n:Nat)(kp:List Nat):Bool:=
 decide (sc.kind=.function)&&sc.names.all (fun y=>decide (y.2≠.cell))&&sc.names.all (fun y=>decide (y.2=.local→sc.names.lookup y.1=some .local)) &&
 sc.names.all (fun y=>decide (y.2=.free→sc0.names.lookup y.1=some .cell))&&decide (N'.length=n+kp.length) &&
 (List.range kp.length).all (fun i=>match N'[n+i]?,kp[i]? with
  |some x,some j=>decide (XN[j]?=some x∧(x,NameKind.free)∈sc.names∧((zp0 sc sc0).names.lookup x=some .cell∨(zp0 sc sc0).names.lookup x=some .free))
  |_,_=>false)
theorem zki{sc0 sc:Scope}{XN N':List Str}{n:Nat}{kp:List Nat}(h:zs2 sc0 sc XN N' n kp=true):
  sc.kind=.function∧(∀y∈sc.names,y.2≠.cell)∧(∀y∈sc.names,y.2=.local→sc.names.lookup y.1=some .local)∧(∀y∈sc.names,y.2=.free→sc0.names.lookup y.1=some .cell)∧N'.length=n+kp.length ∧
  ∀(i:Nat)(x:Str),N'[n+i]?=some x→∃j,kp[i]?=some j∧XN[j]?=some x∧(x,NameKind.free)∈sc.names∧((zp0 sc sc0).names.lookup x=some .cell∨(zp0 sc sc0).names.lookup x=some .free):=by
 unfold zs2 at h
 simp only[Bool.and_eq_true,List.all_eq_true,decide_eq_true_eq] at h
 obtain⟨⟨⟨⟨⟨h1,h2⟩,h3⟩,h4⟩,h5⟩,h6⟩:=h
 refine⟨h1,h2,h3,h4,h5,fun i x hx=>?_⟩
 have hi:i<kp.length:=by
  have:=(List.getElem?_eq_some_iff.mp hx).1
  omega
 have q:=h6 i (List.mem_range.mpr hi)
 rw[hx,List.getElem?_eq_getElem hi] at q
 exact⟨kp[i],List.getElem?_eq_getElem hi,of_decide_eq_true q⟩
abbrev NoX:Value→Shared→Prop:=fun _ _=>False
def blk(X:Cx)(N':List Str)(sc:Scope)(C:Addr)(fp:List Addr)(pins:List (Addr×Obj))(s:Shared)(H:Hp):Cx:=
 { X with N:=N',s₀:=s,H₀:=H,env:=compEnvC sc (zge sc X.env) C X.env,outer:=X.stack,stack:=X.stack,ex:=fp,fn:=fun _=>false,pn:=X.pn++pins,xe:=NoX }
abbrev zwm(cs:List Expr)(env:Env):Sem Bool:=forIn cs true fun c r=>if r=true then do let ok ←isTrue c env (eval c env);pure (ForInStep.yield ok) else pure (ForInStep.yield r)
def PTs(X:Cx)(cs:List Expr)(t:TT):Prop:=
 ∀(pins:List (Addr×Obj))(s:Shared)(σ:St)(H:Hp)(Q:Bool→Hp→Prop),Inv X pins σ H s→t σ H Q→wpAny (model X.prog X.w) X.A (zwm cs X.env) (TP X pins σ Q) X.xe s
def zzb:TT:=fun _ H Q=>Q true H
theorem zgl{X:Cx}:PTs X [] zzb:=fun _ _ _ H _ I h=>wpAny_tests_nil ⟨H,I,h⟩
theorem zbv{X:Cx}{c:Expr}{t:TT}(hc:PT X c t):PTs X [c] t:=fun pins s σ H Q I h=>wpAny_tests_one (hc pins s σ H Q I h)
theorem zvk{prog:Program}{w:World}{A:Around}{R:Result→Shared→Prop}{elt tg iter:Expr}{cs:List Expr}{sc:Scope}{pos:Pos}{it acc:Value}{env:Env}(J:Nat→Shared→Prop)
  (turn:∀n s,J n s→wpAny (model prog w) A (pyNext it) (fun r s1=>match r with
   |none=>R (.ok .next) s1
   |some v=>wpAny (model prog w) A (letOwnedTupleGo tg it v) (fun _ s2=>wpAny (model prog w) A (assign tg env v) (fun _ s3=>wpAny (model prog w) A (zwm cs env) (fun ok s4=>
     if ok=true then wpAny (model prog w) A (eval elt env) (fun x s5=>wpAny (model prog w) A (call (.builtin "list.append") [acc,x]) (fun _ s6=>∃m,m<n∧J m s6) NoX s5) NoX s4
     else ∃m,m<n∧J m s4) NoX s3) NoX s2) NoX s1) NoX s)
  (n:Nat) (s:Shared) (h:J n s):codeAny (model prog w) A (.compLoop (.ListComp elt [⟨tg,iter,cs,0⟩] sc pos) 0 it acc env) R s:=by
 refine codeAny_loop rfl J (fun n s hJ=>?_) n h
 show wpAny _ A ((compTurn (.ListComp elt [⟨tg,iter,cs,0⟩] sc pos) 0 it acc env).onRaise (fun x=>do noteFrame x env;theTreesLotGoes x)) _ _ s
 refine wpAny_noted ?_
 rw[compTurn_list]
 have no:∀{E:Value→Shared→Prop} (e:Value) (z:Shared),NoX e z→E e z:=fun _ _ f=>f.elim
 refine wpAny_bind (wpAny_standAt (wpAny_bind (wpAny_mono (turn n s hJ) (fun r s1 h1=>?_) no)))
 cases r with
 |none=>exact wpAny_pure h1
 |some v=>
  refine wpAny_bind (wpAny_mono h1 (fun _ s2 h2=>?_) no)
  refine wpAny_bind (wpAny_mono h2 (fun _ s3 h3=>?_) no)
  refine wpAny_bind (wpAny_mono h3 (fun ok s4 h4=>?_) no)
  cases ok with
  |false=>exact wpAny_pure ⟨rfl,h4⟩
  |true=>
   exact wpAny_bind (wpAny_bind (wpAny_mono h4 (fun x s5 h5=>wpAny_bind (wpAny_mono h5 (fun _ s6 h6=>wpAny_pure (wpAny_pure ⟨rfl,h6⟩)) no)) no))
def zm5(J:It)(g:TG)(tc:TT)(te:TE)(σ0:St)(H1:Hp)(Q:VK):Prop:=∃W:Nat→Nat→List V→St→Hp→Prop,
  (∃m,W 0 m [] σ0 H1)∧∀i m ys σ' H',W i m ys σ' H'→ys.length≤sizeLine ∧
    ((J.stop i H'∧∀p,H' p=none→Q (.ref p) (upd H' p (.lst ys))) ∨
     (J.go i H'∧∃N:List V→St→Hp→Prop,(∀ys' σ2 H2,N ys' σ2 H2→∃m',m'<m∧W (i+1) m' ys' σ2 H2)∧∀x H2,J.yld i H' x H2→g x σ' H2 fun σ3 H3=>tc σ3 H3 fun b H4=>
       if b=true then te σ3 H4 fun v H5=>N (ys++[v]) σ3 H5 else N ys σ3 H4))
def tLc(n:Nat)(kp:List Nat)(wi:TI)(g:TG)(tc:TT)(te:TE):TE:=fun σ H Q=>wi σ H fun J H1=>zm5 J g tc te (List.replicate n none++kp.map fun j=>(σ[j]?).join) H1 Q
theorem zun{lo:Int}{k:Nat}{σ0:St}{H:Hp}{g:TG}{tc:TT}{te:TE}{Q:VK}(Pv:Nat→List V→St→Hp→Prop)(h0:Pv 0 [] σ0 H)(hz:∀i ys σ H,i≤k→Pv i ys σ H→ys.length≤sizeLine)
  (hs:∀i ys σ H,i<k→Pv i ys σ H→g (.int (lo+i)) σ H fun σ3 H3=>tc σ3 H3 fun b H4=>if b=true then te σ3 H4 fun v H5=>Pv (i+1) (ys++[v]) σ3 H5 else Pv (i+1) ys σ3 H4)
  (hd:∀ys σ H,Pv k ys σ H→∀p,H p=none→Q (.ref p) (upd H p (.lst ys))):
  zm5 (Itr lo k) g tc te σ0 H Q:=by
 refine⟨fun i m ys σ H=>m=k-i∧i≤k∧Pv i ys σ H,⟨k,by simp,Nat.zero_le _,h0⟩,?_⟩
 rintro i m ys σ H ⟨rfl,hi,p⟩
 refine⟨hz i ys σ H hi p,?_⟩
 by_cases aa:i<k
 ·refine .inr ⟨aa,Pv (i+1),fun ys' σ' H' p'=>⟨k-(i+1),by omega,rfl,aa,p'⟩,fun x H' y=>?_⟩
  obtain⟨e1,e2⟩:=y
  subst e1
  subst e2
  exact hs i ys σ _ aa p
 ·have e:i=k:=by omega
  subst e
  exact .inl ⟨Nat.le_refl _,hd ys σ H p⟩
theorem zbx{K:PySem.W.Frag}{a:Addr}{xs:List V}{σ0:St}{H:Hp}{g:TG}{tc:TT}{te:TE}{Q:VK}(Pv:Nat→List V→St→Hp→Prop)(h0:Pv 0 [] σ0 H)(hz:∀i ys σ H,i≤xs.length→Pv i ys σ H→ys.length≤sizeLine)
  (hl:∀i ys σ H,i≤xs.length→Pv i ys σ H→SqL K H a xs)
  (hs:∀i x ys σ H,xs[i]?=some x→Pv i ys σ H→g x σ H fun σ3 H3=>tc σ3 H3 fun b H4=>if b=true then te σ3 H4 fun v H5=>Pv (i+1) (ys++[v]) σ3 H5 else Pv (i+1) ys σ3 H4)
  (hd:∀ys σ H,Pv xs.length ys σ H→∀p,H p=none→Q (.ref p) (upd H p (.lst ys))):
  zm5 (Itl K a) g tc te σ0 H Q:=by
 refine⟨fun i m ys σ H=>m=xs.length-i∧i≤xs.length∧Pv i ys σ H,⟨xs.length,by simp,Nat.zero_le _,h0⟩,?_⟩
 rintro i m ys σ H ⟨rfl,hi,p⟩
 refine⟨hz i ys σ H hi p,?_⟩
 have q:=hl i ys σ H hi p
 by_cases aa:i<xs.length
 ·refine .inr ⟨⟨xs,xs[i],q,by simp[aa]⟩,Pv (i+1),fun ys' σ' H' p'=>⟨xs.length-(i+1),by omega,rfl,aa,p'⟩,fun x H' y=>?_⟩
  obtain⟨e,y⟩:=y
  subst e
  exact hs i x ys σ _ (y xs q) p
 ·have e:i=xs.length:=by omega
  subst e
  exact .inl ⟨⟨xs,q,Nat.le_refl _⟩,hd ys σ H p⟩
theorem zm4{K:PySem.W.Frag}{a:Addr}{xs:List V}{σ0:St}{H:Hp}{g:TG}{tc:TT}{te:TE}{Q:VK}(Pv:Nat→List V→St→Hp→Prop)(h0:Pv 0 [] σ0 H)(hz:∀i ys σ H,i≤xs.length→Pv i ys σ H→ys.length≤sizeLine)
  (hl:∀i ys σ H,i≤xs.length→Pv i ys σ H→SqT K H a xs)
  (hs:∀i x ys σ H,xs[i]?=some x→Pv i ys σ H→g x σ H fun σ3 H3=>tc σ3 H3 fun b H4=>if b=true then te σ3 H4 fun v H5=>Pv (i+1) (ys++[v]) σ3 H5 else Pv (i+1) ys σ3 H4)
  (hd:∀ys σ H,Pv xs.length ys σ H→∀p,H p=none→Q (.ref p) (upd H p (.lst ys))):
  zm5 (Itt K a) g tc te σ0 H Q:=by
 refine⟨fun i m ys σ H=>m=xs.length-i∧i≤xs.length∧Pv i ys σ H,⟨xs.length,by simp,Nat.zero_le _,h0⟩,?_⟩
 rintro i m ys σ H ⟨rfl,hi,p⟩
 refine⟨hz i ys σ H hi p,?_⟩
 have q:=hl i ys σ H hi p
 by_cases aa:i<xs.length
 ·refine .inr ⟨⟨xs,xs[i],q,by simp[aa]⟩,Pv (i+1),fun ys' σ' H' p'=>⟨xs.length-(i+1),by omega,rfl,aa,p'⟩,fun x H' y=>?_⟩
  obtain⟨e,y⟩:=y
  subst e
  exact hs i x ys σ _ (y xs q) p
 ·have e:i=xs.length:=by omega
  subst e
  exact .inl ⟨⟨xs,q,Nat.le_refl _⟩,hd ys σ H p⟩
section
variable {X : Cx} {tg iter elt : Expr} {cs : List Expr} {sc sc0 : Scope} {pos : Pos} {wi : TI} {g : TG} {tc : TT} {te : TE} {XN N' : List Str} {n : Nat} {kp : List Nat}
theorem zw6{pins:List (Addr×Obj)}{σ:St}{H:Hp}{s:Shared}{fp:List Addr}{C:Addr}(I:Inv X pins σ H s)(hk:sc.kind=.function)(hcell:∀y∈sc.names,y.2≠.cell)
  (hfr:∀y∈sc.names,y.2=.free→∃c,X.env.cells.lookup y.1=some c) (hf:∀b∈fp,zi9 X pins H b) (hl:∀b∈fp,b<s.heap.objs.size) (hC:s.heap.objs.size≤C):(blk X N' sc C fp pins s H).Ok where
 mod:=I.ok.mod
 kind:=hk
 glob:=I.ok.glob
 blt:=I.ok.blt
 above:=hC
 inj:=fun x y c h1 h2=>I.ok.inj x y c (zb5 hfr h1) (zb5 hfr h2)
 has:=fun x hx=>by
  have q:∃k,(x,k)∈sc.names∧k=.free:=by
   have aa:(zp0 sc X.env.scope).names.lookup x=some .cell∨(zp0 sc X.env.scope).names.lookup x=some .free:=hx
   have go:∀k,(zp0 sc X.env.scope).names.lookup x=some k→(k=.cell∨k=.free)→(x,NameKind.free)∈sc.names:=fun k e ad=>by
    have hm:=PySem.mem_of_lookup e
    obtain⟨⟨y,ky⟩,hy,ey⟩:=List.mem_map.mp hm
    dsimp only at ey
    split at ey
    ·rename_i hc
     cases ey
     have z:ky=.free:=by
      simp only[Bool.and_eq_true] at hc
      simpa using hc.1.1
     subst z
     exact hy
    ·cases ey
     rcases ad with z|z
     ·exact absurd z (hcell _ hy)
     ·subst z
      exact hy
   rcases aa with e|e
   ·exact⟨_,go _ e (.inl rfl),rfl⟩
   ·exact⟨_,go _ e (.inr rfl),rfl⟩
  obtain⟨k,hm,rfl⟩:=q
  obtain⟨c,hc⟩:=hfr _ hm rfl
  exact⟨c,zji hfr hm hc⟩
 cab:=fun x c h=>absurd h (by simp[blk])
 hd:=I.ok.hd
 frames:=I.ok.frames
 stk:=.inl rfl
 exf:=fun b hb=>⟨Nat.ne_of_lt (Nat.lt_of_lt_of_le (hl b hb) hC),fun x c e=>(hf b hb).2.2.2.2.1 x c (zb5 hfr e)⟩
 bs:=I.bs
 bsz:=Nat.le_trans I.ok.bsz I.sz
 noex:=fun b o e hb=>by
  rcases(hf b hb).2.2.2.1 with z|z
  ·exact I.ok.noex b o e z
  ·exact absurd (Nat.lt_of_lt_of_le (Heap.lt_size e) (Nat.le_trans I.ok.bsz z)) (Nat.lt_irrefl _)
 exfs:=fun b hb z=>by
  rcases List.mem_cons.mp (I.stkSub b z) with q|q
  ·exact(hf b hb).2.1 q
  ·exact(hf b hb).2.2.1 q
 funs:=I.stack
 frf:=I.stkFree
end
section
variable {X : Cx} {tg iter elt : Expr} {cs : List Expr} {sc sc0 : Scope} {pos : Pos} {wi : TI} {g : TG} {tc : TT} {te : TE} {XN N' : List Str} {n : Nat} {kp : List Nat}
theorem zss{pins:List (Addr×Obj)}{σ:St}{H:Hp}{s:Shared}{fp:List Addr}{C:Addr}{h1:Heap}{tk:Nat}{m:Str→Option Value}(I:Inv X pins σ H s)(h0:X.env.scope=sc0)(hN:X.N=XN)(ok:zs2 sc0 sc XN N' n kp=true)
  (hf:∀b∈fp,zi9 X pins H b) (hl:∀b∈fp,b<s.heap.objs.size) (hC:s.heap.objs.size≤C) (old:∀b o,s.heap.get? b=some o→h1.get? b=some o) (ns:h1.Ns C m):
  Inv (blk X N' sc C fp pins s H) [] (List.replicate n none++kp.map fun j=>(σ[j]?).join) H { s with heap:=h1,toks:=tk }:=by
 obtain⟨o1,o2,o3,o4,o5,o6⟩:=zki ok
 subst h0
 subst hN
 have ad:∀y∈sc.names,y.2=.free→∃c,X.env.cells.lookup y.1=some c:=fun y hy e=>I.ok.has y.1 (.inl (o4 y hy e))
 have aa:∀b,b<s.heap.objs.size→b≠C:=fun b hb=>Nat.ne_of_lt (Nat.lt_of_lt_of_le hb hC)
 refine⟨zw6 I o1 o2 ad hf hl hC,rfl,I.bare,Un.kept old,⟨m,ns,fun i x v e1 e2 e3=>?_⟩,fun x c e=>?_,I.hok.fresh hC,fun x c e=>?_,fun p hp=>?_,I.hok.kept old,?_⟩
 ·have hi:n≤i:=by
   by_cases z:n≤i
   ·exact z
   ·rw[List.getElem?_append_left (by rw[List.length_replicate];omega),List.getElem?_replicate] at e2
    split at e2<;>cases e2
  obtain⟨j,rfl⟩:∃j,i=n+j:=⟨i-n,by omega⟩
  obtain⟨q,hq,hx,hm,ah⟩:=o6 j x e1
  rw[List.getElem?_append_right (by rw[List.length_replicate];omega),List.length_replicate,Nat.add_sub_cancel_left,List.getElem?_map,hq] at e2
  have e4:(σ[q]?).join=some v:=Option.some.inj e2
  have ag:σ[q]?=some (some v):=by
   cases z:σ[q]? with
   |none=>rw[z] at e4;cases e4
   |some w=>rw[z] at e4;cases e4;rfl
  obtain⟨c,hc⟩:=ad _ hm rfl
  have kx:X.env.kindOf x=some .cell:=o4 _ hm rfl
  obtain⟨m',aj,ai⟩:=I.loc
  obtain⟨u,r,lk⟩:=ai q x v hx ag (.inr (.inl kx))
  refine⟨u,r,.inr ⟨ah,c,zji ad hm hc,?_⟩⟩
  rcases lk with⟨k,_⟩|⟨_,c',ae,hv⟩
  ·rw[kx] at k
   cases k
  ·rw[hc] at ae
   cases ae
   exact hv.keeps old
 ·obtain⟨v,hv⟩:=I.cell x c (zb5 ad e)
  exact⟨v,hv.keeps old⟩
 ·exact I.freeC x c (zb5 ad e)
 ·have af:p∈X.pn++pins:=by
   have:p∈(X.pn++pins)++([]:List (Addr×Obj)):=hp
   rw[List.append_nil] at this
   exact this
  obtain⟨q1,q2,q3,q4,q5⟩:=I.pin p af
  refine⟨old _ _ q1,q2,aa _ (Heap.lt_size q1),fun z=>?_,q5⟩
  rcases List.mem_cons.mp (I.stkSub _ z) with r|r
  ·exact q3 r
  ·exact q4 r
 ·show(List.replicate n none++kp.map fun j=>(σ[j]?).join).length=N'.length
  rw[List.length_append,List.length_replicate,List.length_map,o5]
theorem ztl{pins:List (Addr×Obj)}{s:Shared}{σ:St}{H:Hp}{Q:VK}{use:Option (Value→Sem Unit)}{Qf:Value→Shared→Prop}(hc:X.calm=true)(hi:PI X tg iter wi)(h0:X.env.scope=sc0)(hN:X.N=XN)(ok:zs2 sc0 sc XN N' n kp=true)
  (hg:∀C fp pins s H,PG (blk X N' sc C fp pins s H) tg g) (ht:∀C fp pins s H,PTs (blk X N' sc C fp pins s H) cs tc) (he:∀C fp pins s H,PE (blk X N' sc C fp pins s H) elt te) (hs:∀x,foldedSetIterable iter X.env x=pure x)
  (I:Inv X pins σ H s) (h:tLc n kp wi g tc te σ H Q)
  (fin:∀D C ys H' s',Inv X pins σ (upd H' D (.lst ys)) s'→(∃m,s'.heap.Ns C m)→zi9 X pins (upd H' D (.lst ys)) C→Q (.ref D) (upd H' D (.lst ys))→compPost (model X.prog X.w) X.A X.xe use Qf (.ref D) C (.ok .next) s') {pos':Pos}:
  wpAny (model X.prog X.w) X.A (comprehension (.ListComp elt [⟨tg,iter,cs,0⟩] sc pos) sc X.env pos' (newList []) false (firstIter [⟨tg,iter,cs,0⟩] X.env) use) Qf X.xe s:=by
 obtain⟨o1,o2,o3,o4,o5,o6⟩:=zki ok
 have aA:∀y∈sc.names,y.2=.free→∃c,X.env.cells.lookup y.1=some c:=fun y hy e=>I.ok.has y.1 (.inl (by rw[Env.kindOf,h0];exact o4 y hy e))
 refine wpAny_comprehension_free (use:=use) rfl hs (zq6 aA) o1 o3 (thn (hi pins s σ H _ I h) fun v s1 h1=>thn h1 fun aO s2 h2=>?_)
 obtain⟨it,fp,tn,J,H2,rfl,I2,T,av,f2,W,⟨m0,w0⟩,ak⟩:=h2
 have hl:∀b∈fp,b<s2.heap.objs.size:=fun b hb=>by
  obtain⟨o,e,_⟩:=T.obj 0 _ av b hb
  exact Heap.lt_size e
 refine wpAny_newObj_type (wpAny_newFunctionEnv o2 (by intro y hy;simp at hy) (fun h1 ar aj=>?_) o1)
 dsimp only at ar aj ⊢
 generalize hG:s2.heap.push { cls:=.type "list",dict:=none,data:=.seq ([]:List Value).toArray }=G at ar aj ⊢
 have aM:G.objs.size=s2.heap.objs.size+1:=by rw[←hG,Heap.size_push]
 have ae:s2.heap.objs.size≤G.objs.size:=by omega
 have ah:s2.heap.objs.size≠G.objs.size:=by omega
 have al:∀b o,s2.heap.get? b=some o→h1.get? b=some o:=fun b o e=>by
  have lt:=Heap.lt_size e
  exact aj.extBut b o (Nat.ne_of_lt (Nat.lt_of_lt_of_le lt ae)) (Heap.get?_push_of_some _ (hG▸Heap.get?_push_of_some _ e))
 have aH:h1.get? s2.heap.objs.size=some { cls:=.type "list",data:=.seq ([]:List Value).toArray 0 }:=
  aj.extBut _ _ ah (Heap.get?_push_of_some _ (hG▸Heap.get?_push_size _ rfl))
 have ai:H2 s2.heap.objs.size=none:=I2.hok.fresh (Nat.le_refl _)
 have aN:H2 G.objs.size=none:=I2.hok.fresh ae
 have af:∀s3:Shared,s3={ s2 with heap:=h1,toks:=s2.toks+([]:List (Str×Value)).length } →
   codeAny (model X.prog X.w) X.A (.compLoop (.ListComp elt [⟨tg,iter,cs,0⟩] sc pos) 0 (.ref it) (.ref s2.heap.objs.size) (compEnvC sc (zge sc X.env) G.objs.size X.env))
    (compPost (model X.prog X.w) X.A X.xe use Qf (.ref s2.heap.objs.size) G.objs.size) s3:=by
  rintro s3 rfl
  have I3:=zss (fp:=fp) (C:=G.objs.size) (h1:=h1) (tk:=s2.toks+([]:List (Str×Value)).length) I2 h0 hN ok f2 hl ae al ar
  have ad:∀{H':Hp} {o:Obj},(∀b∈fp,H' b=none)→∀b∈fp,zi9 (blk X N' sc G.objs.size fp pins s2 H2) [(s2.heap.objs.size,o)] H' b:=fun hn b hb=>by
   have lt:=hl b hb
   refine⟨hn b hb,Nat.ne_of_lt (Nat.lt_of_lt_of_le lt ae),I3.ok.exfs b hb,.inl hb,(I3.ok.exf b hb).2,fun p hp=>?_⟩
   rcases List.mem_append.mp hp with z|z
   ·exact(f2 b hb).2.2.2.2.2 p z
   ·have e:p.1=s2.heap.objs.size:=by rw[List.mem_singleton.mp z]
    rw[e]
    exact Nat.ne_of_gt lt
  have ao:∀{σ':St} {H':Hp} {s':Shared} {o:Obj},Inv (blk X N' sc G.objs.size fp pins s2 H2) [] σ' H' s'→s'.heap.get? s2.heap.objs.size=some o→(∀v,o.data≠.cell v)→H' s2.heap.objs.size=none →
    Inv (blk X N' sc G.objs.size fp pins s2 H2) [(s2.heap.objs.size,o)] σ' H' s':=fun {σ' H' s' o} J' e hd hn=>J'.pins_of fun p hp=>by
   rw[List.mem_singleton.mp hp]
   exact⟨e,hn,ah,fun z=>by
    rcases List.mem_cons.mp (I2.stkSub _ z) with r|r
    ·exact absurd I2.lt (by rw[←r];exact Nat.lt_irrefl _)
    ·exact I2.nofs (Nat.le_refl _) r,hd⟩
  refine zvk (fun k s'=>∃(i:Nat)(ys:List V)(aa:List Value)(c:Nat)(σ':St)(H':Hp),Inv (blk X N' sc G.objs.size fp pins s2 H2) [] σ' H' s'∧tn i s'.heap∧(∀b∈fp,H' b=none) ∧
   s'.heap.get? s2.heap.objs.size=some { cls:=.type "list",data:=.seq aa.toArray c }∧Vals ys aa∧H' s2.heap.objs.size=none∧W i k ys σ' H') ?_ m0 _
   ⟨0,[],[],0,_,H2,I3,T.keep _ _ _ av fun b _ o e=>al b o e,fun b hb=>(f2 b hb).1,aH,.nil,ai,w0⟩
  rintro k s' ⟨i,ys,aa,c,σ',H',I',aB,ax,aK,hv,nD,w'⟩
  obtain⟨hz,cases⟩:=ak i k ys σ' H' w'
  have ay:=ao I' aK (fun v=>by intro z;cases z) nD
  rcases cases with⟨ap,q⟩|⟨go,N,aD,step⟩
  ·refine thn (T.done (blk X N' sc G.objs.size fp pins s2 H2) rfl rfl rfl hc i _ s' σ' H' NoX ay (ad ax) aB ap) fun r s4 ⟨hr,I4⟩=>?_
   subst hr
   obtain⟨e4,n4,_⟩:=I4.pin (s2.heap.objs.size,{ cls:=.type "list",data:=.seq aa.toArray c }) (List.mem_append_right _ (List.mem_singleton.mpr rfl))
   have u4:Un (frs X.stack) fp H2 H' s2.heap s4.heap:=I4.base
   have aE:H' G.objs.size=none:=I4.free
   obtain⟨m4,aJ,_⟩:=I4.loc
   have aL:∀b o,s2.heap.get? b=some o→b≠s2.heap.objs.size:=fun b o e=>Nat.ne_of_lt (Heap.lt_size e)
   have u5:Un (frs X.stack) fp H2 (upd H' s2.heap.objs.size (.lst ys)) s2.heap s4.heap:=
    ⟨u4.keep,u4.slot,fun b o e nb hx=>by rw[zal (aL b o e)];exact u4.free b o e nb hx,u4.there,fun b xs e=>by rw[zal (zat e ai)];exact u4.tups b xs e,
     fun b o u e=>by rw[zal (zat e ai)];exact u4.frzs b o u e,fun b ps e=>by rw[zal (zat e ai)];exact u4.tbls b ps e⟩
   have am:HOk X.prog X.w (upd H' s2.heap.objs.size (.lst ys)) s4.heap:=fun a o e=>by
    by_cases ea:a=s2.heap.objs.size
    ·subst ea
     rw[zab] at e
     cases e
     exact⟨hz,aa,c,hv,e4⟩
    ·rw[zal ea] at e
     exact(I4.hok a o e).stay (fun _ _ _ q=>q) (fun b q=>by rw[zal (zat q nD)];exact q) fun b xs q=>by rw[zal (zat q nD)];exact q
   have I5:Inv X pins σ (upd H' s2.heap.objs.size (.lst ys)) s4:=I2.call' I4.os u5 am I4.bare fun b hb=>⟨(f2 b hb).2.2.2.1,(f2 b hb).2.1,(f2 b hb).2.2.2.2.1,(f2 b hb).2.2.2.2.2⟩
   refine fin _ _ ys H' s4 I5 ⟨m4,aJ⟩ (I2.fpOk ae ?_) (q _ nD)
   rw[zal (Ne.symm ah)]
   exact aE
  ·refine thn (T.item (blk X N' sc G.objs.size fp pins s2 H2) rfl rfl rfl hc i _ s' σ' H' NoX ay (ad ax) aB go) fun r s4 ⟨u,hr,h4⟩=>?_
   subst hr
   refine thn h4 fun _ s5 ⟨x,H5,I5,r5,y5,aw,aF⟩=>?_
   have aG:=I5.pinned (ad aF) (T.obj _ _ aw)
   refine thn (hg _ _ _ _ _ _ s5 σ' H5 x u _ aG r5 (step x H5 y5)) fun _ s6 ⟨σ6,H6,I6,q6⟩=>?_
   refine thn (ht _ _ _ _ _ _ s6 σ6 H6 _ I6 q6) fun b s7 ⟨H7,I7,q7⟩=>?_
   have ag:∀{s8:Shared} {H8:Hp} (m':Nat),Inv (blk X N' sc G.objs.size fp pins s2 H2) ([(s2.heap.objs.size,{ cls:=.type "list",data:=.seq aa.toArray c })]++zih fp s5.heap) σ6 H8 s8 →
     tn (i+1) s8.heap∧(∀b∈fp,H8 b=none)∧s8.heap.get? s2.heap.objs.size=some { cls:=.type "list",data:=.seq aa.toArray c }∧H8 s2.heap.objs.size=none:=fun {s8 H8} m' I8=>by
    have pn:∀p∈[(s2.heap.objs.size,({ cls:=.type "list",data:=.seq aa.toArray c }:Obj))]++zih fp s5.heap,s8.heap.get? p.1=some p.2∧H8 p.1=none:=fun p hp=>
     let ⟨a,b,_⟩:=I8.pin p (List.mem_append_right _ hp);⟨a,b⟩
    refine⟨T.keep _ _ _ aw fun b hb o e=>(pn (b,o) (List.mem_append_right _ (zfb hb e))).1,fun b hb=>?_,pn _ (List.mem_append_left _ (List.mem_singleton.mpr rfl))⟩
    obtain⟨o,e,_⟩:=T.obj _ _ aw b hb
    exact(pn (b,o) (List.mem_append_right _ (zfb hb e))).2
   have bare:∀{s8:Shared} {H8:Hp} {pl:List (Addr×Obj)},Inv (blk X N' sc G.objs.size fp pins s2 H2) pl σ6 H8 s8→Inv (blk X N' sc G.objs.size fp pins s2 H2) [] σ6 H8 s8:=fun I8=>I8.pins_of fun p hp=>nomatch hp
   cases b with
   |false=>
    rw[if_neg Bool.false_ne_true] at q7 ⊢
    obtain⟨m',lt,w7⟩:=aD _ _ _ q7
    obtain⟨b1,b2,b3,b4⟩:=ag m' I7
    exact⟨m',lt,i+1,ys,aa,c,σ6,H7,bare I7,b1,b2,b3,hv,b4,w7⟩
   |true=>
    rw[if_pos rfl] at q7 ⊢
    refine thn (he _ _ _ _ _ _ s7 σ6 H7 _ I7 q7) fun y s8 ⟨yv,H8,I8,r8,q8⟩=>?_
    obtain⟨m',lt,w8⟩:=aD _ _ _ q8
    obtain⟨b1,b2,b3,b4⟩:=ag m' I8
    have aq:=hv.length
    refine append_at (hsz:=by rw[List.size_toArray,←aq];exact hz) b3 fun h9 aC e9=>?_
    have I9:Inv (blk X N' sc G.objs.size fp pins s2 H2) [] σ6 H8 { s8 with heap:=h9 }:=(bare I8).turned (t':=s8.toks) (it:=s2.heap.objs.size) (fun b o hb e=>aC.extBut b o hb e) b4 ah (.inr (Nat.le_refl _))
     (fun x c e z=>by
      obtain⟨v,hv⟩:=I2.cell x c (zb5 aA e)
      exact absurd hv.lt (by rw[z];exact Nat.lt_irrefl _))
     fun p hp z=>by
      have aI:p∈X.pn++pins:=by
       have:p∈(X.pn++pins)++([]:List (Addr×Obj)):=hp
       rw[List.append_nil] at this
       exact this
      exact absurd (Heap.lt_size (I2.pin p aI).1) (by rw[z];exact Nat.lt_irrefl _)
    refine⟨m',lt,i+1,ys++[yv],aa++[y],c+1,σ6,H8,I9,T.keep _ _ _ b1 fun b hb o e=>aC.extBut b o (Nat.ne_of_lt (hl b hb)) e,b2,?_,hv.append (.cons r8 .nil),b4,w8⟩
    rw[e9]
    simp
 exact codeAny_compStart_list (af _ rfl) (T.self _ 0 _ _ _ (T.keep _ _ _ av fun b _ o e=>al b o e) (af _ rfl))
theorem zdu(hc:X.calm=true)(hi:PI X tg iter wi)(h0:X.env.scope=sc0)(hN:X.N=XN)(ok:zs2 sc0 sc XN N' n kp=true)
  (hg:∀C fp pins s H,PG (blk X N' sc C fp pins s H) tg g) (ht:∀C fp pins s H,PTs (blk X N' sc C fp pins s H) cs tc) (he:∀C fp pins s H,PE (blk X N' sc C fp pins s H) elt te)
  (hs:∀x,foldedSetIterable iter X.env x=pure x:=by intro _;rfl):PE X (.ListComp elt [⟨tg,iter,cs,0⟩] sc pos) (tLc n kp wi g tc te):=by
 intro pins s σ H Q I h
 rw[eval_ListComp]
 refine ztl hc hi h0 hN ok hg ht he hs I h fun D C ys H' s' I' ns fp q=>?_
 obtain⟨m,hm⟩:=ns
 refine⟨m,hm,fun h' sb=>⟨.ref D,_,?_,rfl,q⟩⟩
 obtain⟨f1,f2,f3,f4,f5,f6⟩:=fp
 exact I'.turned (t':=s'.toks) (it:=C) (fun b o hb e=>sb.extBut b o hb e) f1 f2 f4 f5 f6
end
section
variable {X : Cx} {tg iter elt : Expr} {cs : List Expr} {sc sc0 : Scope} {pos : Pos} {wi : TI} {g : TG} {tc : TT} {te : TE} {XN N' : List Str} {n : Nat} {kp : List Nat}
theorem zed{i:Nat}{y:Str}{py spos:Pos}(hNd:X.N.Nodup)(hiy:X.N[i]?=some y)(hy:X.env.scope.names.lookup y=some .local)(hsw:swapsWith (.ListComp elt [⟨tg,iter,cs,0⟩] sc pos) (some (.Name y py)) spos.line X.env=pure true)
  (hc:X.calm=true) (hi:PI X tg iter wi) (h0:X.env.scope=sc0) (hN:X.N=XN) (ok:zs2 sc0 sc XN N' n kp=true)
  (hg:∀C fp pins s H,PG (blk X N' sc C fp pins s H) tg g) (ht:∀C fp pins s H,PTs (blk X N' sc C fp pins s H) cs tc) (he:∀C fp pins s H,PE (blk X N' sc C fp pins s H) elt te)
  (hs:∀x,foldedSetIterable iter X.env x=pure x:=by intro _;rfl):PS X (.Assign [.Name y py] (.ListComp elt [⟨tg,iter,cs,0⟩] sc pos) spos) (zxe (tLc n kp wi g tc te) (zmd i)):=by
 intro pins s σ H D I h
 rw[exec_Assign_Name_used _ _ _ _ hsw]
 refine wpAny_bind (wpAny_standAt (wpAny_bind ?_))
 have fin:wpAny (model X.prog X.w) X.A (comprehension (.ListComp elt [⟨tg,iter,cs,0⟩] sc pos) sc X.env (firstIterPos [⟨tg,iter,cs,0⟩] pos) (newList []) false (firstIter [⟨tg,iter,cs,0⟩] X.env) (some (assign (.Name y py) X.env)))
   (fun _ s'=>SP X pins D .next s') X.xe s:=by
  refine ztl (Q:=fun x H1=>zmd i x σ H1 D.nx) hc hi h0 hN ok hg ht he hs I h fun D' C ys H' s' I' ns fp q=>?_
  obtain⟨m,hm⟩:=ns
  obtain⟨f1,f2,f3,f4,f5,f6⟩:=fp
  obtain⟨o,es,ep,ho,rest⟩:=id hm
  have nc:∀v,o.data≠.cell v:=fun v z=>by
   rw[rest.1] at z
   cases z
  have aa:Inv X (pins++[(C,o)]) σ (upd H' D' (.lst ys)) s':=I'.pins_of fun p hp=>by
   rcases List.mem_append.mp hp with z|z
   ·exact I'.pin p (List.mem_append_right _ z)
   ·rw[List.mem_singleton.mp z]
    exact⟨ho,f1,f2,f3,nc⟩
  show wpAny (model X.prog X.w) X.A (assign (.Name y py) X.env (.ref D')) _ X.xe s'
  refine thn (zan hNd hiy (.inl hy) (.inr hy) _ s' σ _ (.ref D') (.ref D') D.nx aa rfl q) fun _ s'' ⟨σ3,H3,I3,q3⟩=>?_
  obtain⟨p1,p2,_⟩:=I3.pin (C,o) (List.mem_append_right _ (List.mem_append_right _ (List.mem_singleton.mpr rfl)))
  refine⟨m,⟨o,es,ep,p1,rest⟩,fun h' sb=>⟨σ3,H3,?_,q3⟩⟩
  exact I3.unpinned.turned (t':=s''.toks) (it:=C) (fun b o hb e=>sb.extBut b o hb e) p2 f2 f4 f5 f6
 show wpAny (model X.prog X.w) X.A (comprehension _ _ _ _ _ _ _ _>>=_) _ _ s
 exact wpAny_bind (thn fin fun _ s' q=>wpAny_pure (wpAny_pure q))
end
section
variable {X : Cx}
theorem zp1(hu:X.A.units+64<cLine):OpR X (compareOp .NotEq) (fun x y H Q=>∃(a b:Addr)(ns ms:List Int),x=.ref a∧y=.ref b∧SqL X.K H a (ns.map V.int)∧SqL X.K H b (ms.map V.int)∧Q (.bl (!decide (ns=ms))) H):=by
 intro pins s σ H x y v u Q I rx ry h
 obtain⟨a,b,ns,ms,rfl,rfl,ha,hb,q⟩:=h
 cases rx
 cases ry
 obtain⟨xs,rv,p,_⟩:=I.list ha
 obtain⟨ys,aa,p',_⟩:=I.list hb
 exact PySem.W.ke_ne_ints p.isList p'.isList (zct rv) (zct aa) hu ⟨.bl _,H,I,rfl,q⟩
end
section
variable {prog : Program} {w : World} {A : Around} {E : Value → Shared → Prop} {s : Shared}
theorem zqh{j q:Addr}{i:Nat}{its:Array Value}{x:Value}{Q:Value→Shared→Prop}(hj:s.heap.IsTupleIter j q i)(hq:s.heap.IsTuple q its)(hx:its[i]?=some x)
  (k:∀g,g.IsTupleIter j q (i+1)→Heap.SameBut j s.heap g→Q x { s with heap:=g }):wpAny (model prog w) A (Builtin.SmallTypes.nextOf (.ref j)) Q E s:=by
 obtain⟨o,ho,oc,od⟩:=id hj
 obtain⟨p,hp,_,m,pd⟩:=hq
 unfold Builtin.SmallTypes.nextOf
 refine wpAny_bind (wpAny_callSpecial?_slot (name:=Str.ofString "__next__") hj.typeIs F.slot_tuple_iterator_next (wpAny_call_entry F.slot_tuple_iterator_next hj.typeIs F.entry_tuple_iterator_next ?_ (F.args_tuple_iterator_next_1 _)))
 show wpAny _ _ (field (.ref j) 0>>=_) _ _ s
 refine wpAny_bind (wpAny_field ho od (x:=.ref q) rfl ?_)
 show wpAny _ _ (if (Value.ref q==Value.none)=true then _ else _) _ _ s
 rw[if_neg (show ¬((Value.ref q==Value.none)=true) from Bool.false_ne_true)]
 show wpAny _ _ (field (.ref j) 1>>=_) _ _ s
 refine wpAny_bind (wpAny_field ho od (x:=.int i 0) rfl ?_)
 show wpAny _ _ (seqItems? (.ref q)>>=_) _ _ s
 refine wpAny_bind (wpAny_seqItems hp pd ?_)
 simp only[hx,Int.toNat_natCast]
 refine wpAny_bind (wpAny_setField ho od (by simp) (wpAny_pure ⟨x,rfl,wpAny_pure (k _ ⟨_,Heap.get?_update_self _ ho (Obj.isFreed_of_fields (Obj.data_mapFields od _)),(Obj.cls_mapFields ..).trans oc,?_⟩ (Heap.SameBut.update ..))⟩))
 rw[Obj.data_mapFields od]
 simp[rawInt]
theorem zsl{j q:Addr}{i:Nat}{its:Array Value}{Q:Value→Shared→Prop}(hh:A.handled=none)(hj:s.heap.IsTupleIter j q i)(hq:s.heap.IsTuple q its)(hx:its[i]?=none)
  (k:∀g e,Heap.ExtBut j s.heap g→(∃o,g.get? e=some o∧o.cls=.type "StopIteration")→E (.ref e) { s with heap:=g }):wpAny (model prog w) A (Builtin.SmallTypes.nextOf (.ref j)) Q E s:=by
 obtain⟨o,ho,oc,od⟩:=id hj
 obtain⟨p,hp,_,m,pd⟩:=hq
 unfold Builtin.SmallTypes.nextOf
 refine wpAny_bind (wpAny_callSpecial?_slot (name:=Str.ofString "__next__") hj.typeIs F.slot_tuple_iterator_next (wpAny_call_entry F.slot_tuple_iterator_next hj.typeIs F.entry_tuple_iterator_next ?_ (F.args_tuple_iterator_next_1 _)))
 show wpAny _ _ (field (.ref j) 0>>=_) _ _ s
 refine wpAny_bind (wpAny_field ho od (x:=.ref q) rfl ?_)
 show wpAny _ _ (if (Value.ref q==Value.none)=true then _ else _) _ _ s
 rw[if_neg (show ¬((Value.ref q==Value.none)=true) from Bool.false_ne_true)]
 show wpAny _ _ (field (.ref j) 1>>=_) _ _ s
 refine wpAny_bind (wpAny_field ho od (x:=.int i 0) rfl ?_)
 show wpAny _ _ (seqItems? (.ref q)>>=_) _ _ s
 refine wpAny_bind (wpAny_seqItems hp pd ?_)
 simp only[hx,Int.toNat_natCast]
 refine wpAny_bind (wpAny_rule (wpAny_bind (wpAny_setField ho od (by simp) ?_)))
 show wpAny _ _ (newExc (.type "StopIteration") []>>=_) _ _ _;refine wpAny_bind ?_;simp only[newExc,newTuple]
 refine wpAny_bind (wpAny_newObj_type ?_ (by size_fits));refine wpAny_bind (m:=firstArgMember _ _) (wpAny_of_eq (a:=Value.none) (by first|rfl|(simp only[firstArgMember];rfl)) ?_)
 refine wpAny_newObj_type ?_ (by size_fits);simp only[raiseNew];refine wpAny_bind (wpAny_handled ?_);first|rw[show A.in1.handled=none from hh]|rw[hh]
 refine wpAny_bind (wpAny_pure (wpAny_throw ?_));exact k _ _ (((Heap.SameBut.update ..).extBut.push _).push _) ⟨_,Heap.get?_push_size _ rfl,rfl⟩
theorem zsq(hh:A.handled=none)(j q:Addr)(hne:q≠j)(its:Array Value):Draws prog w A j [j,q] its.size (fun i v=>its[i]?=some v) (fun i h=>h.IsTupleIter j q i∧h.IsTuple q its) where
 live:=fun _ _ st=>let ⟨o,ho,_⟩:=st.1;⟨o,ho⟩
 frame:=fun _ _ _ st hk=>⟨st.1.at fun o e=>hk j (by simp) o e,let ⟨o,e,r⟩:=st.2;⟨o,hk q (by simp) o e,r⟩⟩
 item:=fun i s Q E hi st hQ=>zqh st.1 st.2 (x:=its[i]) (by simp[hi]) fun g hj sb=>hQ _ g s.toks (by simp[hi]) ⟨hj,st.2.extBut sb.extBut hne⟩ sb
 done:=fun s Q E st hE=>zsl hh st.1 st.2 (by simp) hE
open AutoSeq1 (wpAny_loadPart') in
theorem zoz(q:Addr)(its:Array Value)(n:Nat)(dct:Option Addr)(sl:Array (Option Value)):
  Meets (Builtin.«enumerate.__new__» ⟨[.type "enumerate",.ref q],[]⟩) (fun _ R s=>s.heap.get? q=some { cls:=.type "tuple",dict:=dct,data:=.seq its n,slots:=sl } ∧
   R (.ok (.ret (.ref (s.heap.push { cls:=.type "tuple_iterator",data:=.fields #[.ref q,.int 0 0] }).objs.size))) { s with heap:=(s.heap.push { cls:=.type "tuple_iterator",data:=.fields #[.ref q,.int 0 0] }).push { cls:=.type "enumerate",data:=.fields #[.none,.bool false,.ref s.heap.objs.size,rawInt 0,.none,.none] } }):=
 .of_wp fun prog w A R s h=>by
  obtain⟨hp,g,d,tk,os⟩:=s
  obtain⟨hq,h⟩:=h
  have hsub:=sub_enumerate
  have hT:Heap.IsTuple (Shared.heap ⟨hp,g,d,tk,os⟩) q its:=⟨_,hq,rfl,n,rfl⟩
  wp_walk using wpAny_loadPart' hq
  refine wpAny_stack_any fun st=>wpAny_pure ?_
  split
  ·rename_i c _ _ _ _ _
   cases(c==Value.type "enumerate")
   ·wp_walk using wpAny_loadPart' hq,wpAny_pyIter_tuple hT
    exact⟨_,rfl,h⟩
   ·wp_walk using wpAny_loadPart' hq,wpAny_pyIter_tuple hT
    exact⟨_,rfl,h⟩
  ·wp_walk using wpAny_loadPart' hq,wpAny_pyIter_tuple hT
   exact⟨_,rfl,h⟩
theorem zqo{q:Addr}{its:Array Value}{Q:Value→Shared→Prop}(hT:s.heap.IsTuple q its)
  (k:∀g,IsEnum g (s.heap.objs.size+1) s.heap.objs.size 0 .none→g.IsTupleIter s.heap.objs.size q 0→(∀b o,s.heap.get? b=some o→g.get? b=some o)→Q (.ref (s.heap.objs.size+1)) { s with heap:=g }):
  wpAny (model prog w) A (call (.type "enumerate") [.ref q]) Q E s:=by
 obtain⟨⟨c,aa,dt,sl⟩,hq,hc,n,hd⟩:=hT
 cases(show c=.type "tuple" from hc)
 cases(show dt=.seq its n from hd)
 refine callType_new F.called_enumerate (by decide) (F.typeCall_enumerate_1 _) (F.newCall_enumerate_1 _) (fun ad=>F.args_object_init_2 ad _) F.entry_enumerate_new (zoz q its n aa sl) ⟨hq,?_⟩
 have z:(s.heap.push { cls:=.type "tuple_iterator",data:=.fields #[.ref q,.int 0 0] }).objs.size=s.heap.objs.size+1:=Heap.size_push ..
 have he:IsEnum ((s.heap.push { cls:=.type "tuple_iterator",data:=.fields #[.ref q,.int 0 0] }).push { cls:=.type "enumerate",data:=.fields #[.none,.bool false,.ref s.heap.objs.size,rawInt 0,.none,.none] }) (s.heap.objs.size+1) s.heap.objs.size 0 .none:=by
  have y:=Heap.get?_push_size (s.heap.push { cls:=.type "tuple_iterator",data:=.fields #[.ref q,.int 0 0] }) (o:={ cls:=.type "enumerate",data:=.fields #[.none,.bool false,.ref s.heap.objs.size,rawInt 0,.none,.none] }) rfl
  rw[z] at y
  exact y
 show _∧_
 rw[z]
 exact⟨⟨_,he,rfl⟩,k _ he ⟨_,Heap.get?_push_of_some _ (Heap.get?_push_size _ rfl),rfl,rfl⟩ fun b o y=>Heap.get?_push_of_some _ (Heap.get?_push_of_some _ y)⟩
end
def Sq(K:PySem.W.Frag)(b:Bool)(H:Hp)(a:Addr)(xs:List V):Prop:=if b=true then SqT K H a xs else SqL K H a xs
def Ite(K:PySem.W.Frag)(b:Bool)(a:Addr):It:=
 ⟨fun i H=>∃xs x,Sq K b H a xs∧xs[i]?=some x,fun i H x H'=>∃T v,x=.ref T∧H T=none∧H'=upd H T (.tup [.int i,v])∧∀xs,Sq K b H a xs→xs[i]?=some v,fun i H=>∃xs,Sq K b H a xs∧xs.length=i⟩
def zue(b:Bool)(h:Heap)(it a:Addr)(i:Nat):Prop:=if b=true then h.IsTupleIter it a i else h.IsListIter it a i
section
variable {X : Cx} {pins : List (Addr × Obj)} {σ : St} {H : Hp} {s : Shared}
theorem Inv.turned2{h':Heap}{t':Nat}{e it T:Addr}{v:V}{u:Value}{i:Int}{tk:Tok}(I:Inv X pins σ H s)(fe:zi9 X pins H e)(fi:zi9 X pins H it)(hT:s.heap.objs.size≤T)(rv:RelV v u)
  (k:∀b o,b≠e→b≠it→s.heap.get? b=some o→h'.get? b=some o) (ke:∃o,h'.get? e=some o) (ki:∃o,h'.get? it=some o) (eT:h'.get? T=some { cls:=.type "tuple",data:=.seq #[.int i tk,u] }):
  Inv X pins σ (upd H T (.tup [.int i,v])) { s with heap:=h',toks:=t' }:=by
 have nT:H T=none:=I.hok.fresh hT
 have ne:∀b o,H b=some o→b≠e∧b≠it:=fun b o q=>⟨zat q fe.1,zat q fi.1⟩
 have un:Un (frs X.stack) [e,it] H (upd H T (.tup [.int i,v])) s.heap h':=by
  have aa:∀b,b∉[e,it]→b≠e∧b≠it:=fun b hb=>⟨fun z=>hb (by simp[z]),fun z=>hb (by simp[z])⟩
  have lt:∀b o,s.heap.get? b=some o→b≠T:=fun b o q=>Nat.ne_of_lt (Nat.lt_of_lt_of_le (Heap.lt_size q) hT)
  exact⟨fun b o q _ _ hx=>k b o (aa b hx).1 (aa b hx).2 q,fun b o q _ _ hx=>⟨o.slots,k b o (aa b hx).1 (aa b hx).2 q⟩,fun b o q n _=>by rw[zal (lt b o q)];exact n,fun b o q hx=>⟨o,k b o (aa b hx).1 (aa b hx).2 q⟩,
   fun b xs q=>by rw[zal (zat q nT)];exact q,fun b o xs q=>by rw[zal (zat q nT)];exact q,fun b ps q=>⟨#[],by rw[zal (zat q nT),q];simp⟩⟩
 refine I.call (g':=s.gens) (d':=s.drawn) (ch:=[e,it]) un (fun a o q=>?_) I.bare fun b hb=>?_
 ·by_cases ea:a=T
  ·subst ea
   rw[zab] at q
   cases q
   exact⟨Nat.le_of_lt (zbi (by show 2≤1000;decide)),[.int i tk,u],.cons ⟨tk,rfl⟩ (.cons rv .nil),⟨_,eT,rfl,_,rfl⟩⟩
  ·rw[zal ea] at q
   refine(I.hok a o q).stay (fun b z hb r=>k b z ?_ ?_ r) (fun b r=>by rw[zal (zat r nT)];exact r) fun b xs r=>by rw[zal (zat r nT)];exact r
   ·rcases hb with rfl|hb
    ·exact(ne _ _ q).1
    ·exact(ne _ _ hb).1
   ·rcases hb with rfl|hb
    ·exact(ne _ _ q).2
    ·exact(ne _ _ hb).2
 ·rcases List.mem_cons.mp hb with z|z
  ·subst z
   exact⟨fe.2.2.2.1,fe.2.1,fe.2.2.2.2.1,fe.2.2.2.2.2⟩
  ·have z':=List.mem_singleton.mp z
   subst z'
   exact⟨fi.2.2.2.1,fi.2.1,fi.2.2.2.2.1,fi.2.2.2.2.2⟩
end
theorem Sq.inj{X:Cx}{pins:List (Addr×Obj)}{σ:St}{H:Hp}{s:Shared}{b:Bool}{a:Addr}{xs ys:List V}(I:Inv X pins σ H s)(h:Sq X.K b H a xs)(h':Sq X.K b H a ys):xs=ys:=by
 cases b with
 |true=>exact I.tuple_inj h h'
 |false=>exact I.list_inj h h'
theorem zjp{b:Bool}{h:Heap}{it a:Addr}{i:Nat}(st:zue b h it a i):∃o,h.get? it=some o∧∀v,o.data≠.cell v:=by
 cases b with
 |true=>
  obtain⟨o,e,_,d⟩:=(show h.IsTupleIter it a i from st)
  exact⟨o,e,fun v z=>by rw[d] at z;cases z⟩
 |false=>
  obtain⟨o,e,_,d⟩:=(show h.IsListIter it a i from st)
  exact⟨o,e,fun v z=>by rw[d] at z;cases z⟩
theorem zjv{X:Cx}{pins:List (Addr×Obj)}{σ:St}{H:Hp}{s:Shared}{b:Bool}{a it:Addr}{xs:List V}(I:Inv X pins σ H s)(hd:X.A.handled=none)(hq:Sq X.K b H a xs)(hne:a≠it):
  ∃(its:List Value)(St:Nat→Heap→Prop),Vals xs its∧Draws X.prog X.w X.A.in1 it [it,a] its.toArray.size (fun i v=>its.toArray[i]?=some v) St∧(∀i,zue b s.heap it a i→St i s.heap)∧∀i h,St i h→zue b h it a i:=by
 cases b with
 |true=>
  obtain⟨its,rv,p,_⟩:=I.tuple hq
  exact⟨its,fun i h=>h.IsTupleIter it a i∧h.IsTuple a its.toArray,rv,zsq (A:=X.A.in1) hd it a hne its.toArray,fun i st=>⟨st,p⟩,fun i h st=>st.1⟩
 |false=>
  obtain⟨its,rv,p,_⟩:=I.list hq
  exact⟨its,fun i h=>h.IsListIter it a i∧h.IsList a its.toArray,rv,Draws.list (A:=X.A.in1) hd it a hne its.toArray,fun i st=>⟨st,p.isList⟩,fun i h st=>st.1⟩
theorem zs4{P:Program}{w:World}{K:PySem.W.Frag}{elts:List Expr}{k:Nat}{pos:Pos}(b:Bool)(a e it:Addr)(hei:e≠it)(hae:a≠e)(hai:a≠it):
  zus P w K (.Tuple elts k pos) (Ite K b a) [e,it] e (fun i h=>(∃old,IsEnum h e it (i:Int) old)∧zue b h it a i) where
 mem:=by simp
 obj:=fun i h st c hc=>by
  rcases List.mem_cons.mp hc with z|z
  ·subst z
   obtain⟨old,q⟩:=st.1
   exact⟨_,q,fun v z=>by
    have z':Data.fields _=Data.cell v:=z
    cases z'⟩
  ·rw[List.mem_singleton.mp z]
   exact zjp st.2
 keep:=fun i h h' st kk=>by
  obtain⟨⟨old,q⟩,st⟩:=st
  refine⟨⟨old,kk e (by simp) _ q⟩,?_⟩
  cases b with
  |true=>exact(show h.IsTupleIter it a i from st).at fun o q=>kk it (by simp) o q
  |false=>exact(show h.IsListIter it a i from st).at fun o q=>kk it (by simp) o q
 item:=by
  intro X hP hw hK hc i pins s σ H E I hf st hg
  subst hP hw hK
  obtain⟨⟨old,he⟩,st⟩:=st
  obtain⟨xs,x,hq,hx⟩:=hg
  obtain⟨aa,St,rv,D,up,dn⟩:=zjv I (I.ok.hd hc) hq hai
  obtain⟨u,hu,ru⟩:=rv.get hx
  have aj:i<aa.toArray.size:=by simpa using (List.getElem?_eq_some_iff.mp hu).1
  have fe:=hf e (by simp)
  have fi:=hf it (by simp)
  have ag:e<s.heap.objs.size:=Heap.lt_size he
  refine wpAny_pyNext_enum_itemD D he (up i st) aj hei (by simp[hei,Ne.symm hae]) fun y g tk hy ho ae hT hsz kk=>?_
  have ey:y=u:=by
   have z:aa.toArray[i]?=some y:=hy
   rw[List.getElem?_toArray,hu] at z
   exact(Option.some.inj z).symm
  subst ey
  refine⟨_,rfl,wpAny_letOwnedTupleGo_enum ho fun g2 af sb=>?_⟩
  have ai:∃o,g2.get? it=some o:=by
   obtain⟨o,q,_⟩:=zjp (dn _ _ ae)
   exact⟨o,(sb.2 it (Ne.symm hei)).trans q⟩
  have I2:=I.turned2 (h':=g2) (t':=tk+1) (T:=s.heap.objs.size) (i:=(i:Int)) (tk:=tk) fe fi (Nat.le_refl _) ru (fun c o h1 h2 q=>(sb.2 c h1).trans (kk c o h1 h2 q)) ⟨_,af⟩ ai ((sb.2 _ (Nat.ne_of_gt ag)).trans hT)
  refine⟨.ref s.heap.objs.size,_,I2,rfl,⟨_,x,rfl,I.hok.fresh (Nat.le_refl _),rfl,fun ys ah=>by rw[Sq.inj I ah hq];exact hx⟩,⟨⟨y,af⟩,?_⟩,fun c ad=>?_⟩
  ·have z:=dn _ _ ae
   cases b with
   |true=>exact(show g.IsTupleIter it a (i+1) from z).at fun o q=>(sb.2 it (Ne.symm hei)).trans q
   |false=>exact(show g.IsListIter it a (i+1) from z).at fun o q=>(sb.2 it (Ne.symm hei)).trans q
  ·have nz:H c=none:=(hf c ad).1
   have cl:c<s.heap.objs.size:=by
    rcases List.mem_cons.mp ad with z|z
    ·rw[z];exact ag
    ·rw[List.mem_singleton.mp z]
     obtain⟨o,q,_⟩:=zjp st
     exact Heap.lt_size q
   rw[zal (Nat.ne_of_lt cl)]
   exact nz
 done:=by
  intro X hP hw hK hc i pins s σ H E I hf st hg
  subst hP hw hK
  obtain⟨⟨old,he⟩,st⟩:=st
  obtain⟨xs,hq,hx⟩:=hg
  obtain⟨aa,St,rv,D,up,dn⟩:=zjv I (I.ok.hd hc) hq hai
  obtain⟨f0,f1,f2,f3,f4,f5⟩:=hf it (by simp)
  have hl:=rv.length
  have e1:i=aa.toArray.size:=by
   rw[List.size_toArray]
   omega
  refine wpAny_pyNext_enum_endD D he (by rw[←e1];exact up i st) fun g eb=>⟨rfl,I.turned (t':=s.toks) (fun c o ad q=>eb c o ad q) f0 f1 f3 f4 f5⟩
 self:=fun _ _ _ _ _ st h=>by
  obtain⟨⟨old,he⟩,_⟩:=st
  exact wpAny_pyIter_enum he h
def zyk(K:PySem.W.Frag)(ta:TA):TI:=fun σ H R=>ta σ H fun vs H1=>∃(b:Bool)(a:Addr),vs=[.ref a]∧(∃xs,Sq K b H1 a xs)∧R (Ite K b a) H1
theorem zwa{X:Cx}{elts:List Expr}{k:Nat}{pos p pos':Pos}{a:Expr}{ta:TA}(hg:Gl X "enumerate")(hm:X.mg "enumerate" = none)(ha:PA X [a] ta)(hs:starEach [a] X.env=[(false,eval a X.env)]:=by rfl):
  PI X (.Tuple elts k pos) (.Call (.Name "enumerate" p) [a] [] pos') (zyk X.K ta):=by
 intro pins s σ H R I h
 refine Call_ (zj9 I hg hm PyProof.Rows.boot_enumerate (PyProof.Rows.callWith_type1 (thn (ha pos' pins s σ H _ I h) fun us s1 ⟨vs,H1,I1,r1,q1⟩=>?_) hs rfl))
 obtain⟨b,c,rfl,⟨xs,hq⟩,q⟩:=q1
 obtain⟨u,rfl,ru⟩:=ze7 r1
 cases ru
 have fin:∀g:Heap,IsEnum g (s1.heap.objs.size+1) s1.heap.objs.size 0 .none→zue b g s1.heap.objs.size c 0→(∀d o,s1.heap.get? d=some o→g.get? d=some o)→c<s1.heap.objs.size →
   wpAny (model X.prog X.w) X.A (pyIter (.ref (s1.heap.objs.size+1))) (PIE X pins σ (.Tuple elts k pos) R) X.xe { s1 with heap:=g }:=fun g he hi kk cl=>by
  refine wpAny_pyIter_enum he ?_
  refine⟨s1.heap.objs.size+1,[s1.heap.objs.size+1,s1.heap.objs.size],_,_,H1,rfl,I1.kept (t':=s1.toks) kk,zs4 b c _ _ (Nat.succ_ne_self _) (Nat.ne_of_lt (Nat.lt_succ_of_lt cl)) (Nat.ne_of_lt cl),⟨⟨.none,he⟩,hi⟩,fun d hd=>?_,q⟩
  have le:s1.heap.objs.size≤d:=by
   rcases List.mem_cons.mp hd with z|z
   ·rw[z];exact Nat.le_succ _
   ·rw[List.mem_singleton.mp z];exact Nat.le_refl _
  exact I1.fpOk le (I1.hok.fresh le)
 cases b with
 |true=>
  obtain⟨aa,rv,pt,_⟩:=I1.tuple hq
  exact zqo (show s1.heap.IsTuple c aa.toArray from pt) fun g he hi kk=>fin g he hi kk pt.lt
 |false=>
  obtain⟨aa,rv,pl,_⟩:=I1.list hq
  have hl:=pl.isList
  exact call_enumerate_list hl fun g he hi _ kk=>fin g he hi kk (by obtain⟨o,e,_⟩:=hl;exact Heap.lt_size e)
theorem ztr{K:PySem.W.Frag}{b:Bool}{a:Addr}{xs:List V}{g:TG}{tb:TS}{D:zii}{σ:St}{H:Hp}(Pv:Nat→St→Hp→Prop)(h0:Pv 0 σ H)(hl:∀i σ H,i≤xs.length→Pv i σ H→Sq K b H a xs)
  (hs:∀i x σ H,xs[i]?=some x→Pv i σ H→∀T,H T=none→g (.ref T) σ (upd H T (.tup [.int i,x])) fun σ2 H2=>tb { D with nx:=Pv (i+1),ct:=Pv (i+1),bk:=D.nx } σ2 H2) (hd:∀σ H,Pv xs.length σ H→D.nx σ H):
  ∃W:Nat→Nat→St→Hp→Prop,(∃m,W 0 m σ H)∧∀i m σ H,W i m σ H →
   ((Ite K b a).stop i H∧D.nx σ H)∨((Ite K b a).go i H∧∃N:St→Hp→Prop,(∀σ' H',N σ' H'→∃m',m'<m∧W (i+1) m' σ' H')∧∀x H',(Ite K b a).yld i H x H'→g x σ H' fun σ2 H2=>tb { D with nx:=N,ct:=N,bk:=D.nx } σ2 H2):=by
 refine⟨fun i m σ H=>m=xs.length-i∧i≤xs.length∧Pv i σ H,⟨xs.length,by simp,Nat.zero_le _,h0⟩,?_⟩
 rintro i m σ H ⟨rfl,hi,p⟩
 have q:=hl i σ H hi p
 by_cases aa:i<xs.length
 ·refine .inr ⟨⟨xs,xs[i],q,by simp[aa]⟩,Pv (i+1),fun σ' H' p'=>⟨xs.length-(i+1),by omega,rfl,aa,p'⟩,fun x H' y=>?_⟩
  obtain⟨T,v,rfl,hT,rfl,hv⟩:=y
  exact hs i v σ H (hv xs q) p T hT
 ·have e:i=xs.length:=by omega
  subst e
  exact .inl ⟨⟨xs,q,rfl⟩,hd σ H p⟩
end L2
namespace L2
open PySem PySem.Spec PyProof.Rows
section
variable {X : Cx}
theorem zq3{P:Nat→Value→Prop}{f:Nat→V}(hP:∀i v,P i v→RelV (f i) v):∀(n k:Nat)(l:List Value),l.length=n→(∀j v,l[j]?=some v→P (k+j) v)→Vals ((List.range' k n).map f) l
 |0,k,[],_,_=>.nil
 |n+1,k,v::r,hl,h=>by
  rw[List.range'_succ,List.map_cons]
  refine .cons (hP _ _ (h 0 v rfl)) (zq3 hP n (k+1) r (by simpa using hl) fun j v' e=>?_)
  have:=h (j+1) v' (by simpa using e)
  rw[show k+1+j=k+(j+1) by omega]
  exact this
 |0,_,_::_,hl,_=>by simp at hl
 |n+1,_,[],hl,_=>by simp at hl
theorem zlk(hc:X.calm=true):zef X (.type "list") (fun xs H Q=>∃(p:Addr)(lo hi:Int),xs=[.ref p]∧H p=some (.rng lo hi)∧-(2^62)≤lo∧lo<2^62∧-(2^62)≤hi∧hi<2^62∧(hi-lo).toNat≤1000∧∀l,H l=none→Q (.ref l) (upd H l (.lst ((List.range' 0 (hi-lo).toNat).map fun i:Nat=>V.int (lo+i))))):=by
 intro pins s σ H xs us Q I r h
 obtain⟨p,lo,hi,rfl,hp,b1,b2,b3,b4,hz,q⟩:=h
 obtain⟨u,rfl,rx⟩:=ze7 r
 cases rx
 obtain⟨t,u,v,e⟩:=(show ObjOk X.prog X.w H s.heap p (.rng lo hi) from I.hok p _ hp)
 have hn:Builtin.Range.rangeSize lo hi 1=(((hi-lo).toNat:Nat):Int):=by
  rw[rangeSize_one]
  split<;>omega
 refine call_list_range (I.ok.hd hc) e (small_one b1 b2 b3 b4) hn (Nat.le_trans hz (by decide)) fun g tk aa c kk eg ad=>?_
 obtain⟨sz,it⟩:=ad
 have vv:Vals ((List.range' 0 (hi-lo).toNat).map fun i:Nat=>V.int (lo+i)) aa.toList:=by
  refine zq3 (P:=fun i v=>∃t,v=.int (lo+i*1) t) (fun i v hv=>?_) _ 0 aa.toList (by simpa using sz) fun j v ej=>?_
  ·obtain⟨t,rfl⟩:=hv
   exact⟨t,by rw[Int.mul_one]⟩
  ·have:=it j v (by simpa using ej)
   rw[Nat.zero_add]
   exact this
 refine⟨.ref s.heap.objs.size,_,I.laid (t':=tk) kk (Nat.le_refl _) (show ObjOk X.prog X.w _ _ _ (.lst _) from⟨?_,aa.toList,c,vv,eg⟩),rfl,q _ (I.hok.fresh (Nat.le_refl _))⟩
 rw[List.length_map,List.length_range']
 exact Nat.le_of_lt (zbi hz)
open AutoSeq1 (wpAny_loadPart') in
def zzi(K:PySem.W.Frag)(tl:TE):TI:=fun σ H R=>tl σ H fun x H1=>∃a,x=.ref a∧(((∃xs,SqL K H1 a xs)∧R (Itl K a) H1)∨((∃xs,SqT K H1 a xs)∧R (Itt K a) H1))
theorem zx2{tg l:Expr}{tl:TE}(hl:PE X l tl):PI X tg l (zzi X.K tl):=by
 intro pins s σ H R I h
 refine thn (hl pins s σ H _ I h) fun v s1 ⟨x,H1,I1,r1,q1⟩=>?_
 obtain⟨a,rfl,q⟩:=q1
 cases r1
 rcases q with⟨⟨xs,hq⟩,q⟩|⟨⟨xs,hq⟩,q⟩
 ·obtain⟨aa,rv,p,hz⟩:=I1.list hq
  refine wpAny_pyIter_list p.isList ⟨s1.heap.objs.size,[s1.heap.objs.size],_,_,H1,rfl,I1.kept (t':=s1.toks) fun b o e=>Heap.get?_push_of_some _ e,zlq a _,⟨_,Heap.get?_push_size _ rfl,rfl,rfl⟩,fun b hb=>?_,q⟩
  rw[List.mem_singleton.mp hb]
  exact I1.fpOk (Nat.le_refl _) (I1.hok.fresh (Nat.le_refl _))
 ·obtain⟨aa,rv,p,hz⟩:=I1.tuple hq
  refine wpAny_pyIter_tuple (show s1.heap.IsTuple a aa.toArray from p) ⟨s1.heap.objs.size,[s1.heap.objs.size],_,_,H1,rfl,I1.kept (t':=s1.toks) fun b o e=>Heap.get?_push_of_some _ e,zj8 a _,⟨_,Heap.get?_push_size _ rfl,rfl,rfl⟩,fun b hb=>?_,q⟩
  rw[List.mem_singleton.mp hb]
  exact I1.fpOk (Nat.le_refl _) (I1.hok.fresh (Nat.le_refl _))
theorem zen(hc:X.calm=true):zef X (.builtin "sum") (fun xs H Q=>∃(p:Addr)(ns:List Int),xs=[.ref p]∧SqL X.K H p (ns.map V.int)∧Q (.int ns.sum) H):=by
 intro pins s σ H xs us Q I r h
 obtain⟨p,ns,rfl,hq,q⟩:=h
 obtain⟨u,rfl,rx⟩:=ze7 r
 cases rx
 obtain⟨aa,rv,pl,ae⟩:=I.list hq
 have ia:=zct rv
 obtain⟨ps,hx⟩:=ia.allInts.items
 have ad:s.heap.IsList p (intItems ps):=hx▸pl.isList
 refine sum_intListG (I.ok.hd hc) ad fun g tk t' hk=>?_
 have e1:ns=ps.toList.map (·.1):=by
  rw[←nums_intItems,←hx]
  exact(show numsOf aa.toArray.toList=ns from ia.numsOf).symm
 have e2:preSum (numAt ps) ps.size=ns.sum:=by
  rw[preSum_eq,List.take_of_length_le (by simp),e1]
 rw[e2]
 exact⟨.int _,H,I.kept (t':=tk) hk,⟨t',rfl⟩,q⟩
end
section
variable {X : Cx} {K : PySem.W.Frag}
theorem ixT(h:X.K=K:=by rfl):IxR X (zx9 K):=h▸zxb
theorem ixL(h:X.K=K:=by rfl):IxR X (zyc K):=h▸zvz
theorem zer(h:X.K=K:=by rfl):zef X (.builtin "len") (fun xs H Q=>∃p ys,xs=[.ref p]∧(SqL K H p ys∨SqT K H p ys)∧Q (.int ys.length) H):=h▸zmr
end
mutual
def Dn(H:Hp):PyData→V→Prop
 |.none,v=>v=.non
 |.bool b,v=>v=.bl b
 |.int i,v=>v=.int i
 |.str x,v=>v=.str x
 |.list ds,v=>∃a xs,v=.ref a∧H a=some (.lst xs)∧DnL H ds xs
 |.tuple ds,v=>∃a xs,v=.ref a∧H a=some (.tup xs)∧DnL H ds xs
 |.dict kvs,v=>kvs=[]∧∃a,v=.ref a∧H a=some (.dK [])
def DnL(H:Hp):List PyData→List V→Prop
 |[],xs=>xs=[]
 |d::ds,xs=>∃x r,xs=x::r∧Dn H d x∧DnL H ds r
end
mutual
theorem Dn.same{H H':Hp}(h:Same H H'):∀(d:PyData)(v:V),Dn H d v→Dn H' d v
 |.none,_,q=>q
 |.bool _,_,q=>q
 |.int _,_,q=>q
 |.str _,_,q=>q
 |.list ds,_,⟨a,xs,e,q,r⟩=>⟨a,xs,e,h _ _ q,DnL.same h ds xs r⟩
 |.tuple ds,_,⟨a,xs,e,q,r⟩=>⟨a,xs,e,h _ _ q,DnL.same h ds xs r⟩
 |.dict _,_,⟨e,a,q,r⟩=>⟨e,a,q,h _ _ r⟩
theorem DnL.same{H H':Hp}(h:Same H H'):∀(ds:List PyData)(xs:List V),DnL H ds xs→DnL H' ds xs
 |[],_,q=>q
 |d::ds,_,⟨x,r,e,q,z⟩=>⟨x,r,e,Dn.same h d x q,DnL.same h ds r z⟩
end
theorem DnL.length{H:Hp}:∀{ds:List PyData} {xs:List V},DnL H ds xs→ds.length=xs.length
 |[],_,q=>by cases(show _=[] from q);rfl
 |d::ds,_,⟨x,r,e,_,z⟩=>by rw[e,List.length_cons,List.length_cons,DnL.length z]
theorem DnL.get{H:Hp}:∀{ds:List PyData} {xs:List V} {i:Nat} {x:V},DnL H ds xs→xs[i]?=some x→∃d,ds[i]?=some d∧Dn H d x
 |[],_,i,x,q,e=>by rw[(show _=[] from q)] at e;simp at e
 |d::ds,_,0,x,⟨y,r,e,q,z⟩,h=>by rw[e] at h;cases h;exact⟨d,rfl,q⟩
 |d::ds,_,i+1,x,⟨y,r,e,q,z⟩,h=>by
  rw[e] at h
  obtain⟨d',h1,h2⟩:=DnL.get (i:=i) z (by simpa using h)
  exact⟨d',by simpa using h1,h2⟩
theorem DnL.get'{H:Hp}:∀{ds:List PyData} {xs:List V} {i:Nat} {d:PyData},DnL H ds xs→ds[i]?=some d→∃x,xs[i]?=some x∧Dn H d x
 |[],_,i,x,q,e=>by simp at e
 |d::ds,_,0,x,⟨y,r,e,q,z⟩,h=>by cases h;exact⟨y,by rw[e];rfl,q⟩
 |d::ds,_,i+1,x,⟨y,r,e,q,z⟩,h=>by
  obtain⟨d',h1,h2⟩:=DnL.get' (i:=i) z (by simpa using h)
  exact⟨d',by rw[e];simpa using h1,h2⟩
theorem DnL.append{H:Hp}:∀{ds es:List PyData} {xs ys:List V},DnL H ds xs→DnL H es ys→DnL H (ds++es) (xs++ys)
 |[],es,xs,ys,q,r=>by rw[(show xs=[] from q)];exact r
 |d::ds,es,_,ys,⟨x,t,e,q,z⟩,r=>⟨x,t++ys,by rw[e];rfl,q,DnL.append z r⟩
mutual
theorem Dn.reads{X:Cx}{pins:List (Addr×Obj)}{σ:St}{H:Hp}{s:Shared}(I:Inv X pins σ H s):∀(d:PyData)(v:V)(u:Value),Dn H d v→d.canLay0=true→RelV v u→∃as,Reads s.heap u d as
 |.none,v,u,q,_,r=>by cases(show v=.non from q);cases(show u=Value.none from r);exact⟨_,.none⟩
 |.bool b,v,u,q,_,r=>by cases(show v=.bl b from q);cases(show u=Value.bool b from r);exact⟨_,.bool b⟩
 |.int i,v,u,q,_,r=>by cases(show v=.int i from q);obtain⟨t,rfl⟩:=(show ∃t,u=Value.int i t from r);exact⟨_,.int i t⟩
 |.str x,v,u,q,_,r=>by cases(show v=.str x from q);obtain⟨t,rfl⟩:=(show ∃t,u=Value.str x t from r);exact⟨_,.str x t⟩
 |.list ds,_,u,⟨a,xs,rfl,q,z⟩,c,r=>by
  cases(show u=Value.ref a from r)
  obtain⟨_,its,n,rv,e⟩:=(show ObjOk X.prog X.w H s.heap a (.lst xs) from I.hok a _ q)
  obtain⟨as,ra⟩:=DnL.reads I ds xs its z (by simpa [PyData.canLay0] using c) rv
  exact⟨_,.list e rfl rfl (by simpa using ra)⟩
 |.tuple ds,_,u,⟨a,xs,rfl,q,z⟩,c,r=>by
  cases(show u=Value.ref a from r)
  obtain⟨_,its,rv,o,e,hc,n,hd⟩:=(show ObjOk X.prog X.w H s.heap a (.tup xs) from I.hok a _ q)
  obtain⟨as,ra⟩:=DnL.reads I ds xs its z (by simpa [PyData.canLay0] using c) rv
  exact⟨_,.tuple e hc hd (by simpa using ra)⟩
 |.dict k,v,u,_,c,_=>by simp[PyData.canLay0] at c
theorem DnL.reads{X:Cx}{pins:List (Addr×Obj)}{σ:St}{H:Hp}{s:Shared}(I:Inv X pins σ H s):∀(ds:List PyData)(xs:List V)(us:List Value),DnL H ds xs→PyData.canLayAll0 ds=true→Vals xs us→∃as,ReadsAll s.heap us ds as
 |[],xs,us,q,_,r=>by
  cases(show xs=[] from q)
  cases r
  exact⟨_,.nil⟩
 |d::ds,_,us,⟨x,t,rfl,q,z⟩,c,r=>by
  cases r with
  |cons rx rt=>
   have c':PyData.canLay0 d=true∧PyData.canLayAll0 ds=true:=by simpa [PyData.canLayAll0] using c
   obtain⟨a1,r1⟩:=Dn.reads I d x _ q c'.1 rx
   obtain⟨a2,r2⟩:=DnL.reads I ds t _ z c'.2 rt
   exact⟨_,.cons r1 r2⟩
end
theorem zdd{X:Cx}(hu:X.A.units+64<cLine):OpR X (compareOp .NotEq) (fun x y H Q=>∃d e:PyData,Dn H d x∧Dn H e y∧SeqAt.shaped d=true∧SeqAt.shaped e=true∧Q (.bl (!PyData.eqv d e)) H):=by
 intro pins s σ H x y v u Q I rx ry h
 obtain⟨d,e,hd,he,sd,se,q⟩:=h
 obtain⟨as,ra⟩:=Dn.reads I d x v hd (SeqAt.canLay_of_shaped sd) rx
 obtain⟨bs,rb⟩:=Dn.reads I e y u he (SeqAt.canLay_of_shaped se) ry
 exact ne_dataH ra rb sd se hu ⟨.bl _,H,I,rfl,q⟩
mutual
theorem ze6:∀d:PyData,d.canLay0=true→PyData.eqv d d=true
 |.none,_=>by simp[PyData.eqv]
 |.bool _,_=>by simp[PyData.eqv]
 |.int _,_=>by simp[PyData.eqv]
 |.str _,_=>by simp[PyData.eqv]
 |.list ds,c=>by simpa [PyData.eqv] using zgh ds (by simpa [PyData.canLay0] using c)
 |.tuple ds,c=>by simpa [PyData.eqv] using zgh ds (by simpa [PyData.canLay0] using c)
 |.dict _,c=>by simp[PyData.canLay0] at c
theorem zgh:∀ds:List PyData,PyData.canLayAll0 ds=true→PyData.eqvAll ds ds=true
 |[],_=>by simp[PyData.eqvAll]
 |d::ds,c=>by
  have c':PyData.canLay0 d=true∧PyData.canLayAll0 ds=true:=by simpa [PyData.canLayAll0] using c
  simp[PyData.eqvAll,ze6 d c'.1,zgh ds c'.2]
end
end L2
namespace Wd
open PySem L2
def isW:PyData→Bool
 |.int _=>true
 |_=>false
def zc2(d:PyData)(lo hi:Int):Bool:=match d with
 |.int i=>decide (lo≤i)&&decide (i≤hi)
 |_=>false
def zjc(d:PyData):Bool:=match d with
 |.tuple ds=>decide (0<ds.length)
 |_=>false
def zbk(many:Int):List PyData→Int→Bool
 |[],_=>true
 |.int i::ds,last=>decide (last+1≤i)&&decide (i≤many-1)&&zbk many ds i
 |_::_,_=>false
def zzn(many:Int):PyData→PyData→Bool
 |.int up,.tuple ks=>zbk many ks up
 |_,_=>false
def zyf(h:PyData):PyData→Bool
 |.tuple ks=>zc2 h 1 ks.length
 |_=>false
def zzr(l:PyData):PyData→Bool
 |.int hi=>zc2 l 0 hi
 |_=>false
def ze9(many:Int)(d:PyData):Bool:=match d with
 |.tuple [u,l,h,k]=>zc2 u 0 (many-1)&&(zjc k&&(zzn many u k&&(zyf h k&&zzr l h)))
 |_=>false
def zqa:PyData→PyData
 |.tuple (x::_)=>x
 |_=>.none
def zga:PyData→Bool
 |.tuple [_,n]=>isW n
 |_=>false
def zn3(many:Int)(d:PyData):Bool:=match d with
 |.tuple ds=>decide (0<ds.length)&&ds.all zga&&zbk many (ds.map zqa) (-1)
 |_=>false
def neI:PyData→PyData→Bool
 |.int i,.int j=>!decide (i=j)
 |_,_=>false
def zry(many:Int)(s:Str)(x y:PyData):Bool:=if s=("most" : Str) then isW x&&zn3 many y else if s=("needs" : Str)∨s=("bans" : Str) then zc2 x 0 (many-1)&&(zc2 y 0 (many-1)&&neI x y) else false
def zya(many:Int)(x y:PyData):PyData→Bool
 |.str s=>zry many s x y
 |_=>false
def zi3(many:Int)(d:PyData):Bool:=match d with
 |.tuple [k,x,y]=>zya many x y k
 |_=>false
def toI:PyData→Int
 |.int i=>i
 |_=>0
def zkv:PyData→List Int
 |.tuple [_,_,_,.tuple ks]=>ks.map toI
 |_=>[]
structure zwn(many:Int)(bs:List PyData):Prop where
 each:∀b∈bs,ze9 many b=true
 kids:(bs.flatMap zkv).Perm ((List.range' 0 (many-1).toNat).map fun i:Nat=>(1:Int)+i)
theorem zad{H:Hp}{p:Addr}(h:H p=none)(o:HO):Same H (upd H p o):=znb fun b u q=>by rw[zal (zat q h)];exact q
theorem zaq{n:Nat}(h:n≤1000):n≤sizeLine:=Nat.le_of_lt (zbi h)
theorem zem{H:Hp}{i:Int}{v:V}(h:Dn H (.int i) v):v=.int i:=h
theorem zhi{H:Hp}{ds:List PyData}{v:V}(h:Dn H (.tuple ds) v):∃a xs,v=.ref a∧H a=some (.tup xs)∧DnL H ds xs:=h
theorem zm8{d:PyData}(h:isW d=true):∃i,d=.int i:=by
 cases d<;>first|exact⟨_,rfl⟩|cases h
theorem sqT{K:PySem.W.Frag}{H:Hp}{a:Addr}{xs:List V}(h:H a=some (.tup xs)):SqT K H a xs:=.inl (.inl h)
theorem at0{x:V}{r:List V}:atI (x::r) 0=some x:=zc5 (j:=0) rfl
theorem at1{x y:V}{r:List V}:atI (x::y::r) 1=some y:=zc5 (j:=1) rfl
theorem at2{x y z:V}{r:List V}:atI (x::y::z::r) 2=some z:=zc5 (j:=2) rfl
theorem at3{x y z w:V}{r:List V}:atI (x::y::z::w::r) 3=some w:=zc5 (j:=3) rfl
theorem zea{d:PyData}{lo hi:Int}(h:zc2 d lo hi=true):∃i,d=.int i∧lo≤i∧i≤hi:=by
 cases d with
 |int i=>
  have z:(decide (lo≤i)&&decide (i≤hi))=true:=h
  simp only[Bool.and_eq_true,decide_eq_true_eq] at z
  exact⟨i,rfl,z.1,z.2⟩
 |_=>cases h
theorem zo8{d:PyData}(h:zjc d=true):∃ds,d=.tuple ds∧0<ds.length:=by
 cases d with
 |tuple ds=>exact⟨ds,rfl,of_decide_eq_true h⟩
 |_=>cases h
theorem zpm{H:Hp}:∀{ns:List Int} {xs:List V},DnL H (ns.map PyData.int) xs→xs=ns.map V.int
 |[],xs,h=>h
 |n::r,_,⟨x,t,rfl,hx,ht⟩=>by rw[zpm ht,zem hx];rfl
theorem zpc{H:Hp}:∀(ns:List Int),DnL H (ns.map PyData.int) (ns.map V.int)
 |[]=>rfl
 |n::r=>⟨_,_,rfl,rfl,zpc r⟩
end Wd
namespace Ow
open PySem L2 Wd
structure WoodAt(H:Hp)(wd:Addr)(many:Int)(xs ys:List V):Prop where
 ex:∃tb tc,H wd=some (.tup [.int many,.ref tb,.ref tc])∧H tb=some (.tup xs)∧H tc=some (.tup ys)
def zxu:Sp:=fun vs H Q _=>∃(wd:Addr)(many:Int)(xs ys:List V),vs=[.ref wd]∧WoodAt H wd many xs ys∧Q (.int ((xs.length:Int)+(ys.length:Int))) H
def zwi:Sp:=fun vs H Q _=>∃(wd:Addr)(many:Int)(xs ys:List V)(t:Nat)(v:V),vs=[.ref wd,.int t]∧WoodAt H wd many xs ys∧(xs++ys)[t]?=some v∧Q v H
theorem zm3{α β:Type}{f:α→List β}{ds:List α}{i:Nat}{d:α}(h:ds[i]?=some d):(ds.take (i+1)).flatMap f=(ds.take i).flatMap f++f d:=by
 obtain⟨hi,e⟩:=List.getElem?_eq_some_iff.mp h
 rw[List.take_succ_eq_append_getElem hi,List.flatMap_append,e]
 simp
def zbs:Nat→PyData→Bool
 |_,.int _=>true
 |_,.str s=>PyData.strOk s
 |n+1,.tuple ds=>decide (ds.length≤1000)&&ds.all (zbs n)
 |_,_=>false
theorem zva{many one x:Int}(h1:1<many)(h9:many≤9)(o0:0≤one)(o1:one<many)(x0:0≤x)(x1:x<many-1):0≤(one+1+x)%many∧(one+1+x)%many<many∧one≠(one+1+x)%many:=by
 have e:many=2∨many=3∨many=4∨many=5∨many=6∨many=7∨many=8∨many=9:=by omega
 rcases e with rfl|rfl|rfl|rfl|rfl|rfl|rfl|rfl<;>omega
theorem zpu:PyData.strOk ("most" : Str)=true:=by decide +kernel
theorem zor:PyData.strOk ("needs" : Str)=true:=by decide +kernel
theorem zp2:PyData.strOk ("bans" : Str)=true:=by decide +kernel
theorem zur{m:Nat}(h:m≤9):2^m≤512:=Nat.pow_le_pow_right (by decide) h
structure zjl(H:Hp)(i:Nat)(ps:List PyData)(xs:List V):Prop where
 dn:DnL H ps xs
 ok:ps.all zga=true
 flat:ps.all (zbs 1)=true
 ris:zbk (i:Int) (ps.map zqa) (-1)=true
 few:ps.length≤i
theorem zeg{m m':Int}(h:m≤m'):∀{ks:List PyData} {u:Int},zbk m ks u=true→zbk m' ks u=true
 |[],_,_=>rfl
 |.int i::ks,u,z=>by
  have z':(decide (u+1≤i)&&decide (i≤m-1)&&zbk m ks i)=true:=z
  show(decide (u+1≤i)&&decide (i≤m'-1)&&zbk m' ks i)=true
  simp only[Bool.and_eq_true,decide_eq_true_eq] at z' ⊢
  exact⟨⟨z'.1.1,by omega⟩,zeg h z'.2⟩
 |.none::_,_,z=>by cases z
 |.bool _::_,_,z=>by cases z
 |.str _::_,_,z=>by cases z
 |.list _::_,_,z=>by cases z
 |.tuple _::_,_,z=>by cases z
 |.dict _::_,_,z=>by cases z
theorem zf8{m j:Int}(h:j<m):∀{ks:List PyData} {u:Int},zbk j ks u=true→u<j→zbk m (ks++[.int j]) u=true
 |[],u,_,hu=>by
  show(decide (u+1≤j)&&decide (j≤m-1)&&true)=true
  rw[decide_eq_true (by omega),decide_eq_true (by omega)]
  rfl
 |.int i::ks,u,z,hu=>by
  have z':(decide (u+1≤i)&&decide (i≤j-1)&&zbk j ks i)=true:=z
  show(decide (u+1≤i)&&decide (i≤m-1)&&zbk m (ks++[.int j]) i)=true
  simp only[Bool.and_eq_true,decide_eq_true_eq] at z' ⊢
  exact⟨⟨z'.1.1,by omega⟩,zf8 h z'.2 (by omega)⟩
 |.none::_,_,z,_=>by cases z
 |.bool _::_,_,z,_=>by cases z
 |.str _::_,_,z,_=>by cases z
 |.list _::_,_,z,_=>by cases z
 |.tuple _::_,_,z,_=>by cases z
 |.dict _::_,_,z,_=>by cases z
theorem DnL.keepT{H H':Hp}{f:PyData→Bool}(k:∀d v,f d=true→Dn H d v→Dn H' d v):∀(ds:List PyData)(xs:List V),ds.all f=true→DnL H ds xs→DnL H' ds xs
 |[],_,_,q=>q
 |d::ds,_,c,⟨x,r,e,q,z⟩=>by
  rw[List.all_cons,Bool.and_eq_true] at c
  exact⟨x,r,e,k d x c.1 q,DnL.keepT k ds r c.2 z⟩
theorem Dn.keepT{H H':Hp}(h:∀b xs,H b=some (.tup xs)→H' b=some (.tup xs)):∀(n:Nat)(d:PyData)(v:V),zbs n d=true→Dn H d v→Dn H' d v
 |_,.int _,_,_,q=>q
 |_,.str _,_,_,q=>q
 |n+1,.tuple ds,_,c,⟨p,xs,e,q,z⟩=>⟨p,xs,e,h _ _ q,DnL.keepT (Dn.keepT h n) ds xs ((Bool.and_eq_true _ _).mp c).2 z⟩
 |0,.tuple ds,_,c,_=>by cases c
 |0,.none,_,c,_=>by cases c
 |n+1,.none,_,c,_=>by cases c
 |0,.bool _,_,c,_=>by cases c
 |n+1,.bool _,_,c,_=>by cases c
 |0,.list _,_,c,_=>by cases c
 |n+1,.list _,_,c,_=>by cases c
 |0,.dict _,_,c,_=>by cases c
 |n+1,.dict _,_,c,_=>by cases c
theorem zom{H:Hp}{p:Addr}{xs ys:List V}(h:H p=some (.lst xs)):∀b zs,H b=some (.tup zs)→upd H p (.lst ys) b=some (.tup zs):=fun b zs q=>by
 rw[zal (zpr q h (by intro z;cases z))]
 exact q
structure Grp where
 t:Addr
 up:Int
 l:Addr
 kids:List Int
structure GAt(H0 H:Hp)(g:Addr)(gs:List Grp):Prop where
 at_:H g=some (.lst (gs.map fun x=>V.ref x.t))
 new:H0 g=none
 tup:∀x∈gs,H x.t=some (.tup [.int x.up,.ref x.l])
 lst:∀x∈gs,H x.l=some (.lst (x.kids.map V.int))∧H0 x.l=none∧g≠x.l
 nd:(gs.map (·.l)).Nodup
structure GOk(k:Int)(gs:List Grp):Prop where
 each:∀x∈gs,0≤x.up∧x.kids≠[]∧zbk k (x.kids.map PyData.int) x.up=true
 perm:(gs.flatMap (·.kids)).Perm ((List.range' 0 (k-1).toNat).map fun i:Nat=>(1:Int)+i)
theorem GOk.few{k:Int}{gs:List Grp}(G:GOk k gs):gs.length≤(k-1).toNat:=by
 have e:=G.perm.length_eq
 rw[List.length_map,List.length_range'] at e
 rw[←e]
 have go:∀l:List Grp,(∀x∈l,x.kids≠[])→l.length≤(l.flatMap (·.kids)).length:=by
  intro l
  induction l with
  |nil=>intro _;exact Nat.le_refl _
  |cons x r ih=>
   intro h
   rw[List.flatMap_cons,List.length_append,List.length_cons]
   have h1:=List.length_pos_iff.mpr (h x List.mem_cons_self)
   have h2:=ih fun y hy=>h y (List.mem_cons_of_mem _ hy)
   omega
 exact go gs fun x hx=>(G.each x hx).2.1
theorem zkx(k:Nat):((List.range' 0 k).map fun i:Nat=>(1:Int)+i)++[((k:Int)+1)]=(List.range' 0 (k+1)).map fun i:Nat=>(1:Int)+i:=by
 rw[List.range'_concat,List.map_append]
 simp
 omega
theorem GOk.new{k:Nat}{gs:List Grp}{t l:Addr}{u:Int}(G:GOk ((k:Int)+1) gs)(u0:0≤u)(u1:u<(k:Int)+1):GOk ((k:Int)+2) (gs++[⟨t,u,l,[(k:Int)+1]⟩]) where
 each:=fun x hx=>by
  rcases List.mem_append.mp hx with z|z
  ·obtain⟨a,b,c⟩:=G.each x z
   exact⟨a,b,zeg (by omega) c⟩
  ·rw[List.mem_singleton.mp z]
   refine⟨u0,by simp,?_⟩
   show(decide (u+1≤(k:Int)+1)&&decide ((k:Int)+1≤(k:Int)+2-1)&&true)=true
   rw[decide_eq_true (by omega),decide_eq_true (by omega)]
   rfl
 perm:=by
  rw[List.flatMap_append]
  have e:((k:Int)+2-1).toNat=k+1:=by omega
  have e':((k:Int)+1-1).toNat=k:=by omega
  have p:=G.perm
  rw[e'] at p
  rw[e,←zkx]
  exact p.append (by simp)
theorem GOk.put{k:Nat}{pre post:List Grp}{x:Grp}(G:GOk ((k:Int)+1) (pre++x::post)):GOk ((k:Int)+2) (pre++⟨x.t,x.up,x.l,x.kids++[(k:Int)+1]⟩::post) where
 each:=fun y hy=>by
  have old:∀z∈pre++x::post,0≤z.up∧z.kids≠[]∧zbk ((k:Int)+2) (z.kids.map PyData.int) z.up=true:=fun z hz=>by
   obtain⟨a,b,c⟩:=G.each z hz
   exact⟨a,b,zeg (by omega) c⟩
  rcases List.mem_append.mp hy with z|z
  ·exact old y (List.mem_append_left _ z)
  ·rcases List.mem_cons.mp z with z|z
   ·subst z
    obtain⟨a,b,c⟩:=G.each x (by simp)
    refine⟨a,by simp,?_⟩
    show zbk ((k:Int)+2) ((x.kids++[(k:Int)+1]).map PyData.int) x.up=true
    rw[List.map_append]
    refine zf8 (by omega) c ?_
    cases hk:x.kids with
    |nil=>exact absurd hk b
    |cons n r=>
     rw[hk] at c
     have c':(decide (x.up+1≤n)&&decide (n≤(k:Int)+1-1)&&zbk ((k:Int)+1) (r.map PyData.int) n)=true:=c
     simp only[Bool.and_eq_true,decide_eq_true_eq] at c'
     omega
   ·exact old y (by simp[z])
 perm:=by
  have e:((k:Int)+2-1).toNat=k+1:=by omega
  have e':((k:Int)+1-1).toNat=k:=by omega
  have p:=G.perm
  rw[e'] at p
  rw[e,←zkx]
  refine List.Perm.trans ?_ (p.append (List.Perm.refl [((k:Int)+1)]))
  rw[List.flatMap_append,List.flatMap_append,List.flatMap_cons,List.flatMap_cons,List.append_assoc,List.append_assoc,List.append_assoc]
  exact(List.Perm.refl _).append ((List.Perm.refl _).append List.perm_append_comm)
theorem GAt.put{H0 H:Hp}{g:Addr}{pre post:List Grp}{x:Grp}{k:Int}(G:GAt H0 H g (pre++x::post)):GAt H0 (upd H x.l (.lst (x.kids.map V.int++[.int k]))) g (pre++⟨x.t,x.up,x.l,x.kids++[k]⟩::post):=by
 have hx:x∈pre++x::post:=by simp
 obtain⟨a,b,c⟩:=G.lst x hx
 have nd:=G.nd
 rw[List.map_append,List.map_cons] at nd
 obtain⟨_,n2,n3⟩:=List.nodup_append.mp nd
 have ae:∀y,y∈pre∨y∈post→y.l≠x.l:=fun y hy e=>by
  rcases hy with hy|hy
  ·exact n3 y.l (List.mem_map.mpr ⟨y,hy,rfl⟩) x.l (by simp) e
  ·exact(List.nodup_cons.mp n2).1 (by rw[←e];exact List.mem_map.mpr ⟨y,hy,rfl⟩)
 have ad:∀y∈pre++(⟨x.t,x.up,x.l,x.kids++[k]⟩:Grp)::post,(y∈pre∨y∈post)∨y=⟨x.t,x.up,x.l,x.kids++[k]⟩:=fun y hy=>by
  rcases List.mem_append.mp hy with z|z
  ·exact .inl (.inl z)
  ·rcases List.mem_cons.mp z with z|z
   ·exact .inr z
   ·exact .inl (.inr z)
 have aa:∀y,y∈pre∨y∈post→y∈pre++x::post:=fun y hy=>by
  rcases hy with z|z<;>simp[z]
 refine⟨?_,G.new,fun y hy=>?_,fun y hy=>?_,?_⟩
 ·rw[zal c,G.at_,List.map_append,List.map_append,List.map_cons,List.map_cons]
 ·rcases ad y hy with z|rfl
  ·rw[zal (zpr (G.tup y (aa y z)) a (by intro q;cases q))]
   exact G.tup y (aa y z)
  ·show upd H x.l _ x.t=_
   rw[zal (zpr (G.tup x hx) a (by intro q;cases q))]
   exact G.tup x hx
 ·rcases ad y hy with z|rfl
  ·obtain⟨a',b',c'⟩:=G.lst y (aa y z)
   refine⟨?_,b',c'⟩
   rw[zal (ae y z)]
   exact a'
  ·refine⟨?_,b,c⟩
   show upd H x.l _ x.l=_
   rw[zab,List.map_append]
   rfl
 ·have e:(pre++(⟨x.t,x.up,x.l,x.kids++[k]⟩:Grp)::post).map (·.l)=(pre++x::post).map (·.l):=by
   rw[List.map_append,List.map_append,List.map_cons,List.map_cons]
  rw[e]
  exact G.nd
theorem GAt.same{H0 H H':Hp}{g:Addr}{gs:List Grp}(G:GAt H0 H g gs)(s:Same H H'):GAt H0 H' g gs:=
 ⟨s _ _ G.at_,G.new,fun x hx=>s _ _ (G.tup x hx),fun x hx=>⟨s _ _ (G.lst x hx).1,(G.lst x hx).2⟩,G.nd⟩
def zrt(u lo hi:Int)(kids:List Int):PyData:=.tuple [.int u,.int lo,.int hi,.tuple (kids.map PyData.int)]
theorem zxv{m u lo hi:Int}{kids:List Int}(u0:0≤u)(ne:kids≠[])(r:zbk m (kids.map PyData.int) u=true)(l0:0≤lo)(l1:lo≤hi)(h0:1≤hi)(h1:hi≤kids.length):ze9 m (zrt u lo hi kids)=true:=by
 have u1:u≤m-1:=by
  cases hk:kids with
  |nil=>exact absurd hk ne
  |cons n t=>
   rw[hk] at r
   have c':(decide (u+1≤n)&&decide (n≤m-1)&&zbk m (t.map PyData.int) n)=true:=r
   simp only[Bool.and_eq_true,decide_eq_true_eq] at c'
   omega
 show(zc2 (.int u) 0 (m-1)&&(zjc (.tuple (kids.map PyData.int))&&(zbk m (kids.map PyData.int) u&&(zc2 (.int hi) 1 ((kids.map PyData.int).length:Nat)&&zc2 (.int lo) 0 hi))))=true
 have e1:zc2 (.int u) 0 (m-1)=true:=by
  show(decide (0≤u)&&decide (u≤m-1))=true
  rw[decide_eq_true u0,decide_eq_true u1]
  rfl
 have e2:zjc (.tuple (kids.map PyData.int))=true:=by
  refine decide_eq_true ?_
  rw[List.length_map]
  exact List.length_pos_iff.mpr ne
 have e3:zc2 (.int hi) 1 ((kids.map PyData.int).length:Nat)=true:=by
  show(decide (1≤hi)&&decide (hi≤((kids.map PyData.int).length:Nat)))=true
  rw[List.length_map,decide_eq_true h0,decide_eq_true h1]
  rfl
 have e4:zc2 (.int lo) 0 hi=true:=by
  show(decide (0≤lo)&&decide (lo≤hi))=true
  rw[decide_eq_true l0,decide_eq_true l1]
  rfl
 rw[e1,e2,r,e3,e4]
 rfl
theorem zqr(kids:List Int):(kids.map PyData.int).all (zbs 1)=true:=by
 rw[List.all_eq_true]
 intro x hx
 obtain⟨i,_,rfl⟩:=List.mem_map.mp hx
 rfl
theorem zut(u lo hi:Int)(kids:List Int)(h:kids.length≤1000):zbs 3 (zrt u lo hi kids)=true:=by
 show(true&&(true&&(true&&(true&&((decide ((kids.map PyData.int).length≤1000)&&(kids.map PyData.int).all (zbs 1))&&true)))))=true
 rw[zqr,List.length_map,decide_eq_true h]
 rfl
theorem zu3(u lo hi:Int)(kids:List Int):zkv (zrt u lo hi kids)=kids:=by
 show(kids.map PyData.int).map toI=kids
 rw[List.map_map]
 have:(toI∘PyData.int)=id:=rfl
 rw[this,List.map_id]
end Ow
namespace Wd
inductive Tie where
 |bough (u:Nat) (lo hi:Int) (ks:List Nat)
 |needs (a b:Nat)
 |bans (a b:Nat)
 |most (top:Int) (ps:List (Nat×Int))
def cnt(ks:List Nat)(s:Nat):Nat:=(ks.filter fun k=>s.testBit k).length
def zik(ps:List (Nat×Int))(f:Nat×Int→Bool):Int:=((ps.filter f).map (·.2)).sum
def Tie.keep:Tie→Nat→Bool
 |.bough u lo hi ks,s=>if s.testBit u=true then decide (lo≤(cnt ks s:Int))&&decide ((cnt ks s:Int)≤hi) else decide (cnt ks s=0)
 |.needs a b,s=>!s.testBit a||s.testBit b
 |.bans a b,s=>!s.testBit a||!s.testBit b
 |.most top ps,s=>decide (zik ps (fun p=>s.testBit p.1)≤top)
structure Tie.BoughOkW(m u:Nat)(lo hi:Int)(ks:List Nat):Prop where
 um:u<m
 ks0:ks≠[]
 up:∀k∈ks,u<k∧k<m
 ris:ks.Pairwise (·<·)
 few:ks.length≤m
 lo0:0≤lo
 lohi:lo≤hi
structure Tie.BoughOk(m u:Nat)(lo hi:Int)(ks:List Nat):Prop extends Tie.BoughOkW m u lo hi ks where
 hi1:1≤hi
 hik:hi≤ks.length
theorem Tie.BoughOkW.nd{m u:Nat}{lo hi:Int}{ks:List Nat}(h:Tie.BoughOkW m u lo hi ks):ks.Nodup:=h.ris.imp fun a=>Nat.ne_of_lt a
def Tie.Ok(m:Nat):Tie→Prop
 |.bough u lo hi ks=>Tie.BoughOkW m u lo hi ks
 |.needs a b=>a<m∧b<m∧a≠b
 |.bans a b=>a<m∧b<m∧a≠b
 |.most _ ps=>ps≠[]∧(∀p∈ps,p.1<m)∧(ps.map (·.1)).Pairwise (·<·)∧ps.length≤m
def InS(y n s:Nat):Prop:=(∀k,y.testBit k=true→s.testBit k=true)∧∀k,n.testBit k=true→s.testBit k=false
def zeb(ps:List (Nat×Int))(y n:Nat):Int:=zik ps fun p=>y.testBit p.1||(decide (p.2<0)&&!n.testBit p.1)
def Tie.sb:Tie→Nat→Nat→Bool
 |.needs a b,y,n=>y.testBit a&&n.testBit b
 |.bans a b,y,n=>y.testBit a&&y.testBit b
 |.most top ps,y,n=>decide (top<zeb ps y n)
 |.bough u lo hi ks,y,n=>!(!n.testBit u&&(decide ((cnt ks y:Int)≤hi)&&decide (lo≤(ks.length:Int)-cnt ks n)))&&!(!y.testBit u&&decide (cnt ks y=0))
theorem zwh{u:Nat}{lo hi:Int}{ks:List Nat}{s:Nat}(h:s.testBit u=true):(Tie.bough u lo hi ks).keep s=(decide (lo≤(cnt ks s:Int))&&decide ((cnt ks s:Int)≤hi)):=by
 simp only[Tie.keep,h,if_true]
theorem zvh{u:Nat}{lo hi:Int}{ks:List Nat}{s:Nat}(h:¬s.testBit u=true):(Tie.bough u lo hi ks).keep s=decide (cnt ks s=0):=by
 simp only[Tie.keep,if_neg h]
theorem zmf(p:Nat×Int)(r:List (Nat×Int))(f:Nat×Int→Bool):zik (p::r) f=(if f p=true then p.2 else 0)+zik r f:=by
 unfold zik
 by_cases h:f p=true
 ·rw[List.filter_cons_of_pos h,if_pos h];simp
 ·rw[List.filter_cons_of_neg h,if_neg h];simp
theorem zq2{f g:Nat×Int→Bool}:∀{ps:List (Nat×Int)},(∀p∈ps,(if f p=true then p.2 else 0)≤(if g p=true then p.2 else 0))→zik ps f≤zik ps g
 |[],_=>Int.le_refl _
 |p::r,h=>by
  rw[zmf,zmf]
  have h1:=h p List.mem_cons_self
  have h2:=zq2 (ps:=r) fun q hq=>h q (List.mem_cons_of_mem _ hq)
  omega
theorem zq1{f g:Nat×Int→Bool}{ps:List (Nat×Int)}(h:∀p∈ps,f p=g p):zik ps f=zik ps g:=by
 unfold zik
 rw[List.filter_congr h]
theorem zcg(k:Nat)(r:List Nat)(s:Nat):cnt (k::r) s=(if s.testBit k=true then 1 else 0)+cnt r s:=by
 unfold cnt
 by_cases h:s.testBit k=true
 ·rw[List.filter_cons_of_pos (p:=fun k=>s.testBit k) h,if_pos h,List.length_cons];omega
 ·rw[List.filter_cons_of_neg (p:=fun k=>s.testBit k) h,if_neg h];omega
theorem zgm{ks:List Nat}{s t:Nat}(h:∀k∈ks,s.testBit k=t.testBit k):cnt ks s=cnt ks t:=by
 unfold cnt
 rw[List.filter_congr h]
theorem zpa{s t:Nat}:∀{ks:List Nat},(∀k∈ks,s.testBit k=true→t.testBit k=true)→cnt ks s≤cnt ks t
 |[],_=>Nat.le_refl _
 |k::r,h=>by
  rw[zcg,zcg]
  have h2:=zpa (ks:=r) fun q hq=>h q (List.mem_cons_of_mem _ hq)
  have h1:=h k List.mem_cons_self
  by_cases c:s.testBit k=true
  ·rw[if_pos c,if_pos (h1 c)];omega
  ·rw[if_neg c];omega
theorem zjg{s n:Nat}:∀{ks:List Nat},(∀k∈ks,n.testBit k=true→s.testBit k=false)→cnt ks s+cnt ks n≤ks.length
 |[],_=>Nat.le_refl _
 |k::r,h=>by
  rw[zcg,zcg,List.length_cons]
  have h2:=zjg (ks:=r) fun q hq=>h q (List.mem_cons_of_mem _ hq)
  have h1:=h k List.mem_cons_self
  by_cases c:n.testBit k=true
  ·rw[h1 c,if_pos c];simp;omega
  ·rw[if_neg c];split<;>omega
def zdk:List Nat→Nat
 |[]=>0
 |k::r=>zdk r|||2^k
theorem zim(j:Nat):∀l:List Nat,(zdk l).testBit j=decide (j∈l)
 |[]=>by simp[zdk]
 |k::r=>by
  rw[zdk,Nat.testBit_or,zim j r,Nat.testBit_two_pow]
  by_cases h:k=j
  ·subst h;simp
  ·have h':j≠k:=fun z=>h z.symm
   simp[h,h']
theorem zsp{ps:List (Nat×Int)}(h:(ps.map (·.1)).Nodup){p q:Nat×Int}(hp:p∈ps)(hq:q∈ps)(e:p.1=q.1):p=q:=by
 induction ps with
 |nil=>cases hp
 |cons x r ih=>
  rw[List.map_cons,List.nodup_cons] at h
  rcases List.mem_cons.mp hp with e1|hp
  ·rcases List.mem_cons.mp hq with e2|hq
   ·rw[e1,e2]
   ·exact absurd (show x.1∈r.map (·.1) from List.mem_map.mpr ⟨q,hq,by rw[←e1,e]⟩) h.1
  ·rcases List.mem_cons.mp hq with e2|hq
   ·exact absurd (show x.1∈r.map (·.1) from List.mem_map.mpr ⟨p,hp,by rw[←e2,e]⟩) h.1
   ·exact ih h.2 hp hq
theorem zqb{m:Nat}{t:Tie}(ok:t.Ok m){s s':Nat}(h:∀k,k<m→s.testBit k=s'.testBit k):t.keep s=t.keep s':=by
 cases t with
 |bough u lo hi ks=>
  have e:cnt ks s=cnt ks s':=zgm fun k hk=>h k (ok.up k hk).2
  simp only[Tie.keep]
  rw[e,h u ok.um]
 |needs a b=>simp only[Tie.keep];rw[h a ok.1,h b ok.2.1]
 |bans a b=>simp only[Tie.keep];rw[h a ok.1,h b ok.2.1]
 |most top ps=>
  simp only[Tie.keep]
  rw[zq1 fun p hp=>h p.1 (ok.2.1 p hp)]
theorem zks{y n:Nat}{l:List Nat}(d:∀k,y.testBit k=true→n.testBit k=false)(h:∀k∈l,n.testBit k=false):InS y n (y|||zdk l):=by
 refine⟨fun k hk=>?_,fun k hk=>?_⟩
 ·rw[Nat.testBit_or,hk,Bool.true_or]
 ·rw[Nat.testBit_or,zim]
  have h1:y.testBit k=false:=by
   cases e:y.testBit k with
   |false=>rfl
   |true=>rw[d k e] at hk;cases hk
  have h2:¬k∈l:=fun z=>by rw[h k z] at hk;cases hk
  rw[h1,decide_eq_false h2];rfl
theorem zcj(y:Nat)(l:List Nat)(k:Nat):(y|||zdk l).testBit k=(y.testBit k||decide (k∈l)):=by
 rw[Nat.testBit_or,zim]
theorem zhv{y:Nat}:∀{ks:List Nat},ks.Nodup→∀c:Nat,cnt ks y≤c→∀n:Nat,(∀k,y.testBit k=true→n.testBit k=false)→c+cnt ks n≤ks.length →
  ∃l:List Nat,(∀k∈l,k∈ks∧n.testBit k=false)∧cnt ks (y|||zdk l)=c
 |[],_,c,h1,n,_,h2=>⟨[],(fun _ z=>nomatch z),by simp[cnt] at h2 ⊢;omega⟩
 |k::r,nd,c,h1,n,d,h2=>by
  obtain⟨nk,nr⟩:=List.nodup_cons.mp nd
  rw[zcg] at h1 h2
  rw[List.length_cons] at h2
  by_cases hy:y.testBit k=true
  ·rw[if_pos hy] at h1
   have hn:=d k hy
   rw[hn] at h2
   obtain⟨l,hl,e⟩:=zhv nr (c-1) (by omega) n d (by simp at h2;omega)
   refine⟨l,fun j hj=>⟨List.mem_cons_of_mem _ (hl j hj).1,(hl j hj).2⟩,?_⟩
   rw[zcg,e,zcj,hy,Bool.true_or,if_pos rfl]
   omega
  ·rw[if_neg hy] at h1
   by_cases hn:n.testBit k=true
   ·rw[if_pos hn] at h2
    obtain⟨l,hl,e⟩:=zhv nr c (by omega) n d (by omega)
    refine⟨l,fun j hj=>⟨List.mem_cons_of_mem _ (hl j hj).1,(hl j hj).2⟩,?_⟩
    have:¬k∈l:=fun z=>nk (hl k z).1
    rw[zcg,e,zcj,Bool.eq_false_iff.mpr hy,decide_eq_false this]
    simp
   ·rw[if_neg hn] at h2
    by_cases full:c+cnt r n≤r.length
    ·obtain⟨l,hl,e⟩:=zhv nr c (by omega) n d full
     refine⟨l,fun j hj=>⟨List.mem_cons_of_mem _ (hl j hj).1,(hl j hj).2⟩,?_⟩
     have:¬k∈l:=fun z=>nk (hl k z).1
     rw[zcg,e,zcj,Bool.eq_false_iff.mpr hy,decide_eq_false this]
     simp
    ·have hc:cnt r y+cnt r n≤r.length:=zjg fun j _ hj=>by
      cases e:y.testBit j with
      |false=>rfl
      |true=>rw[d j e] at hj;cases hj
     obtain⟨l,hl,e⟩:=zhv nr (c-1) (by omega) n d (by omega)
     refine⟨k::l,fun j hj=>?_,?_⟩
     ·rcases List.mem_cons.mp hj with rfl|z
      ·exact⟨List.mem_cons_self,Bool.eq_false_iff.mpr hn⟩
      ·exact⟨List.mem_cons_of_mem _ (hl j z).1,(hl j z).2⟩
     ·have e2:cnt r (y|||zdk (k::l))=cnt r (y|||zdk l):=zgm fun j hj=>by
       have:j≠k:=fun z=>nk (z▸hj)
       rw[zcj,zcj]
       simp[this]
      rw[zcg,e2,e,zcj,decide_eq_true List.mem_cons_self,Bool.or_true,if_pos rfl]
      omega
theorem zu6{m:Nat}{t:Tie}(ok:t.Ok m){y n:Nat}(d:∀k,y.testBit k=true→n.testBit k=false):t.sb y n=true↔∀s,InS y n s→t.keep s=false:=by
 have dn:∀k,n.testBit k=true→y.testBit k=false:=fun k hk=>by
  cases e:y.testBit k with
  |false=>rfl
  |true=>rw[d k e] at hk;cases hk
 cases t with
 |needs a b=>
  constructor
  ·intro h s hs
   have h':(y.testBit a&&n.testBit b)=true:=h
   rw[Bool.and_eq_true] at h'
   show(!s.testBit a||s.testBit b)=false
   rw[hs.1 a h'.1,hs.2 b h'.2];rfl
  ·intro h
   show(y.testBit a&&n.testBit b)=true
   cases e1:y.testBit a with
   |false=>
    have hh:=h y ⟨fun _ z=>z,dn⟩
    have h2:(!y.testBit a||y.testBit b)=false:=hh
    rw[e1] at h2;cases h2
   |true=>
    cases e2:n.testBit b with
    |true=>rfl
    |false=>
     have h2:(!(y|||zdk [b]).testBit a||(y|||zdk [b]).testBit b)=false:=h _ (zks d fun k hk=>by rw[List.mem_singleton.mp hk];exact e2)
     rw[zcj y [b] b,decide_eq_true (List.mem_singleton.mpr rfl),Bool.or_true,Bool.or_true] at h2
     cases h2
 |bans a b=>
  constructor
  ·intro h s hs
   have h':(y.testBit a&&y.testBit b)=true:=h
   rw[Bool.and_eq_true] at h'
   show(!s.testBit a||!s.testBit b)=false
   rw[hs.1 a h'.1,hs.1 b h'.2];rfl
  ·intro h
   have h2:(!y.testBit a||!y.testBit b)=false:=h y ⟨fun _ z=>z,dn⟩
   show(y.testBit a&&y.testBit b)=true
   cases e1:y.testBit a<;>cases e2:y.testBit b<;>rw[e1,e2] at h2<;>simp_all
 |most top ps=>
  constructor
  ·intro h s hs
   have h':top<zeb ps y n:=of_decide_eq_true h
   refine decide_eq_false fun z=>?_
   have le:zeb ps y n≤zik ps (fun p=>s.testBit p.1):=zq2 fun p _=>by
    cases e1:y.testBit p.1 with
    |true=>rw[hs.1 _ e1];simp
    |false=>
     cases e2:n.testBit p.1 with
     |true=>rw[hs.2 _ e2];simp
     |false=>
      by_cases c:p.2<0
      ·simp[c];split<;>omega
      ·simp[c];split<;>omega
   omega
  ·intro h
   refine decide_eq_true ?_
   let l:=(ps.filter fun p=>decide (p.2<0)&&!n.testBit p.1).map (·.1)
   have hl:∀k∈l,n.testBit k=false:=fun k hk=>by
    obtain⟨p,hp,rfl⟩:=List.mem_map.mp hk
    have:=(List.mem_filter.mp hp).2
    simp at this
    exact this.2
   have h2:decide (zik ps (fun p=>(y|||zdk l).testBit p.1)≤top)=false:=h _ (zks d hl)
   have e:zik ps (fun p=>(y|||zdk l).testBit p.1)=zeb ps y n:=zq1 fun p hp=>by
    show(y|||zdk l).testBit p.1=(y.testBit p.1||(decide (p.2<0)&&!n.testBit p.1))
    rw[zcj]
    congr 1
    by_cases c:(decide (p.2<0)&&!n.testBit p.1)=true
    ·rw[c]
     exact decide_eq_true (List.mem_map.mpr ⟨p,List.mem_filter.mpr ⟨hp,c⟩,rfl⟩)
    ·rw[Bool.eq_false_iff.mpr c]
     refine decide_eq_false fun z=>?_
     obtain⟨q,hq,e⟩:=List.mem_map.mp z
     have aa:=List.mem_filter.mp hq
     have:q=p:=zsp (ok.2.2.1.imp fun a=>Nat.ne_of_lt a) aa.1 hp e
     rw[this] at aa
     exact c aa.2
   rw[e] at h2
   have:=of_decide_eq_false h2
   omega
 |bough u lo hi ks=>
  have c2:cnt ks y+cnt ks n≤ks.length:=zjg fun j _ hj=>dn j hj
  have uk:¬u∈ks:=fun z=>Nat.lt_irrefl _ (ok.up u z).1
  constructor
  ·intro h s hs
   have h':(!(!n.testBit u&&(decide ((cnt ks y:Int)≤hi)&&decide (lo≤(ks.length:Int)-cnt ks n)))&&!(!y.testBit u&&decide (cnt ks y=0)))=true:=h
   have g1:cnt ks y≤cnt ks s:=zpa fun k _ hk=>hs.1 k hk
   have g2:cnt ks s+cnt ks n≤ks.length:=zjg fun k _ hk=>hs.2 k hk
   show(if s.testBit u=true then decide (lo≤(cnt ks s:Int))&&decide ((cnt ks s:Int)≤hi) else decide (cnt ks s=0))=false
   rw[Bool.and_eq_true] at h'
   by_cases su:s.testBit u=true
   ·rw[if_pos su]
    have nu:n.testBit u=false:=by
     cases e:n.testBit u with
     |false=>rfl
     |true=>rw[hs.2 u e] at su;cases su
    have h1:=h'.1
    rw[nu] at h1
    simp at h1
    by_cases z:(cnt ks y:Int)≤hi
    ·rw[decide_eq_false (show ¬lo≤(cnt ks s:Int) by omega),Bool.false_and]
    ·rw[decide_eq_false (show ¬(cnt ks s:Int)≤hi by omega),Bool.and_false]
   ·rw[if_neg su]
    have yu:y.testBit u=false:=by
     cases e:y.testBit u with
     |false=>rfl
     |true=>exact absurd (hs.1 u e) su
    have h2:=h'.2
    rw[yu] at h2
    simp at h2
    exact decide_eq_false (by omega)
  ·intro h
   show(!(!n.testBit u&&(decide ((cnt ks y:Int)≤hi)&&decide (lo≤(ks.length:Int)-cnt ks n)))&&!(!y.testBit u&&decide (cnt ks y=0)))=true
   rw[Bool.and_eq_true]
   constructor
   ·cases e:(!n.testBit u&&(decide ((cnt ks y:Int)≤hi)&&decide (lo≤(ks.length:Int)-cnt ks n))) with
    |false=>rfl
    |true=>
     exfalso
     simp only[Bool.and_eq_true,decide_eq_true_eq,Bool.not_eq_true'] at e
     obtain⟨nu,e1,e2⟩:=e
     have af:=ok.lo0
     have ae:=ok.lohi
     obtain⟨l,hl,ec⟩:=zhv (Tie.BoughOkW.nd ok) (max (cnt ks y) lo.toNat) (Nat.le_max_left _ _) n d (by omega)
     have hk:=h (y|||zdk (u::l)) (zks d fun k hk=>by
      rcases List.mem_cons.mp hk with rfl|z
      ·exact nu
      ·exact(hl k z).2)
     have hb:(y|||zdk (u::l)).testBit u=true:=by rw[zcj,decide_eq_true List.mem_cons_self,Bool.or_true]
     have ad:cnt ks (y|||zdk (u::l))=max (cnt ks y) lo.toNat:=by
      rw[←ec]
      refine zgm fun j hj=>?_
      have:j≠u:=fun z=>uk (z▸hj)
      rw[zcj,zcj]
      simp[this]
     simp only[Tie.keep,hb,if_true,ad] at hk
     rw[decide_eq_true (by omega),decide_eq_true (by omega)] at hk
     cases hk
   ·cases e:(!y.testBit u&&decide (cnt ks y=0)) with
    |false=>rfl
    |true=>
     exfalso
     simp only[Bool.and_eq_true,decide_eq_true_eq,Bool.not_eq_true'] at e
     have hk:=h y ⟨fun _ z=>z,dn⟩
     simp[Tie.keep,e.1,e.2] at hk
end Wd
namespace Wd
open PySem L2
def zlv(p:Nat×Int):PyData:=.tuple [.int (p.1:Int),.int p.2]
def Tie.toD:Tie→PyData
 |.bough u lo hi ks=>.tuple [.int (u:Int),.int lo,.int hi,.tuple (ks.map fun k:Nat=>PyData.int (k:Int))]
 |.needs a b=>.tuple [.str ("needs" : Str),.int (a:Int),.int (b:Int)]
 |.bans a b=>.tuple [.str ("bans" : Str),.int (a:Int),.int (b:Int)]
 |.most top ps=>.tuple [.str ("most" : Str),.int top,.tuple (ps.map zlv)]
theorem zf0{m:Nat}:∀{ks:List PyData} {last:Int},-1≤last→last<m→zbk m ks last=true →
  ∃ns:List Nat,ks=ns.map (fun k:Nat=>PyData.int (k:Int))∧ns.Pairwise (·<·)∧(∀k∈ns,last<(k:Int)∧k<m)∧(ns.length:Int)+last+1≤m
 |[],last,h0,h1,_=>⟨[],rfl,List.Pairwise.nil,(fun _ z=>nomatch z),by simp;omega⟩
 |.int i::ks,last,h0,h1,h=>by
  have z:(decide (last+1≤i)&&decide (i≤(m:Int)-1)&&zbk m ks i)=true:=h
  simp only[Bool.and_eq_true,decide_eq_true_eq] at z
  obtain⟨ns,e,pw,ab,ln⟩:=zf0 (by omega) (by omega) z.2
  obtain⟨j,rfl⟩:∃j:Nat,i=(j:Int):=⟨i.toNat,by omega⟩
  refine⟨j::ns,by rw[e];rfl,List.Pairwise.cons (fun k hk=>?_) pw,fun k hk=>?_,?_⟩
  ·have:=(ab k hk).1;omega
  ·rcases List.mem_cons.mp hk with rfl|hk
   ·omega
   ·have:=ab k hk;omega
  ·rw[List.length_cons];omega
 |.none::_,_,_,_,h=>by cases h
 |.bool _::_,_,_,_,h=>by cases h
 |.str _::_,_,_,_,h=>by cases h
 |.list _::_,_,_,_,h=>by cases h
 |.tuple _::_,_,_,_,h=>by cases h
 |.dict _::_,_,_,_,h=>by cases h
theorem zhu{m:Nat}{d:PyData}(h:ze9 m d=true):∃u lo hi ks,d=(Tie.bough u lo hi ks).toD∧Tie.BoughOk m u lo hi ks:=by
 unfold ze9 at h
 split at h
 next u l hd k=>
  simp only[Bool.and_eq_true] at h
  obtain⟨hu,hk,hr,hh,hl⟩:=h
  obtain⟨ui,rfl,u0,u1⟩:=zea hu
  obtain⟨kd,rfl,k0⟩:=zo8 hk
  obtain⟨hi,rfl,h0,h1⟩:=zea (show zc2 hd 1 kd.length=true from hh)
  obtain⟨lo,rfl,l0,l1⟩:=zea (show zc2 l 0 hi=true from hl)
  obtain⟨un,rfl⟩:∃j:Nat,ui=(j:Int):=⟨ui.toNat,by omega⟩
  obtain⟨ns,rfl,pw,ab,ln⟩:=zf0 (by omega) (by omega) (show zbk m kd un=true from hr)
  rw[List.length_map] at k0 h1
  exact⟨un,lo,hi,ns,rfl,⟨⟨by omega,fun z=>by rw[z] at k0;simp at k0,fun k hk=>by have:=ab k hk;omega,pw,by omega,l0,l1⟩,h0,h1⟩⟩
 next=>cases h
theorem zkr{m:Nat}:∀{ds:List PyData} {ns:List Nat},ds.all zga=true→ds.map zqa=ns.map (fun k:Nat=>PyData.int (k:Int))→∃ps:List (Nat×Int),ds=ps.map zlv∧ps.map (·.1)=ns
 |[],[],_,_=>⟨[],rfl,rfl⟩
 |[],_::_,_,e=>by cases e
 |_::_,[],_,e=>by cases e
 |d::ds,n::ns,h,e=>by
  rw[List.all_cons,Bool.and_eq_true] at h
  rw[List.map_cons,List.map_cons] at e
  injection e with e1 e2
  obtain⟨ps,rfl,rfl⟩:=zkr (m:=m) h.2 e2
  have h1:=h.1
  unfold zga at h1
  split at h1
  next x y=>
   obtain⟨i,rfl⟩:=zm8 h1
   refine⟨(n,i)::ps,?_,rfl⟩
   have e3:x=PyData.int (n:Int):=e1
   rw[e3]
   rfl
  next=>cases h1
theorem znu{m:Nat}{d:PyData}(h:zi3 m d=true):∃t:Tie,d=t.toD∧t.Ok m∧∀u lo hi ks,t≠.bough u lo hi ks:=by
 unfold zi3 at h
 split at h
 next k x y=>
  unfold zya at h
  split at h
  next s=>
   unfold zry at h
   split at h
   next hs=>
    rw[Bool.and_eq_true] at h
    obtain⟨top,rfl⟩:=zm8 h.1
    have h2:=h.2
    unfold zn3 at h2
    split at h2
    next ds=>
     simp only[Bool.and_eq_true,decide_eq_true_eq] at h2
     obtain⟨⟨d0,dp⟩,dr⟩:=h2
     obtain⟨ns,e,pw,ab,ln⟩:=zf0 (by omega) (by omega) dr
     obtain⟨ps,rfl,rfl⟩:=zkr (m:=m) dp e
     rw[List.length_map] at d0 ln
     refine⟨.most top ps,by rw[hs];rfl,⟨fun z=>by rw[z] at d0;simp at d0,fun p hp=>(ab p.1 (List.mem_map.mpr ⟨p,hp,rfl⟩)).2,pw,by omega⟩,by intro _ _ _ _ z;cases z⟩
    next=>cases h2
   next hs=>
    split at h
    next hn=>
     simp only[Bool.and_eq_true] at h
     obtain⟨ha,hb,aa⟩:=h
     obtain⟨a,rfl,a0,a1⟩:=zea ha
     obtain⟨b,rfl,b0,b1⟩:=zea hb
     have ne:¬a=b:=by
      have z:(!decide (a=b))=true:=aa
      simpa using z
     obtain⟨an,rfl⟩:∃j:Nat,a=(j:Int):=⟨a.toNat,by omega⟩
     obtain⟨bn,rfl⟩:∃j:Nat,b=(j:Int):=⟨b.toNat,by omega⟩
     rcases hn with rfl|rfl
     ·exact⟨.needs an bn,rfl,⟨by omega,by omega,by omega⟩,by intro _ _ _ _ z;cases z⟩
     ·exact⟨.bans an bn,rfl,⟨by omega,by omega,by omega⟩,by intro _ _ _ _ z;cases z⟩
    next=>cases h
  next=>cases h
 next=>cases h
theorem zy2(ks:List Nat):(ks.map fun k:Nat=>PyData.int (k:Int))=(ks.map fun k:Nat=>(k:Int)).map PyData.int:=by rw[List.map_map];rfl
theorem zmc(ks:List Nat):(ks.map fun k:Nat=>(k:Int)).map V.int=ks.map fun k:Nat=>V.int (k:Int):=by rw[List.map_map];rfl
theorem zk5{H:Hp}{u:Nat}{lo hi:Int}{ks:List Nat}{v:V}(h:Dn H (Tie.bough u lo hi ks).toD v):∃p pk,v=.ref p∧H p=some (.tup [.int (u:Int),.int lo,.int hi,.ref pk])∧H pk=some (.tup (ks.map fun k:Nat=>V.int (k:Int))):=by
 obtain⟨p,xs,rfl,hp,xu,r1,rfl,hu,xl,r2,rfl,af,xh,r3,rfl,hh,xk,r4,rfl,hk,aa⟩:=zhi h
 cases(show r4=[] from aa)
 cases zem hu
 cases zem af
 cases zem hh
 obtain⟨pk,ys,rfl,ae,ad⟩:=zhi hk
 rw[zy2] at ad
 rw[zpm ad,zmc] at ae
 exact⟨p,pk,rfl,hp,ae⟩
theorem zjd{H:Hp}{w:Str}{a b:Int}{v:V}(h:Dn H (.tuple [.str w,.int a,.int b]) v):∃p,v=.ref p∧H p=some (.tup [.str w,.int a,.int b]):=by
 obtain⟨p,xs,rfl,hp,xu,r1,rfl,hu,xl,r2,rfl,ad,xh,r3,rfl,hh,aa⟩:=zhi h
 cases(show r3=[] from aa)
 cases(show xu=.str w from hu)
 cases zem ad
 cases zem hh
 exact⟨p,rfl,hp⟩
theorem zrg{H:Hp}{top:Int}{ps:List (Nat×Int)}{v:V}(h:Dn H (Tie.most top ps).toD v):∃p q xs,v=.ref p∧H p=some (.tup [.str ("most" : Str),.int top,.ref q])∧H q=some (.tup xs)∧DnL H (ps.map zlv) xs:=by
 obtain⟨p,xs,rfl,hp,xu,r1,rfl,hu,xl,r2,rfl,ae,xh,r3,rfl,hh,aa⟩:=zhi h
 cases(show r3=[] from aa)
 cases(show xu=.str ("most" : Str) from hu)
 cases zem ae
 obtain⟨q,ys,rfl,hq,ad⟩:=zhi hh
 exact⟨p,q,ys,rfl,hp,hq,ad⟩
theorem zq0{H:Hp}{ps:List (Nat×Int)}{xs:List V}(h:DnL H (ps.map zlv) xs){i:Nat}{x:V}(hx:xs[i]?=some x):∃p r,ps[i]?=some p∧x=.ref r∧H r=some (.tup [.int (p.1:Int),.int p.2]):=by
 obtain⟨d,hd,ad⟩:=h.get hx
 rw[List.getElem?_map] at hd
 obtain⟨p,hp,rfl⟩:=Option.map_eq_some_iff.mp hd
 obtain⟨r,ys,rfl,hr,xa,r1,rfl,ha,xb,r2,rfl,hb,aa⟩:=zhi (show Dn H (.tuple [.int (p.1:Int),.int p.2]) x from ad)
 cases(show r2=[] from aa)
 cases zem ha
 cases zem hb
 exact⟨p,r,hp,rfl,hr⟩
def zpt(n k:Int):Bool:=decide (0≤k)&&decide (n/2^k.toNat%2=1)
theorem zci(s u:Nat):zpt (s:Int) (u:Int)=s.testBit u:=by
 unfold zpt
 rw[decide_eq_true (by omega),Bool.true_and,Nat.testBit_eq_decide_div_mod_eq,Int.toNat_natCast]
 have e:((s:Int)/2^u%2=1)↔(s/2^u%2=1):=by
  have e3:(2:Int)^u=((2^u:Nat):Int):=by rw[Int.natCast_pow];rfl
  rw[e3]
  omega
 by_cases z:s/2^u%2=1
 ·rw[decide_eq_true z,decide_eq_true (e.mpr z)]
 ·rw[decide_eq_false z,decide_eq_false (fun y=>z (e.mp y))]
theorem zyq(n:Int)(k:Nat):Builtin.bitAnd (n/2^k) 1=n/2^k%2:=PySem.W.kbt_mask (n/2^k) 1
theorem zjh(s k:Nat):Builtin.bitAnd ((s:Int)/2^((k:Nat):Int).toNat) 1=if s.testBit k=true then 1 else 0:=by
 rw[zyq,Int.toNat_natCast,Nat.testBit_eq_decide_div_mod_eq]
 have e3:(2:Int)^k=((2^k:Nat):Int):=by rw[Int.natCast_pow];rfl
 rw[e3]
 by_cases z:s/2^k%2=1
 ·rw[decide_eq_true z,if_pos rfl]
  omega
 ·rw[decide_eq_false z,if_neg (by decide)]
  omega
theorem zf6(s k:Nat):decide (V.int (Builtin.bitAnd ((s:Int)/2^((k:Nat):Int).toNat) 1)=V.int 1)=s.testBit k:=by
 rw[zjh]
 cases s.testBit k<;>rfl
end Wd
namespace L2
open PySem PySem.Spec PyProof.Rows
theorem zvv{X:Cx}{st:List Stmt}{t:TS}(h:PSs X st t):∃t',PSs X st t'∧∀D σ H,t D σ H→t' D σ H:=⟨t,h,fun _ _ _ x=>x⟩
section
variable {X : Cx} {o e : Expr} {es : List Expr} {to : TE} {t : TA} {name : Str} {apos cpos : Pos} {T id : String} {r : V → List V → Hp → VK → Prop}
theorem zes{K:PySem.W.Frag}(pa:PlainAttrs T)(slot:Slot T name id)(hty:typeOf (.builtin id)=pure (.type "method_descriptor"))(hm:MtR X id r)(ho:PE X o to)(ha:PA X (e::es) t)(hK:X.K=K:=by rfl)
  (hbase:attributeBase o name X.env (eval o X.env)=eval o X.env:=by rfl)
  (hfew:((backTo cpos (starEach (e::es) X.env)).all (fun x=>!x.1)&&(backToKw cpos (keywordEach [] X.env)).all (fun x=>x.1.isSome)&&decide ((e::es).length+([]:List Keyword).length+(if ([]:List Keyword).isEmpty then 0 else 1)<30))=true:=by rfl)
  (hline:(apos.endLine==cpos.line)=true:=by rfl) (hs:starEach (e::es) X.env=(false,eval e X.env)::starEach es X.env:=by rfl) (hplain:(backTo cpos (starEach es X.env)).any (·.1)=false:=by rfl):
  PE X (.Call (.Attribute o name apos) (e::es) [] cpos) (tBM K T r to t):=hK▸zyi pa slot hty hm ho ha hbase hfew hline hs hplain
end
theorem Room.lv{A:Around}{j k:Nat}(hr:Room k A)(h:j≤k:=by first|decide|omega):Room j A:=hr.mono h
structure Df(K:PySem.W.Frag)(mg:Str→Option Value)(x:Str)(st:Stmt)(f:Addr)(fd:FuncData)(ps:List Str):Prop extends Fun K x x st f fd where
 g:mg x=some (.ref f)
 B:Binds K fd ps []
structure Dm(K:PySem.W.Frag)(x q:Str)(st:Stmt)(f:Addr)(fd:FuncData)(ps:List Str):Prop extends Fun K x q st f fd where
 B:Binds K fd ps []
theorem zag{X:Cx}{k:Nat}{f:Addr}{fd:FuncData}{ps:List Str}{sp:Sp}{x:Str}{p pos:Pos}{e:Expr}{es:List Expr}{t:TA}{st:Stmt}(F:FnOk X.prog X.w X.K X.mg X.base CX0 k f fd ps sp)(hr:Room k X.A)(hg:Gl X x)(D:Df X.K X.mg x st f fd ps)
  (ha:PA X (e::es) t) (hdb:(x==("__debug__" : Str))=false:=by decide) (he:starEach (e::es) X.env=(false,eval e X.env)::starEach es X.env:=by rfl) (hpl:(backTo pos (starEach es X.env)).any (·.1)=false:=by rfl):
  PE X (.Call (.Name x p) (e::es) [] pos) (zww sp [] E0 t):=zq4 F hr hg D.g D.kp D.B .nil zc1 ha hdb he hpl
theorem scm{N P:List Str}{sc:Scope}(a:sc.kind=.function)(b:sc.isCoroutine=false)(c:sc.isGenerator=false)(e:N.take P.length=P)(h:(decide N.Nodup&&(decide (∀x∈P,sc.names.lookup x=some .local∨sc.names.lookup x=some .cell)&&decide (∀y∈sc.names,y.2≠.free)))=true):zay N P sc:=by
 rw[Bool.and_eq_true,Bool.and_eq_true] at h
 exact⟨a,b,c,of_decide_eq_true h.1,e,of_decide_eq_true h.2.1,of_decide_eq_true h.2.2⟩
def Dk(K:PySem.W.Frag)(x:Str)(st:Stmt)(f:Addr)(fd:FuncData):Prop:=PySem.W.nsIn K mainGlobals x=some (some (.ref f))∧Fun K x x st f fd
def Dq(K:PySem.W.Frag)(C:Addr)(x q:Str)(st:Stmt)(f:Addr)(fd:FuncData):Prop:=PySem.W.findIn K (.ref C) x=some (some (.ref f))∧PySem.W.isFn K (.ref f)=true∧Fun K x q st f fd
section
variable {K : PySem.W.Frag} {x q : Str} {st : Stmt} {f C : Addr} {oc : Value} {od an : Option Addr} {osl : Array (Option Value)} {kV doc pm cdv ct : Value}
theorem dk(a:PySem.W.nsIn K mainGlobals x=some (some (.ref f)))(l:K.lookup f=some ⟨oc,od,.func (PySem.W.fnOf x x (zdy st) (zba st) (zah st) .none kV doc pm an cdv ct),osl⟩)(c:PySem.W.codeIn K cdv x=true)(k:PySem.W.keepIn K (.ref f)=true):
  Dk K x st f (PySem.W.fnOf x x (zdy st) (zba st) (zah st) .none kV doc pm an cdv ct):=⟨a,zt5 l c k⟩
theorem dq(a:PySem.W.findIn K (.ref C) x=some (some (.ref f)))(l:K.lookup f=some ⟨oc,od,.func (PySem.W.fnOf x q (zdy st) (zba st) (zah st) .none kV doc pm an cdv ct),osl⟩)(c:PySem.W.codeIn K cdv q=true)(k:PySem.W.keepIn K (.ref f)=true)(i:PySem.W.isFn K (.ref f)=true):
  Dq K C x q st f (PySem.W.fnOf x q (zdy st) (zba st) (zah st) .none kV doc pm an cdv ct):=⟨a,i,zt5 l c k⟩
abbrev Bd(x q:Str)(st:Stmt)(us:List Value)(ps:List Str):Prop:=∀(kV doc pm:Value)(an:Option Addr)(cdv ct:Value),bindArgs (PySem.W.fnOf x q (zdy st) (zba st) (zah st) .none kV doc pm an cdv ct) ⟨us,[]⟩=pure (ps.zip us)
theorem Dk.df{h:Heap}{mg:Str→Option Value}{fd:FuncData}{ps:List Str}(X:K.In h)(G:h.Ns mainGlobals mg)(D:Dk K x st f fd)(b:∀us,us.length=ps.length→Bd x x st us ps):Df K mg x st f fd ps:=
 ⟨D.2,PySem.W.mg_of X G D.1,D.2.binds fun kV doc pm an cdv ct us hl=>b us hl kV doc pm an cdv ct⟩
theorem Dq.dm{fd:FuncData}{ps:List Str}(D:Dq K C x q st f fd)(b:∀us,us.length=ps.length→Bd x q st us ps):Dm K x q st f fd ps:=⟨D.2.2,D.2.2.binds fun kV doc pm an cdv ct us hl=>b us hl kV doc pm an cdv ct⟩
theorem bd1{p:List Str}(h:∀a,Bd x q st [a] p):∀us:List Value,us.length=1→Bd x q st us p|[a],_=>h a
theorem bd2{p:List Str}(h:∀a b,Bd x q st [a,b] p):∀us:List Value,us.length=2→Bd x q st us p|[a,b],_=>h a b
theorem bd3{p:List Str}(h:∀a b c,Bd x q st [a,b,c] p):∀us:List Value,us.length=3→Bd x q st us p|[a,b,c],_=>h a b c
theorem bd4{p:List Str}(h:∀a b c d,Bd x q st [a,b,c,d] p):∀us:List Value,us.length=4→Bd x q st us p|[a,b,c,d],_=>h a b c d
theorem bd5{p:List Str}(h:∀a b c d e,Bd x q st [a,b,c,d,e] p):∀us:List Value,us.length=5→Bd x q st us p|[a,b,c,d,e],_=>h a b c d e
theorem zyy{fd:FuncData}{y:Str}(F:Fun K x q st f fd)(h:∀v,Bd x q st [v] [y])(s:Shared)(v:Value):BindsTo s fd ⟨[v],[]⟩ [(y,v)]:=by
 obtain⟨oc,od,kV,doc,pm,an,cdv,ct,osl,rfl,lk,aa⟩:=F.ex
 exact .of_eq (h v kV doc pm an cdv ct)
end
section
variable {X : Cx}
theorem pgT{K:PySem.W.Frag}{pos:Pos}{es:List Expr}{k:Nat}{t:TGs}{n:Nat}(hc:X.calm=true)(h:PGs X es t)(hn:(assignEach es X.env).length=n:=by rfl)(hst:(assignEach es X.env).findIdx? (·.1)=none:=by rfl)(hK:X.K=K:=by rfl):PG X (.Tuple es k pos) (zyb K n t):=hK▸zw7 hc h hn hst
theorem zr3:zef X (.type "range") (fun xs H Q=>∃j:Int,xs=[.int j]∧∀p,H p=none→Q (.ref p) (upd H p (.rng 0 j))):=by
 intro pins s σ H xs us Q I r h
 obtain⟨j,rfl,q⟩:=h
 obtain⟨u,rfl,⟨t,rfl⟩⟩:=ze7 r
 refine call_range_1 ⟨.ref s.heap.objs.size,_,I.laid (fun b o e=>Heap.get?_push_of_some _ e) (Nat.le_refl _) (show ObjOk X.prog X.w _ _ _ (.rng 0 j) from⟨_,_,_,Heap.get?_push_size _ rfl⟩),rfl,q _ (I.hok.fresh (Nat.le_refl _))⟩
end
end L2
namespace Wd
open PySem L2
def zv9:Sp:=fun vs H Q _=>∃(t:Tie)(m n:Nat)(v:V),vs=[v,.int n]∧Dn H t.toD v∧t.Ok m∧m≤1000∧∀H',Same H H'→Q (.bl (t.keep n)) H'
def zrc(K:PySem.W.Frag):Sp:=fun vs H Q _=>∃(p:Addr)(ns:List Int),vs=[.ref p]∧SqL K H p (ns.map V.int)∧ns.length≤63∧∀H',Q (.bl true) H'
theorem zh1(k:Nat):decide (V.int (k:Int)=V.int 0)=decide (k=0):=by
 rw[zjk]
 by_cases z:k=0
 ·rw[z];rfl
 ·rw[decide_eq_false z]
  simpa using z
def zx3(f:Tie→Nat→Nat→Bool):Sp:=fun vs H Q _=>∃(t:Tie)(m y n:Nat)(v:V),vs=[v,.int y,.int n]∧Dn H t.toD v∧t.Ok m∧m≤1000∧∀H',Same H H'→Q (.bl (f t y n)) H'
def zvc(f:Tie→Nat→Nat→Bool):Sp:=fun vs H Q _=>∃(u:Nat)(lo hi:Int)(ks:List Nat)(m y n:Nat)(v:V),vs=[v,.int y,.int n]∧Dn H (Tie.bough u lo hi ks).toD v∧Tie.BoughOkW m u lo hi ks∧m≤1000∧∀H',Same H H'→Q (.bl (f (Tie.bough u lo hi ks) y n)) H'
def zwr(f:List (Nat×Int)→Nat→Nat→Int):Sp:=fun vs H Q _=>∃(q:Addr)(xs:List V)(ps:List (Nat×Int))(y n:Nat),vs=[.ref q,.int y,.int n]∧H q=some (.tup xs)∧DnL H (ps.map zlv) xs∧ps.length≤1000∧∀H',Same H H'→Q (.int (f ps y n)) H'
theorem zls{P:Tie→Prop}:∀{l:List PyData},(∀d∈l,∃t:Tie,d=t.toD∧P t)→∃ts:List Tie,l=ts.map Tie.toD∧∀t∈ts,P t
 |[],_=>⟨[],rfl,(fun _ z=>nomatch z)⟩
 |d::r,h=>by
  obtain⟨t,e,p⟩:=h d List.mem_cons_self
  obtain⟨ts,e2,p2⟩:=zls fun x hx=>h x (List.mem_cons_of_mem _ hx)
  refine⟨t::ts,by rw[e,e2];rfl,fun x hx=>?_⟩
  rcases List.mem_cons.mp hx with rfl|z
  ·exact p
  ·exact p2 x z
theorem zs7{m:Nat}{d:PyData}(h:ze9 m d=true):∃t:Tie,d=t.toD∧t.Ok m:=by
 obtain⟨u,lo,hi,ks,e,ok⟩:=zhu h
 exact⟨.bough u lo hi ks,e,ok.toBoughOkW⟩
theorem zsx{m:Nat}{d:PyData}(h:zi3 m d=true):∃t:Tie,d=t.toD∧t.Ok m:=by
 obtain⟨t,e,ok,_⟩:=znu h
 exact⟨t,e,ok⟩
theorem zxn{H:Hp}{ts:List Tie}{xs:List V}(h:DnL H (ts.map Tie.toD) xs){i:Nat}{x:V}(hx:xs[i]?=some x):∃t,ts[i]?=some t∧Dn H t.toD x:=by
 obtain⟨d,hd,q⟩:=h.get hx
 rw[List.getElem?_map] at hd
 obtain⟨t,ht,rfl⟩:=Option.map_eq_some_iff.mp hd
 exact⟨t,ht,q⟩
theorem zgw{c A B:Prop}[Decidable c](hc:c)(h:A):if decide c=true then A else B:=by
 rw[decide_eq_true hc]
 exact zkg h
theorem zb0{c A B:Prop}[Decidable c](hc:¬c)(h:B):if decide c=true then A else B:=by
 rw[decide_eq_false hc]
 exact zgb h
theorem zjw{c A B:Prop}[Decidable c](hc:¬c)(h:A):if (!decide c)=true then A else B:=by
 rw[decide_eq_false hc]
 exact zkg h
theorem zln{b:Bool}{A B:Prop}(hc:b=true)(h:A):if b=true then A else B:=by
 rw[if_pos hc];exact h
theorem zhw{b:Bool}{A B:Prop}(hc:b=false)(h:B):if b=true then A else B:=by
 rw[hc];exact zgb h
theorem ztc{x y:Str}(h:¬x=y):¬V.str x=V.str y:=fun z=>by injection z with z;exact h z
theorem zjz:¬V.str ("bans" : Str)=V.str ("needs" : Str):=ztc (by decide +kernel)
theorem zkw:¬V.str ("most" : Str)=V.str ("needs" : Str):=ztc (by decide +kernel)
theorem zma:¬V.str ("most" : Str)=V.str ("bans" : Str):=ztc (by decide +kernel)
theorem int_str{i:Int}{x:Str}:¬V.int i=V.str x:=fun z=>by cases z
end Wd
namespace Wd
open PySem L2 Ow
structure WoodT(H:Hp)(wd:Addr)(m:Nat)(ts:List Tie):Prop where
 ex:∃xs ys,WoodAt H wd m xs ys∧DnL H (ts.map Tie.toD) (xs++ys)
 ok:∀t∈ts,t.Ok m
 few:ts.length≤900
 m9:m≤900
theorem WoodAt.same{H H':Hp}{wd:Addr}{m:Int}{xs ys:List V}(s:Same H H')(h:WoodAt H wd m xs ys):WoodAt H' wd m xs ys:=by
 obtain⟨tb,tc,h1,h2,h3⟩:=h.ex
 exact⟨tb,tc,s _ _ h1,s _ _ h2,s _ _ h3⟩
theorem WoodT.same{H H':Hp}{wd:Addr}{m:Nat}{ts:List Tie}(s:Same H H')(h:WoodT H wd m ts):WoodT H' wd m ts:=by
 obtain⟨xs,ys,h1,h2⟩:=h.ex
 exact⟨⟨xs,ys,WoodAt.same s h1,DnL.same s _ _ h2⟩,h.ok,h.few,h.m9⟩
def zhx:Option Nat→V
 |none=>.non
 |some i=>.int (i:Int)
def zbh(ts:List Tie)(n:Nat):Bool:=n.testBit 0&&ts.all fun t=>t.keep n
theorem zt1(o:Option Nat):decide (zhx o=V.non)=decide (o=none):=by
 cases o<;>rfl
def zwc:Sp:=fun vs H Q _=>∃(wd:Addr)(m:Nat)(ts:List Tie),vs=[.ref wd]∧WoodT H wd m ts∧∀(l:Addr)(H':Hp),Same H H'→H l=none→H' l=some (.lst ((List.range ts.length).map fun i:Nat=>V.int (i:Int)))→Q (.ref l) H'
end Wd
namespace Wd
theorem zol:∀(k a b:Nat),(∀j,a.testBit j=true→b.testBit j=false)→(a+b).testBit k=(a.testBit k||b.testBit k)
 |k,a,b,h=>by
  have h0:=h 0
  rw[Nat.testBit_zero,Nat.testBit_zero] at h0
  have p:a%2+b%2≤1:=by
   by_cases z:a%2=1
   ·have:=h0 (decide_eq_true z)
    have:=of_decide_eq_false this
    omega
   ·omega
  cases k with
  |zero=>
   rw[Nat.testBit_zero,Nat.testBit_zero,Nat.testBit_zero]
   by_cases z:a%2=1
   ·rw[decide_eq_true z,decide_eq_true (by omega),Bool.true_or]
   ·rw[decide_eq_false z,Bool.false_or]
    by_cases y:b%2=1
    ·rw[decide_eq_true y,decide_eq_true (by omega)]
    ·rw[decide_eq_false y,decide_eq_false (by omega)]
  |succ k=>
   rw[Nat.testBit_add_one,Nat.testBit_add_one,Nat.testBit_add_one]
   have e:(a+b)/2=a/2+b/2:=by omega
   rw[e]
   refine zol k (a/2) (b/2) fun j hj=>?_
   have:=h (j+1)
   rw[Nat.testBit_add_one,Nat.testBit_add_one] at this
   exact this hj
theorem zxa{a b:Nat}(h:∀j,a.testBit j=true→b.testBit j=false):a+b=a|||b:=
 Nat.eq_of_testBit_eq fun k=>by rw[zol k a b h,Nat.testBit_or]
theorem znw:∀(k y a:Nat),(∀j,a.testBit j=true→y.testBit j=true)→(y-a).testBit k=(y.testBit k&&!a.testBit k)
 |k,y,a,h=>by
  have le:a≤y:=by
   have e:a=a&&&y:=Nat.eq_of_testBit_eq fun j=>by
    rw[Nat.testBit_and]
    cases e:a.testBit j with
    |false=>rfl
    |true=>rw[h j e];rfl
   rw[e]
   exact Nat.and_le_right
  have h0:=h 0
  rw[Nat.testBit_zero,Nat.testBit_zero] at h0
  have p:a%2≤y%2:=by
   by_cases z:a%2=1
   ·have:=of_decide_eq_true (h0 (decide_eq_true z))
    omega
   ·omega
  cases k with
  |zero=>
   rw[Nat.testBit_zero,Nat.testBit_zero,Nat.testBit_zero]
   by_cases z:a%2=1
   ·rw[decide_eq_true z,decide_eq_false (by omega)];simp
   ·rw[decide_eq_false z]
    by_cases x:y%2=1
    ·rw[decide_eq_true x,decide_eq_true (by omega)];rfl
    ·rw[decide_eq_false x,decide_eq_false (by omega)];rfl
  |succ k=>
   rw[Nat.testBit_add_one,Nat.testBit_add_one,Nat.testBit_add_one]
   have e:(y-a)/2=y/2-a/2:=by omega
   rw[e]
   refine znw k (y/2) (a/2) fun j hj=>?_
   have:=h (j+1)
   rw[Nat.testBit_add_one,Nat.testBit_add_one] at this
   exact this hj
theorem zsm(a b:Nat):a|||b=a+(b-(a&&&b)):=by
 have hb:∀j,(b-(a&&&b)).testBit j=(b.testBit j&&!(a&&&b).testBit j):=fun j=>znw j b (a&&&b) fun i hi=>by
  rw[Nat.testBit_and,Bool.and_eq_true] at hi
  exact hi.2
 rw[zxa fun j hj=>by rw[hb,Nat.testBit_and,hj];cases b.testBit j<;>rfl]
 refine Nat.eq_of_testBit_eq fun j=>?_
 rw[Nat.testBit_or,Nat.testBit_or,hb,Nat.testBit_and]
 cases a.testBit j<;>cases b.testBit j<;>rfl
theorem zhj(p:Nat→Bool)(i:Nat):(List.range (i+1)).filter p=(List.range i).filter p++(if p i=true then [i] else []):=by
 rw[List.range_succ,List.filter_append]
 congr 1
 by_cases h:p i=true<;>simp[h]
theorem zcb(y k j:Nat):(y|||2^k).testBit j=(y.testBit j||decide (k=j)):=by rw[Nat.testBit_or,Nat.testBit_two_pow]
theorem inS_split{y n k s:Nat}:InS y n s↔InS (y|||2^k) n s∨InS y (n|||2^k) s:=by
 constructor
 ·rintro⟨h1,h2⟩
  cases e:s.testBit k with
  |true=>
   refine .inl ⟨fun j hj=>?_,h2⟩
   rw[zcb,Bool.or_eq_true,decide_eq_true_eq] at hj
   rcases hj with z|rfl
   ·exact h1 j z
   ·exact e
  |false=>
   refine .inr ⟨h1,fun j hj=>?_⟩
   rw[zcb,Bool.or_eq_true,decide_eq_true_eq] at hj
   rcases hj with z|rfl
   ·exact h2 j z
   ·exact e
 ·rintro(⟨h1,h2⟩|⟨h1,h2⟩)
  ·exact⟨fun j hj=>h1 j (by rw[zcb,hj,Bool.true_or]),h2⟩
  ·exact⟨h1,fun j hj=>h2 j (by rw[zcb,hj,Bool.true_or])⟩
theorem zts{y n k:Nat}(d:∀j,y.testBit j=true→n.testBit j=false)(hn:n.testBit k=false):∀j,(y|||2^k).testBit j=true→n.testBit j=false:=fun j hj=>by
 rw[zcb,Bool.or_eq_true,decide_eq_true_eq] at hj
 rcases hj with z|rfl
 ·exact d j z
 ·exact hn
theorem zt3{y n k:Nat}(d:∀j,y.testBit j=true→n.testBit j=false)(hy:y.testBit k=false):∀j,y.testBit j=true→(n|||2^k).testBit j=false:=fun j hj=>by
 rw[zcb,d j hj,Bool.false_or]
 exact decide_eq_false fun z=>by rw[←z,hy] at hj;cases hj
theorem zjy{y n:Nat}(d:∀j,y.testBit j=true→n.testBit j=false):InS y n y:=⟨fun _ z=>z,fun k hk=>by
 cases e:y.testBit k with
 |false=>rfl
 |true=>rw[d k e] at hk;cases hk⟩
theorem zod{m y n s:Nat}(full:∀k,k<m→(y|||n).testBit k=true)(hs:InS y n s)(d:∀j,y.testBit j=true→n.testBit j=false):∀k,k<m→s.testBit k=y.testBit k:=fun k hk=>by
 have h:=full k hk
 rw[Nat.testBit_or,Bool.or_eq_true] at h
 rcases h with z|z
 ·rw[z,hs.1 k z]
 ·rw[hs.2 k z,(zjy d).2 k z]
theorem zvs{m:Nat}{t:Tie}(ok:t.Ok m){y n:Nat}(d:∀j,y.testBit j=true→n.testBit j=false)(full:∀k,k<m→(y|||n).testBit k=true):t.sb y n=!t.keep y:=by
 rw[Bool.eq_iff_iff,zu6 ok d,Bool.not_eq_true']
 constructor
 ·intro h
  exact h y (zjy d)
 ·intro h s hs
  rw[zqb ok (zod full hs d)]
  exact h
end Wd
namespace L2
open PySem
theorem zg8{X:Cx}(hu:X.A.units+64<cLine):OpR X (compareOp .Eq) (fun x y H Q=>∃(a b:Addr)(ns ms:List Int),x=.ref a∧y=.ref b∧SqL X.K H a (ns.map V.int)∧SqL X.K H b (ms.map V.int)∧Q (.bl (decide (ns=ms))) H):=by
 intro pins s σ H x y v u Q I rx ry h
 obtain⟨a,b,ns,ms,rfl,rfl,ha,hb,q⟩:=h
 cases rx
 cases ry
 obtain⟨xs,rv,p,_⟩:=I.list ha
 obtain⟨ys,aa,p',_⟩:=I.list hb
 exact PySem.W.ke_eq_ints p.isList p'.isList (zct rv) (zct aa) hu ⟨.bl _,H,I,rfl,q⟩
theorem zh6{k:Nat}{σ0:St}{H:Hp}{g:TG}{tc:TT}{te:TE}{Q:VK}(Pv:Nat→List V→St→Hp→Prop)(h0:Pv 0 [] σ0 H)(hz:∀i ys σ H,i≤k→Pv i ys σ H→ys.length≤sizeLine)
  (hs:∀i ys σ H,i<k→Pv i ys σ H→g (.int (i:Int)) σ H fun σ3 H3=>tc σ3 H3 fun b H4=>if b=true then te σ3 H4 fun v H5=>Pv (i+1) (ys++[v]) σ3 H5 else Pv (i+1) ys σ3 H4)
  (hd:∀ys σ H,Pv k ys σ H→∀p,H p=none→Q (.ref p) (upd H p (.lst ys))):
  zm5 (Itr 0 k) g tc te σ0 H Q:=
 zun (lo:=0) Pv h0 hz (fun i ys σ H hi p=>by rw[Int.zero_add];exact hs i ys σ H hi p) hd
theorem zfk{n:Nat}{g:TG}{tb:TS}{D:zii}{σ:St}{H:Hp}(Pv:Nat→St→Hp→Prop)(h0:Pv 0 σ H)
  (hs:∀i σ H,i<n→Pv i σ H→g (.int (i:Int)) σ H fun σ2 H2=>tb { D with nx:=Pv (i+1),ct:=Pv (i+1),bk:=D.nx } σ2 H2) (hd:∀σ H,Pv n σ H→D.nx σ H):
  ∃W:Nat→Nat→St→Hp→Prop,(∃m,W 0 m σ H)∧∀i m σ H,W i m σ H →
   ((Itr 0 n).stop i H∧D.nx σ H)∨((Itr 0 n).go i H∧∃N:St→Hp→Prop,(∀σ' H',N σ' H'→∃m',m'<m∧W (i+1) m' σ' H')∧∀x H',(Itr 0 n).yld i H x H'→g x σ H' fun σ2 H2=>tb { D with nx:=N,ct:=N,bk:=D.nx } σ2 H2):=
 zin (lo:=0) Pv h0 (fun i σ H hi p=>by rw[Int.zero_add];exact hs i σ H hi p) hd
end L2
namespace Wd
open PySem L2 Ow
theorem zew(a b:Nat):Builtin.bitAnd (a:Int) (b:Int)=((a&&&b:Nat):Int):=by
 rw[PyProof.Rows.bitAnd_pp (by omega) (by omega),Int.toNat_natCast,Int.toNat_natCast]
theorem zhr(a b:Nat):Builtin.bitOr (a:Int) (b:Int)=((a|||b:Nat):Int):=by
 have le:a&&&b≤b:=Nat.and_le_right
 rw[PyProof.Rows.bitOr_and,PyProof.Rows.bitAnd_pp (by omega) (by omega),Int.toNat_natCast,Int.toNat_natCast,zsm]
 omega
theorem zll(k:Nat):1*(2:Int)^((k:Nat):Int).toNat=((2^k:Nat):Int):=by
 rw[Int.one_mul,Int.toNat_natCast,Int.natCast_pow]
 rfl
theorem zt8(k:Nat):0<2^k:=Nat.pow_pos (by decide)
def zqz(l:List Stmt)(i:Nat):List Stmt:=
 match l[i]? with
 |some (Stmt.For _ _ b _ _)=>b
 |_=>[]
def KpX(pen:Addr)(H H':Hp)(b:Addr):HO→Prop
 |.tbl _=>(∃ps,H' b=some (.tbl ps))∧(zcm H b→(∃ys,H pen=some (.lst ys))→zcm H' b∧∃ys,H' pen=some (.lst ys))
 |o=>H' b=some o
def SameX(pen:Addr)(H H':Hp):Prop:=∀b o,b≠pen→H b=some o→KpX pen H H' b o
theorem KpX.some{pen:Addr}{H H':Hp}{b:Addr}{o:HO}(k:KpX pen H H' b o):∃u,H' b=some u:=by
 cases o
 case tbl ps=>exact⟨_,k.1.choose_spec⟩
 all_goals exact⟨_,k⟩
theorem SameX.refl(pen:Addr)(H:Hp):SameX pen H H:=fun _ o _ h=>by
 cases o
 case tbl ps=>exact⟨⟨_,h⟩,fun a b=>⟨a,b⟩⟩
 all_goals exact h
theorem SameX.trans{pen:Addr}{H H1 H2:Hp}(a:SameX pen H H1)(b:SameX pen H1 H2):SameX pen H H2:=fun c o n h=>by
 have z:=a c o n h
 cases o
 case tbl ps=>
  obtain⟨⟨qs,hq⟩,k⟩:=z
  obtain⟨q2,k2⟩:=b c _ n hq
  exact⟨q2,fun t y=>k2 (k t y).1 (k t y).2⟩
 all_goals exact b c _ n z
theorem Same.x{pen:Addr}{H H':Hp}(s:Same H H'):SameX pen H H':=fun b o _ h=>by
 have z:=s b o h
 cases o
 case tbl ps=>exact⟨z.1,fun t ⟨ys,y⟩=>⟨z.2 t,ys,s pen _ y⟩⟩
 all_goals exact z
theorem za2{pen:Addr}{H:Hp}(o:HO)(ho:∃ys,o=.lst ys:=by exact⟨_,rfl⟩):SameX pen H (upd H pen o):=fun b u n h=>by
 cases u
 case tbl ps=>
  refine⟨⟨ps,by rw[zal n];exact h⟩,?_⟩
  rintro⟨qs,hq,tr,hp⟩ ⟨ys,hy⟩
  obtain⟨zs,rfl⟩:=ho
  refine⟨⟨qs,by rw[zal n];exact hq,tr,fun pos=>?_⟩,⟨zs,zab⟩⟩
  rcases hp pos with z|⟨c,z1,z2⟩
  ·exact .inl z
  ·refine .inr ⟨c,z1,?_⟩
   rw[zal fun z=>by rw[z,hy] at z2;cases z2]
   exact z2
 all_goals (show upd H pen o b=_;rw[zal n];exact h)
theorem Same.put{H H1:Hp}{p:Addr}{xs:List V}{o:HO}(s:Same H H1)(n:H p=none)(e:H1 p=some (.lst xs)):Same H (upd H1 p o):=fun b u hb=>by
 have ne:b≠p:=zat hb n
 have z:=s b u hb
 cases u
 case tbl ps=>
  refine⟨⟨z.1.choose,by rw[zal ne];exact z.1.choose_spec⟩,fun t=>?_⟩
  obtain⟨qs,hq,tr,hp⟩:=z.2 t
  refine⟨qs,by rw[zal ne];exact hq,tr,fun pos=>?_⟩
  rcases hp pos with y|⟨c,y1,y2⟩
  ·exact .inl y
  ·refine .inr ⟨c,y1,?_⟩
   rw[zal fun z=>by rw[z,e] at y2;cases y2]
   exact y2
 all_goals (show upd H1 p o b=_;rw[zal ne];exact z)
theorem SameX.put{pen:Addr}{H H1:Hp}{p:Addr}{xs:List V}{o:HO}(s:SameX pen H H1)(n:H p=none)(np:p≠pen)(e:H1 p=some (.lst xs)):SameX pen H (upd H1 p o):=fun b u nb hb=>by
 have ne:b≠p:=zat hb n
 have z:=s b u nb hb
 cases u
 case tbl ps=>
  refine⟨⟨z.1.choose,by rw[zal ne];exact z.1.choose_spec⟩,fun t y=>?_⟩
  obtain⟨⟨qs,hq,tr,hp⟩,ys,hy⟩:=z.2 t y
  refine⟨⟨qs,by rw[zal ne];exact hq,tr,fun pos=>?_⟩,ys,by rw[zal (Ne.symm np)];exact hy⟩
  rcases hp pos with y|⟨c,y1,y2⟩
  ·exact .inl y
  ·refine .inr ⟨c,y1,?_⟩
   rw[zal fun z=>by rw[z,e] at y2;cases y2]
   exact y2
 all_goals (show upd H1 p o b=_;rw[zal ne];exact z)
theorem SameX.tab{pen P:Addr}{H H':Hp}{ys:List V}(s:SameX pen H H')(hp:H pen=some (.lst ys))(t:zcm H P):zcm H' P:=by
 obtain⟨ps,h,_⟩:=id t
 exact((s P _ (fun z=>by rw[z,hp] at h;cases h) h).2 t ⟨ys,hp⟩).1
theorem SameX.free{pen l:Addr}{H H':Hp}(s:SameX pen H H')(hp:∃o,H' pen=some o)(h:H' l=none):H l=none:=by
 cases q:H l with
 |none=>rfl
 |some o=>
  obtain⟨o',e⟩:=hp
  have n:l≠pen:=fun z=>by rw[z,e] at h;cases h
  obtain⟨u,z⟩:=(s l o n q).some
  rw[z] at h
  cases h
structure Pen(K:PySem.W.Frag)(H:Hp)(pen sp:Addr)(ns:List Int)(k:Int):Prop where
 at_:H pen=some (.lst [.ref sp,.int k])
 len:ns.length≤63
 scr:∀H',SameX pen H H'→SqL K H' sp (ns.map V.int)
theorem Pen.to{K:PySem.W.Frag}{H H':Hp}{pen sp:Addr}{ns:List Int}{k k':Int}(p:Pen K H pen sp ns k)(s:SameX pen H H')(e:H' pen=some (.lst [.ref sp,.int k'])):Pen K H' pen sp ns k':=
 ⟨e,p.len,fun H2 s2=>p.scr H2 (s.trans s2)⟩
theorem Dn.pen{H:Hp}{p:Addr}{xs ys:List V}(h:H p=some (.lst xs)){n:Nat}{d:PyData}{v:V}(f:zbs n d=true)(q:Dn H d v):Dn (upd H p (.lst ys)) d v:=Dn.keepT (zom h) n d v f q
theorem DnL.pen{H:Hp}{p:Addr}{xs ys:List V}(h:H p=some (.lst xs)){n:Nat}{ds:List PyData}{vs:List V}(f:ds.all (zbs n)=true)(q:DnL H ds vs):DnL (upd H p (.lst ys)) ds vs:=DnL.keepT (Dn.keepT (zom h) n) ds vs f q
def zcp(H H':Hp):Prop:=∀b xs,H b=some (.tup xs)→H' b=some (.tup xs)
theorem SameX.tup{pen:Addr}{H H':Hp}{ys:List V}(e:H pen=some (.lst ys))(s:SameX pen H H'):zcp H H':=fun b xs h=>s b _ (fun z=>by rw[z,e] at h;cases h) h
theorem DnL.tupS{H H':Hp}(t:zcp H H'){n:Nat}{ds:List PyData}{vs:List V}(f:ds.all (zbs n)=true)(q:DnL H ds vs):DnL H' ds vs:=DnL.keepT (Dn.keepT t n) ds vs f q
def zw8(K:PySem.W.Frag):Sp:=fun vs H Q _=>∃(pen sp:Addr)(ns:List Int)(most k:Int),vs=[.ref pen,.int most]∧Pen K H pen sp ns k∧0≤k∧k≤1000000∧0<most∧∀c:Int,0≤c→c<most→Q (.int c) (L2.upd H pen (.lst [.ref sp,.int (k+1)]))
structure WoodX(H:Hp)(wd:Addr)(m:Nat)(bs cs:List PyData):Prop where
 ex:∃xs ys,WoodAt H wd m xs ys∧DnL H bs xs∧DnL H cs ys
 gb:zwn m bs
 gc:∀c∈cs,zi3 m c=true
 b8:bs.length≤9
 c8:cs.length≤20
 fb:bs.all (zbs 3)=true
 fc:cs.all (zbs 3)=true
 m1:1≤m
 m9:m≤9
theorem WoodX.tupS{H H':Hp}{wd:Addr}{m:Nat}{bs cs:List PyData}(t:zcp H H')(h:WoodX H wd m bs cs):WoodX H' wd m bs cs:=by
 obtain⟨xs,ys,⟨tb,tc,h1,h2,h3⟩,db,dc⟩:=h.ex
 exact⟨⟨xs,ys,⟨tb,tc,t _ _ h1,t _ _ h2,t _ _ h3⟩,DnL.tupS t h.fb db,DnL.tupS t h.fc dc⟩,h.gb,h.gc,h.b8,h.c8,h.fb,h.fc,h.m1,h.m9⟩
theorem Same.tup{H H':Hp}(s:Same H H'):zcp H H':=fun b xs h=>s b _ h
theorem WoodX.ties{H:Hp}{wd:Addr}{m:Nat}{bs cs:List PyData}(h:WoodX H wd m bs cs):∃ts:List Tie,bs++cs=ts.map Tie.toD∧(∀t∈ts,t.Ok m)∧ts.length≤29∧∀H',zcp H H'→WoodT H' wd m ts:=by
 obtain⟨ts,aa,ad⟩:=zls (P:=fun t=>t.Ok m) (l:=bs++cs) fun x hx=>by
  rcases List.mem_append.mp hx with z|z
  ·exact zs7 (h.gb.each x z)
  ·exact zsx (h.gc x z)
 have lt:ts.length=bs.length+cs.length:=by rw[←List.length_append,aa,List.length_map]
 have b8:=h.b8
 have c8:=h.c8
 have m9:=h.m9
 refine⟨ts,aa,ad,by omega,fun H' t=>?_⟩
 obtain⟨xs,ys,WA,db,dc⟩:=(h.tupS t).ex
 exact⟨⟨xs,ys,WA,by rw[←aa];exact db.append dc⟩,ad,by omega,by omega⟩
theorem _root_.Ow.GAt.add2{H0 H:Hp}{g l t:Addr}{gs:List Grp}{u k:Int}(G:GAt H0 H g gs)(hf:H0 l=none)(hl:H l=none)(ht:upd H l (.lst [.int k]) t=none):
  GAt H0 (upd (upd (upd H l (.lst [.int k])) t (.tup [.int u,.ref l])) g (.lst ((gs.map fun x=>V.ref x.t)++[.ref t]))) g (gs++[⟨t,u,l,[k]⟩]):=by
 have aa:g≠l:=zat G.at_ hl
 have s1:=zad hl (.lst [.int k])
 have s2:=s1.trans (zad ht (.tup [.int u,.ref l]))
 have ad:t≠l:=fun z=>by rw[z,zab] at ht;cases ht
 have ae:g≠t:=zat (s1 _ _ G.at_) ht
 refine⟨?_,G.new,fun x hx=>?_,fun x hx=>?_,?_⟩
 ·rw[zab,List.map_append]
  rfl
 ·rcases List.mem_append.mp hx with z|z
  ·rw[zal (zpr (G.tup x z) G.at_ (by intro q;cases q))]
   exact s2 _ _ (G.tup x z)
  ·rw[List.mem_singleton.mp z]
   show L2.upd _ g _ t=_
   rw[zal (Ne.symm ae),zab]
 ·rcases List.mem_append.mp hx with z|z
  ·obtain⟨a,b,c⟩:=G.lst x z
   refine⟨?_,b,c⟩
   rw[zal (Ne.symm c)]
   exact s2 _ _ a
  ·rw[List.mem_singleton.mp z]
   refine⟨?_,hf,aa⟩
   show L2.upd _ g _ l=_
   rw[zal (Ne.symm aa),zal (Ne.symm ad),zab]
   rfl
 ·rw[List.map_append]
  refine List.nodup_append.mpr ⟨G.nd,by simp,fun x hx y hy=>?_⟩
  obtain⟨z,hz,rfl⟩:=List.mem_map.mp hx
  have e:y=l:=by simpa using hy
  rw[e]
  exact zat (G.lst z hz).1 hl
theorem _root_.Ow.GAt.pen{H0 H:Hp}{g pen:Addr}{gs:List Grp}{xs ys:List V}(G:GAt H0 H g gs)(h0:∃o,H0 pen=some o)(h:H pen=some (.lst xs)):GAt H0 (L2.upd H pen (.lst ys)) g gs:=by
 obtain⟨o,e0⟩:=h0
 refine⟨?_,G.new,fun x hx=>?_,fun x hx=>?_,G.nd⟩
 ·rw[zal (fun z=>by rw[←z,G.new] at e0;cases e0)]
  exact G.at_
 ·rw[zal (zpr (G.tup x hx) h (by intro q;cases q))]
  exact G.tup x hx
 ·obtain⟨a,b,c⟩:=G.lst x hx
  refine⟨?_,b,c⟩
  rw[zal (fun z=>by rw[←z,b] at e0;cases e0)]
  exact a
end Wd
namespace Wd
def zbj(ts:List Tie)(i s:Nat):Bool:=match ts[i]? with
 |some t=>t.keep s
 |none=>true
def zkk(ts:List Tie)(i y n:Nat):Bool:=match ts[i]? with
 |some t=>t.sb y n
 |none=>false
def zbd(ts:List Tie)(il:List Nat)(y n:Nat):Option Nat:=il.find? fun i=>zkk ts i y n
def zaz(m y n:Nat):List Nat:=(List.range m).filter fun k=>!(y|||n).testBit k
theorem mem_open{m y n k:Nat}:k∈zaz m y n↔k<m∧y.testBit k=false∧n.testBit k=false:=by
 unfold zaz
 rw[List.mem_filter,List.mem_range,Bool.not_eq_true',Nat.testBit_or,Bool.or_eq_false_iff]
theorem zu4(m y n k:Nat):zaz m (y|||2^k) n=(zaz m y n).filter fun j=>!decide (k=j):=by
 unfold zaz
 rw[List.filter_filter]
 refine List.filter_congr fun j _=>?_
 rw[Nat.testBit_or,zcb,Nat.testBit_or]
 cases y.testBit j<;>cases n.testBit j<;>cases decide (k=j)<;>rfl
theorem zqs(m y n k:Nat):zaz m y (n|||2^k)=(zaz m y n).filter fun j=>!decide (k=j):=by
 unfold zaz
 rw[List.filter_filter]
 refine List.filter_congr fun j _=>?_
 rw[Nat.testBit_or,zcb,Nat.testBit_or]
 cases y.testBit j<;>cases n.testBit j<;>cases decide (k=j)<;>rfl
theorem ziu{l:List Nat}{k:Nat}(h:k∈l):(l.filter fun j=>!decide (k=j)).length<l.length:=by
 refine Nat.lt_of_le_of_ne (List.length_filter_le _ _) fun e=>?_
 have:=List.length_filter_eq_length_iff.mp e k h
 simp at this
theorem zfg{m y n k:Nat}(h:k∈zaz m y n):(zaz m (y|||2^k) n).length<(zaz m y n).length:=by
 rw[zu4];exact ziu h
theorem zfc{m y n k:Nat}(h:k∈zaz m y n):(zaz m y (n|||2^k)).length<(zaz m y n).length:=by
 rw[zqs];exact ziu h
theorem zc8(m y n:Nat):(zaz m y n).length≤m:=by
 refine Nat.le_trans (List.length_filter_le _ _) ?_
 rw[List.length_range]
 exact Nat.le_refl _
theorem zm0{m y k:Nat}(h:y<2^m)(hk:k<m):y|||2^k<2^m:=by
 refine Nat.lt_pow_two_of_testBit _ fun i hi=>?_
 rw[zcb,Nat.testBit_lt_two_pow (Nat.lt_of_lt_of_le h (Nat.pow_le_pow_right (by decide) hi)),Bool.false_or]
 exact decide_eq_false (by omega)
theorem zqf{x y:Nat}(k:Nat)(hx:x.testBit k=false)(hy:y.testBit k=true)(h:∀j,k<j→x.testBit j=y.testBit j):x<y:=by
 have e:x/2^(k+1)=y/2^(k+1):=Nat.eq_of_testBit_eq fun j=>by
  rw[←Nat.testBit_add,←Nat.testBit_add]
  exact h _ (by omega)
 have r1:x%2^(k+1)<2^k:=Nat.lt_pow_two_of_testBit _ fun i hi=>by
  rw[Nat.testBit_mod_two_pow]
  by_cases z:i=k
  ·rw[z,hx,Bool.and_false]
  ·rw[decide_eq_false (by omega),Bool.false_and]
 have r2:2^k≤y%2^(k+1):=Nat.ge_two_pow_of_testBit (by
  rw[Nat.testBit_mod_two_pow,hy,decide_eq_true (by omega)];rfl)
 have d1:=Nat.div_add_mod x (2^(k+1))
 have d2:=Nat.div_add_mod y (2^(k+1))
 rw[e] at d1
 omega
theorem zqi{m a b:Nat}(ha:a<2^m)(hb:b<2^m)(h:∀k,k<m→a.testBit k=b.testBit k):a=b:=by
 refine Nat.eq_of_testBit_eq fun k=>?_
 by_cases z:k<m
 ·exact h k z
 ·have:2^m≤2^k:=Nat.pow_le_pow_right (by decide) (by omega)
  rw[Nat.testBit_lt_two_pow (by omega),Nat.testBit_lt_two_pow (by omega)]
def zbl(ts:List Tie)(il:List Nat)(s:Nat):Bool:=il.all fun i=>zbj ts i s
structure Stand(m y n:Nat):Prop where
 dj:∀k,y.testBit k=true→n.testBit k=false
 ym:y<2^m
 nm:n<2^m
theorem Stand.one{m y n k:Nat}(S:Stand m y n)(h:k∈zaz m y n):Stand m (y|||2^k) n:=by
 obtain⟨km,ky,kn⟩:=mem_open.mp h
 exact⟨zts S.dj kn,zm0 S.ym km,S.nm⟩
theorem Stand.other{m y n k:Nat}(S:Stand m y n)(h:k∈zaz m y n):Stand m y (n|||2^k):=by
 obtain⟨km,ky,kn⟩:=mem_open.mp h
 exact⟨zt3 S.dj ky,S.ym,zm0 S.nm km⟩
theorem zrz{m:Nat}{ts:List Tie}(ok:∀t∈ts,t.Ok m){i y n s:Nat}(dj:∀k,y.testBit k=true→n.testBit k=false)(h:zkk ts i y n=true)(hs:InS y n s):zbj ts i s=false:=by
 unfold zkk at h
 unfold zbj
 cases e:ts[i]? with
 |none=>rw[e] at h;cases h
 |some t=>
  rw[e] at h
  exact(zu6 (ok t (List.mem_of_getElem? e)) dj).mp h s hs
theorem zr2{m:Nat}{ts:List Tie}(ok:∀t∈ts,t.Ok m){i y n:Nat}(dj:∀k,y.testBit k=true→n.testBit k=false)(full:zaz m y n=[])(h:zkk ts i y n=false):zbj ts i y=true:=by
 have hf:∀k,k<m→(y|||n).testBit k=true:=fun k hk=>by
  cases e:(y|||n).testBit k with
  |true=>rfl
  |false=>
   rw[Nat.testBit_or,Bool.or_eq_false_iff] at e
   have:=mem_open.mpr ⟨hk,e.1,e.2⟩
   rw[full] at this
   cases this
 unfold zkk at h
 unfold zbj
 cases e:ts[i]? with
 |none=>rfl
 |some t=>
  rw[e] at h
  have h':t.sb y n=false:=h
  rw[zvs (ok t (List.mem_of_getElem? e)) dj hf] at h'
  show t.keep y=true
  simpa using h'
theorem zqj{m y n s:Nat}(S:Stand m y n)(full:zaz m y n=[])(hs:InS y n s)(sm:s<2^m):s=y:=by
 refine zqi sm S.ym fun k hk=>?_
 refine zod (m:=m) (fun j hj=>?_) hs S.dj k hk
 cases e:(y|||n).testBit j with
 |true=>rfl
 |false=>
  rw[Nat.testBit_or,Bool.or_eq_false_iff] at e
  have:=mem_open.mpr ⟨hj,e.1,e.2⟩
  rw[full] at this
  cases this
def zbg(ts:List Tie)(il:List Nat)(m:Nat):Nat→Nat→Nat→Option Nat
 |f,y,n=>if (zbd ts il y n).isSome=true then none else match (zaz m y n).getLast?,f with
  |none,_=>some y
  |some _,0=>none
  |some k,f+1=>match zbg ts il m f y (n|||2^k) with
   |some s=>some s
   |none=>zbg ts il m f (y|||2^k) n
def zul(ts:List Tie)(il:List Nat)(m y n:Nat):Option Nat→Prop
 |some s=>s<2^m∧InS y n s∧zbl ts il s=true∧∀s',s'<2^m→InS y n s'→zbl ts il s'=true→s≤s'
 |none=>∀s',s'<2^m→InS y n s'→zbl ts il s'=false
theorem znj{ts:List Tie}{il:List Nat}{y n i:Nat}(h:zbd ts il y n=some i):i∈il∧zkk ts i y n=true:=
 ⟨List.mem_of_find?_eq_some h,List.find?_some (p:=fun i=>zkk ts i y n) h⟩
theorem zm1{ts:List Tie}{il:List Nat}{y n:Nat}(h:zbd ts il y n=none):∀i∈il,zkk ts i y n=false:=fun i hi=>by
 have:=List.find?_eq_none.mp h i hi
 simpa using this
theorem zly{m y n k:Nat}(h:(zaz m y n).getLast?=some k):k∈zaz m y n∧∀j∈zaz m y n,j≤k:=by
 have hp:(zaz m y n).Pairwise (·<·):=List.pairwise_lt_range.filter _
 refine⟨List.mem_of_getLast? h,fun j hj=>?_⟩
 obtain⟨l,e⟩:=List.getLast?_eq_some_iff.mp h
 rw[e] at hp hj
 rcases List.mem_append.mp hj with z|z
 ·exact Nat.le_of_lt ((List.pairwise_append.mp hp).2.2 j z k (List.mem_singleton.mpr rfl))
 ·exact Nat.le_of_eq (List.mem_singleton.mp z)
theorem zdo{m:Nat}{ts:List Tie}{il:List Nat}(ok:∀t∈ts,t.Ok m):∀(f y n:Nat),(zaz m y n).length≤f→Stand m y n→zul ts il m y n (zbg ts il m f y n)
 |f,y,n,hf,S=>by
  unfold zbg
  cases hb:zbd ts il y n with
  |some i=>
   obtain⟨hi,hsb⟩:=znj hb
   intro s' sm hs
   cases e:zbl ts il s' with
   |false=>rfl
   |true=>
    have:=(List.all_eq_true.mp e) i hi
    rw[zrz ok S.dj hsb hs] at this
    cases this
  |none=>
   have hn:=zm1 hb
   simp only[Option.isSome_none,Bool.false_eq_true,if_false]
   cases hl:(zaz m y n).getLast? with
   |none=>
    have full:zaz m y n=[]:=List.getLast?_eq_none_iff.mp hl
    refine⟨S.ym,zjy S.dj,List.all_eq_true.mpr fun i hi=>zr2 ok S.dj full (hn i hi),fun s' sm hs _=>?_⟩
    rw[zqj S full hs sm]
    exact Nat.le_refl _
   |some k=>
    obtain⟨hk,hmax⟩:=zly hl
    cases f with
    |zero=>rw[List.eq_nil_of_length_eq_zero (Nat.le_zero.mp hf)] at hk;cases hk
    |succ f=>
     have l1:=zfg hk
     have l2:=zfc hk
     have i1:=zdo (il:=il) ok f y (n|||2^k) (by omega) (S.other hk)
     have i2:=zdo (il:=il) ok f (y|||2^k) n (by omega) (S.one hk)
     dsimp only
     cases h1:zbg ts il m f y (n|||2^k) with
     |some s=>
      rw[h1] at i1
      obtain⟨a1,a2,a3,a4⟩:=i1
      refine⟨a1,inS_split.mpr (.inr a2),a3,fun s' sm hs hk'=>?_⟩
      rcases(inS_split (k:=k)).mp hs with z|z
      ·have kt:s'.testBit k=true:=z.1 k (by rw[zcb,decide_eq_true rfl,Bool.or_true])
       have kf:s.testBit k=false:=a2.2 k (by rw[zcb,decide_eq_true rfl,Bool.or_true])
       refine Nat.le_of_lt (zqf k kf kt fun j hj=>?_)
       by_cases jm:j<m
       ·have hno:¬j∈zaz m y n:=fun z=>by have:=hmax j z;omega
        have hyn:y.testBit j=true∨n.testBit j=true:=by
         cases ey:y.testBit j with
         |true=>exact .inl rfl
         |false=>
          cases en:n.testBit j with
          |true=>exact .inr rfl
          |false=>exact absurd (mem_open.mpr ⟨jm,ey,en⟩) hno
        have aa:=inS_split.mpr (.inr a2)
        rcases hyn with e|e
        ·rw[aa.1 j e,hs.1 j e]
        ·rw[aa.2 j e,hs.2 j e]
       ·have:2^m≤2^j:=Nat.pow_le_pow_right (by decide) (by omega)
        rw[Nat.testBit_lt_two_pow (by omega),Nat.testBit_lt_two_pow (by omega)]
      ·exact a4 s' sm z hk'
     |none=>
      rw[h1] at i1
      show zul ts il m y n (zbg ts il m f (y|||2^k) n)
      cases h2:zbg ts il m f (y|||2^k) n with
      |some s=>
       rw[h2] at i2
       obtain⟨a1,a2,a3,a4⟩:=i2
       refine⟨a1,inS_split.mpr (.inl a2),a3,fun s' sm hs hk'=>?_⟩
       rcases(inS_split (k:=k)).mp hs with z|z
       ·exact a4 s' sm z hk'
       ·rw[i1 s' sm z] at hk'
        cases hk'
      |none=>
       rw[h2] at i2
       intro s' sm hs
       rcases(inS_split (k:=k)).mp hs with z|z
       ·exact i2 s' sm z
       ·exact i1 s' sm z
theorem zpd{ts:List Tie}{il:List Nat}{m f y n k:Nat}(hb:zbd ts il y n=none)(ho:(zaz m y n).getLast?=some k):zbg ts il m (f+1) y n=(match zbg ts il m f y (n|||2^k) with|some s=>some s|none=>zbg ts il m f (y|||2^k) n):=by
 conv=>lhs;unfold zbg
 simp only[hb,ho,Option.isSome_none,Bool.false_eq_true,if_false]
theorem zqk{ts:List Tie}{il:List Nat}{m f y n:Nat}(hb:zbd ts il y n=none)(ho:zaz m y n=[]):zbg ts il m f y n=some y:=by
 unfold zbg
 simp[hb,ho]
theorem zni{ts:List Tie}{il:List Nat}{m f y n i:Nat}(hb:zbd ts il y n=some i):zbg ts il m f y n=none:=by
 unfold zbg
 simp[hb]
inductive CT where
 |broken (t:Nat)
 |ware
 |split (k:Nat) (one other:CT)
def zc9(ts:List Tie)(il:List Nat)(m:Nat):Nat→Nat→Nat→CT
 |f,y,n=>match zbd ts il y n with
  |some t=>.broken t
  |none=>match zaz m y n,f with
   |[],_=>.ware
   |_::_,0=>.ware
   |k::_,f+1=>.split k (zc9 ts il m f (y|||2^k) n) (zc9 ts il m f y (n|||2^k))
theorem zmn{ts:List Tie}{il r:List Nat}{m f y n k:Nat}(hb:zbd ts il y n=none)(ho:zaz m y n=k::r):zc9 ts il m (f+1) y n=.split k (zc9 ts il m f (y|||2^k) n) (zc9 ts il m f y (n|||2^k)):=by
 conv=>lhs;unfold zc9
 simp only[hb,ho]
theorem znx{ts:List Tie}{il:List Nat}{m f y n:Nat}(hb:zbd ts il y n=none)(ho:zaz m y n=[]):zc9 ts il m f y n=.ware:=by
 unfold zc9
 simp[hb,ho]
theorem zle{ts:List Tie}{il:List Nat}{m f y n i:Nat}(hb:zbd ts il y n=some i):zc9 ts il m f y n=.broken i:=by
 unfold zc9
 simp[hb]
end Wd
namespace Wd
open PySem L2 Ow
def CT.toD:CT→PyData
 |.broken t=>.tuple [.str ("broken" : Str),.int (t:Int)]
 |.ware=>.tuple [.str ("ware" : Str)]
 |.split k a b=>.tuple [.str ("split" : Str),.int (k:Int),a.toD,b.toD]
abbrev zam(l:List Nat):List V:=l.map fun k:Nat=>V.int (k:Int)
theorem zvf(l:List Nat)(k:Nat):atI (zam (l++[k])) (-1)=some (.int (k:Int)):=by
 unfold atI ixN
 have e:(zam (l++[k])).length=l.length+1:=by rw[List.length_map,List.length_append,List.length_singleton]
 rw[e,if_neg (by decide),if_pos (by omega)]
 show(zam (l++[k]))[((-1:Int)+((l.length+1:Nat):Int)).toNat]?=_
 have e2:((-1:Int)+((l.length+1:Nat):Int)).toNat=l.length:=by omega
 rw[e2,zam,List.getElem?_map,List.getElem?_append_right (Nat.le_refl _),Nat.sub_self]
 rfl
def zv4:Sp:=fun vs H Q _=>∃n k:Nat,vs=[.int n,.int k]∧k≤1000∧Q (.int ((n|||2^k:Nat):Int)) H
def zx5:Sp:=fun vs H Q _=>∃m y n:Nat,vs=[.int m,.int y,.int n]∧m≤900∧∀(l:Addr)(H':Hp),Same H H'→H l=none→H' l=some (.lst (zam (zaz m y n)))→Q (.ref l) H'
def zsn:Sp:=fun vs H Q _=>∃(wd:Addr)(m:Nat)(ts:List Tie)(tl:Addr)(il:List Nat)(y n:Nat),vs=[.ref wd,.ref tl,.int y,.int n]∧WoodT H wd m ts∧H tl=some (.lst (zam il))∧(∀i∈il,i<ts.length)∧∀H',Same H H'→Q (zhx (zbd ts il y n)) H'
def zuf(f:Nat):Sp:=fun vs H Q _=>∃(wd:Addr)(m:Nat)(ts:List Tie)(tl:Addr)(il:List Nat)(y n:Nat),vs=[.ref wd,.ref tl,.int y,.int n]∧WoodT H wd m ts∧H tl=some (.lst (zam il))∧(∀i∈il,i<ts.length)∧(zaz m y n).length≤f∧∀(v:V)(H':Hp),Same H H'→Dn H' (zc9 ts il m f y n).toD v→Q v H'
def zms(f:Nat):Sp:=fun vs H Q _=>∃(wd:Addr)(m:Nat)(ts:List Tie)(tl:Addr)(il:List Nat)(y n:Nat),vs=[.ref wd,.ref tl,.int y,.int n]∧WoodT H wd m ts∧H tl=some (.lst (zam il))∧(∀i∈il,i<ts.length)∧(zaz m y n).length≤f∧∀H',Same H H'→Q (zhx (zbg ts il m f y n)) H'
def zda(ts:List Tie):List Nat:=List.range ts.length
theorem ziw(ts:List Tie)(s:Nat):zbl ts (zda ts) s=ts.all fun t=>t.keep s:=by
 unfold zbl zda
 rw[Bool.eq_iff_iff,List.all_eq_true,List.all_eq_true]
 constructor
 ·intro h t ht
  obtain⟨i,hi,rfl⟩:=List.getElem_of_mem ht
  have:=h i (List.mem_range.mpr hi)
  unfold zbj at this
  rw[List.getElem?_eq_getElem hi] at this
  exact this
 ·intro h i hi
  unfold zbj
  rw[List.getElem?_eq_getElem (List.mem_range.mp hi)]
  exact h _ (List.getElem_mem _)
def ztd:Sp:=fun vs H Q _=>∃(wd:Addr)(m:Nat)(ts:List Tie)(y n:Nat),vs=[.ref wd,.int y,.int n]∧WoodT H wd m ts∧m≤9∧1≤m∧Stand m y n∧∀H' o,Same H H'→(match o with|none=>∀s,s<2^m→InS y n s→zbh ts s=false|some s=>s<2^m∧InS y n s∧zbh ts s=true∧∀s',s'<2^m→InS y n s'→zbh ts s'=true→s≤s')→Q (zhx o) H'
end Wd
namespace L2
open PySem PySem.Spec PyProof.Rows
theorem zxj{K:PySem.W.Frag}{a:Addr}{xs:List V}{σ0:St}{H:Hp}{g:TG}{tc:TT}{te:TE}{Q:VK}(hq:H a=some (.tup xs)∨H a=some (.lst xs))(Pv:Nat→List V→St→Hp→Prop)(h0:Pv 0 [] σ0 H)(hz:∀i ys σ H,i≤xs.length→Pv i ys σ H→ys.length≤sizeLine)
  (hl:∀i ys σ H2,i≤xs.length→Pv i ys σ H2→H2 a=H a)
  (hs:∀i x ys σ H,xs[i]?=some x→Pv i ys σ H→g x σ H fun σ3 H3=>tc σ3 H3 fun b H4=>if b=true then te σ3 H4 fun v H5=>Pv (i+1) (ys++[v]) σ3 H5 else Pv (i+1) ys σ3 H4)
  (hd:∀ys σ H,Pv xs.length ys σ H→∀p,H p=none→Q (.ref p) (upd H p (.lst ys))):
  ((∃xs,SqL K H a xs)∧zm5 (Itl K a) g tc te σ0 H Q)∨((∃xs,SqT K H a xs)∧zm5 (Itt K a) g tc te σ0 H Q):=by
 rcases hq with h|h
 ·exact .inr ⟨⟨_,Wd.sqT h⟩,zm4 Pv h0 hz (fun i ys σ H2 hi pv=>Wd.sqT ((hl i ys σ H2 hi pv).trans h)) hs hd⟩
 ·exact .inl ⟨⟨_,SqL.of h⟩,zbx Pv h0 hz (fun i ys σ H2 hi pv=>SqL.of ((hl i ys σ H2 hi pv).trans h)) hs hd⟩
end L2
namespace Wd
open PySem L2 Ow
def zu7(f:List (Nat×Int)→Nat→Nat→Int):Sp:=fun vs H Q _=>∃(q:Addr)(xs:List V)(ps:List (Nat×Int))(y n:Nat),vs=[.ref q,.int y,.int n]∧(H q=some (.tup xs)∨H q=some (.lst xs))∧DnL H (ps.map zlv) xs∧ps.length≤1000∧∀H',Same H H'→Q (.int (f ps y n)) H'
theorem zr7{f:List (Nat×Int)→Nat→Nat→Int}{vs:List V}{H:Hp}{Q:VK}{E:XK}(h:zwr f vs H Q E):zu7 f vs H Q E:=by
 obtain⟨q,xs,ps,y,n,e,hq,r⟩:=h
 exact⟨q,xs,ps,y,n,e,.inl hq,r⟩
end Wd
namespace L2
open PySem PySem.Spec PyProof.Rows
section
variable {X : Cx}
theorem zrq(hu:X.A.units+64<cLine):OpR X (compareOp .Eq) (fun x y H Q=>∃(a b:Addr)(xs:List V),x=.ref a∧y=.ref b∧H a=some (.lst xs)∧H b=some (.lst [])∧Q (.bl (decide (xs=[]))) H):=by
 intro pins s σ H x y v u Q I rx ry h
 obtain⟨a,b,xs,rfl,rfl,ha,hb,q⟩:=h
 by_cases hx:xs=[]
 ·subst hx
  refine zg8 hu pins s σ H _ _ v u Q I rx ry ⟨a,b,[],[],rfl,rfl,SqL.of ha,SqL.of hb,?_⟩
  exact q
 ·cases rx
  cases ry
  obtain⟨aa,n,r1,e1,_⟩:=I.lst ha
  obtain⟨ad,n2,r2,e2,_⟩:=I.lst hb
  cases r2
  have hl:=r1.length
  rw[decide_eq_false hx] at q
  refine PySem.P.eq_list_lengths e1 e2 ?_ (by omega) ⟨.bl false,H,I,rfl,q⟩
  cases aa with
  |nil=>cases r1;exact absurd rfl hx
  |cons c r=>simp
end
end L2
namespace Wd
open PySem L2 Ow
theorem zxq{K:PySem.W.Frag}{H:Hp}{pen a:Addr}{xs:List V}{o:HO}(h:SqL K H a xs)(hp:H pen=none):∀H',SameX pen (L2.upd H pen o) H'→SqL K H' a xs:=fun H' s=>by
 have keep:∀u,H a=some u→KpX pen (L2.upd H pen o) H' a u:=fun u e=>s a u (zat e hp) (by rw[zal (zat e hp)];exact e)
 rcases h with(h|⟨u,h⟩)|h
 ·exact .inl (.inl (keep _ h))
 ·exact .inl (.inr ⟨u,keep _ h⟩)
 ·exact .inr h
theorem zvr{K:PySem.W.Frag}{H:Hp}{pen sp:Addr}{ns:List Int}(h:SqL K H sp (ns.map V.int))(hl:ns.length≤63)(hp:H pen=none):Pen K (L2.upd H pen (.lst [.ref sp,.int 0])) pen sp ns 0:=⟨zab,hl,zxq h hp⟩
theorem land_yes{s y:Nat}:(s&&&y=y)↔∀k,y.testBit k=true→s.testBit k=true:=by
 constructor
 ·intro h k hk
  have:(s&&&y).testBit k=true:=by rw[h];exact hk
  rw[Nat.testBit_and,Bool.and_eq_true] at this
  exact this.1
 ·intro h
  refine Nat.eq_of_testBit_eq fun k=>?_
  rw[Nat.testBit_and]
  cases e:y.testBit k with
  |false=>rw[Bool.and_false]
  |true=>rw[h k e];rfl
theorem land_no{s n:Nat}:(s&&&n=0)↔∀k,n.testBit k=true→s.testBit k=false:=by
 constructor
 ·intro h k hk
  cases e:s.testBit k with
  |false=>rfl
  |true=>
   have:(s&&&n).testBit k=true:=by rw[Nat.testBit_and,e,hk];rfl
   rw[h,Nat.zero_testBit] at this
   cases this
 ·intro h
  refine Nat.eq_of_testBit_eq fun k=>?_
  rw[Nat.testBit_and,Nat.zero_testBit]
  cases e:n.testBit k with
  |false=>rw[Bool.and_false]
  |true=>rw[h k e];rfl
end Wd
namespace L2
open PySem PySem.Spec PyProof.Rows
def zyt:Option Stmt→Expr
 |some (Stmt.Return (some e) _)=>e
 |_=>.Constant .none 0 ⟨0,0,0,0⟩
section
variable {X : Cx} {tg iter elt : Expr} {cs : List Expr} {sc sc0 : Scope} {pos : Pos} {wi : TI} {g : TG} {tc : TT} {te : TE} {XN N' : List Str} {n : Nat} {kp : List Nat}
theorem piL{K:PySem.W.Frag}{l:Expr}{tl:TE}(hl:PE X l tl)(h:X.K=K:=by rfl):PI X tg l (zwz K tl):=h▸zv3 hl
theorem piT{K:PySem.W.Frag}{l:Expr}{tl:TE}(hl:PE X l tl)(h:X.K=K:=by rfl):PI X tg l (zyd K tl):=h▸zxo hl
end
end L2
namespace Wd
open PySem L2 Ow
def zcf(ts:List Tie)(il:List Nat)(m y n:Nat):Bool:=decide (zbg ts il m 9 y n=none)
theorem zee{ts:List Tie}{il:List Nat}{m y n:Nat}(ok:∀t∈ts,t.Ok m)(m9:m≤9)(S:Stand m y n):zcf ts il m y n=true↔∀s,s<2^m→InS y n s→zbl ts il s=false:=by
 have of:=zc8 m y n
 have F:=zdo (il:=il) ok 9 y n (by omega) S
 unfold zcf
 rw[decide_eq_true_eq]
 cases h:zbg ts il m 9 y n with
 |none=>
  rw[h] at F
  exact⟨fun _=>F,fun _=>rfl⟩
 |some g=>
  rw[h] at F
  refine⟨(fun z=>by cases z),fun z=>?_⟩
  have:=z g F.1 F.2.1
  rw[F.2.2.1] at this
  cases this
def zxk:Sp:=fun vs H Q _=>∃(wd:Addr)(m:Nat)(ts:List Tie)(tl:Addr)(il:List Nat)(y n:Nat),vs=[.ref wd,.ref tl,.int y,.int n]∧WoodT H wd m ts∧m≤9∧H tl=some (.lst (zam il))∧(∀i∈il,i<ts.length)∧∀H',Same H H'→Q (.bl (zcf ts il m y n)) H'
def zqu:Sp:=fun vs H Q _=>∃(l:Addr)(il:List Nat)(t:Nat),vs=[.ref l,.int t]∧H l=some (.lst (zam il))∧il.length≤1000∧∀(p:Addr)(H':Hp),Same H H'→H p=none→H' p=some (.lst (zam (il.filter fun i=>!decide (i=t))))→Q (.ref p) H'
abbrev zb1(il:List Nat)(t:Nat):List Nat:=il.filter fun i=>!decide (i=t)
def za6(ts:List Tie)(m y n:Nat)(left:List Nat)(t:Nat):List Nat:=if zcf ts (zb1 left t) m y n=true then zb1 left t else left
def zb2(ts:List Tie)(m y n:Nat):List Nat:=(zda ts).foldl (za6 ts m y n) (zda ts)
theorem leastStep_sub{ts:List Tie}{m y n:Nat}{left:List Nat}{t:Nat}:(za6 ts m y n left t).Sublist left:=by
 unfold za6
 split
 ·exact List.filter_sublist
 ·exact List.Sublist.refl _
theorem ze0{ts:List Tie}{m y n:Nat}:∀(l left:List Nat),(l.foldl (za6 ts m y n) left).Sublist left
 |[],left=>List.Sublist.refl _
 |t::l,left=>(ze0 l (za6 ts m y n left t)).trans leastStep_sub
structure zqp(H:Hp)(ol:Addr)(ts:List Tie)(m y n:Nat)(left:List Nat):Prop where
 ex:∃xs,H ol=some (.lst xs)∧xs.length=left.length∧∀(j t:Nat),left[j]?=some t→∃q,xs[j]?=some (.ref q)∧H q=some (.tup [.int (t:Int),zhx (zbg ts (zb1 left t) m 9 y n)])
theorem mem_without{il:List Nat}{t i:Nat}:i∈zb1 il t↔i∈il∧i≠t:=by
 rw[List.mem_filter]
 simp
theorem zr6{ts:List Tie}{il jl:List Nat}{m y n:Nat}(ok:∀t∈ts,t.Ok m)(m9:m≤9)(S:Stand m y n)(sub:∀i∈il,i∈jl)(h:zcf ts il m y n=true):zcf ts jl m y n=true:=by
 rw[zee ok m9 S] at h ⊢
 intro s sm hs
 have:=h s sm hs
 cases e:zbl ts jl s with
 |false=>rfl
 |true=>
  have z:zbl ts il s=true:=List.all_eq_true.mpr fun i hi=>List.all_eq_true.mp e i (sub i hi)
  rw[z] at this
  cases this
theorem zjs{ts:List Tie}{m y n:Nat}{left:List Nat}{t:Nat}(h:zcf ts left m y n=true):zcf ts (za6 ts m y n left t) m y n=true:=by
 unfold za6
 split
 ·next c=>exact c
 ·exact h
theorem zkd{ts:List Tie}{m y n:Nat}:∀(l left:List Nat),zcf ts left m y n=true→zcf ts (l.foldl (za6 ts m y n) left) m y n=true
 |[],_,h=>h
 |t::l,left,h=>zkd l _ (zjs h)
theorem zhz{ts:List Tie}{m y n:Nat}(ok:∀t∈ts,t.Ok m)(m9:m≤9)(S:Stand m y n):∀(l left:List Nat)(t:Nat),t∈l→t∈l.foldl (za6 ts m y n) left→zcf ts (zb1 (l.foldl (za6 ts m y n) left) t) m y n=false
 |[],_,_,h,_=>nomatch h
 |u::l,left,t,h,hm=>by
  by_cases tl:t∈l
  ·exact zhz ok m9 S l (za6 ts m y n left u) t tl hm
  ·have e:t=u:=by
    rcases List.mem_cons.mp h with z|z
    ·exact z
    ·exact absurd z tl
   subst e
   have sub:=ze0 (ts:=ts) (m:=m) (y:=y) (n:=n) l (za6 ts m y n left t)
   have aa:t∈za6 ts m y n left t:=sub.subset hm
   have c:¬zcf ts (zb1 left t) m y n=true:=fun c=>by
    unfold za6 at aa
    rw[if_pos c] at aa
    exact(mem_without.mp aa).2 rfl
   refine Bool.eq_false_iff.mpr fun z=>c (zr6 ok m9 S (fun i hi=>?_) z)
   obtain⟨a,b⟩:=mem_without.mp hi
   exact mem_without.mpr ⟨leastStep_sub.subset (sub.subset a),b⟩
theorem leastL_sub{ts:List Tie}{m y n:Nat}:(zb2 ts m y n).Sublist (zda ts):=ze0 _ _
theorem zpi{ts:List Tie}{m y n:Nat}(h:zcf ts (zda ts) m y n=true):zcf ts (zb2 ts m y n) m y n=true:=zkd _ _ h
theorem zli{ts:List Tie}{m y n:Nat}(ok:∀t∈ts,t.Ok m)(m9:m≤9)(S:Stand m y n){t:Nat}(h:t∈zb2 ts m y n):zcf ts (zb1 (zb2 ts m y n) t) m y n=false:=
 zhz ok m9 S _ _ t (leastL_sub.subset h) h
theorem zf5(k:Nat)(op:List Nat):inV (.int (k:Int)) (zam op)=decide (k∈op):=by
 induction op with
 |nil=>rfl
 |cons a r ih=>
  have e:inV (.int (k:Int)) (zam (a::r))=(eqV (.int (a:Int)) (.int (k:Int))||inV (.int (k:Int)) (zam r)):=rfl
  rw[e,ih]
  have e2:eqV (.int (a:Int)) (.int (k:Int))=decide (k=a):=by
   show((a:Int)==(k:Int))=_
   by_cases z:k=a
   ·subst z;simp
   ·rw[decide_eq_false z]
    simpa using fun h=>z (by omega)
  rw[e2]
  simp[List.mem_cons,Bool.decide_or]
theorem zgo(op:List Nat):(zam op).all zh2=true:=by
 rw[List.all_eq_true]
 intro x hx
 obtain⟨i,_,rfl⟩:=List.mem_map.mp hx
 rfl
end Wd
namespace L2
open PySem PySem.Spec PyProof.Rows
def zog(f:Addr)(qual:Str)(params:Arguments)(body:Expr)(scope:Scope)(cl:List (Str×Addr))(c:Addr):Heap→Prop:=
 fun h=>∃(pm ctv:Value),h.get? f=some (PySem.W.kla_obj "<lambda>" qual params body scope cl pm c ctv)
structure zkp(mg:Str→Option Value)(base:Heap)(c P:Addr):Prop where
 code:PySem.W.CodeHd base c P
 blt:∃bm ob,mg "__builtins__" = some (.ref bm)∧bm≠builtinsNs∧base.get? bm=some ob∧ob.cls=.type "module" ∧ ob.dict=some builtinsNs∧ob.data=.plain
theorem zpy{P:Program}{w:World}{H:Hp}{h:Heap}{a:Addr}{φ:Heap→Prop}(hH:H a=some (.ext φ))(ok:HOk P w H h):φ h:=(ok a _ hH).1
section
variable {X : Cx} {params : Arguments} {body : Expr} {scope : Scope} {pos : Pos} {c P : Addr}
theorem zxd(hc:X.env.code=.ref c)(B:zkp X.mg X.base c P)(hdef:defaultsOf params X.env=([],[]))(hfr:∀y∈scope.names,y.2=.free→∃c,X.env.cells.lookup y.1=some c):
  PE X (.Lambda params body scope pos) (fun σ H Q=>zcm H P∧∀(f c':Addr)(H1:Hp),H f=none→Same H H1 →
   H1 f=some (.ext (zog f (X.env.qual ++ "<lambda>") params body scope (zge scope X.env) c'))→H1 c'=some (.ext (zgz c'))→Q (.ref f) H1):=by
 intro pins s σ H Q I hq
 obtain⟨⟨ps,hP,tr,ar⟩,q⟩:=hq
 refine PySem.W.kla_eval hdef ?_
 have ai:s.heap.get? P=some (PySem.W.tabObj ps):=I.hok P _ hP
 have hg:s.heap.Ns mainGlobals X.mg:=I.mod.glob.keeps I.bk
 have C:PySem.W.CodeHd s.heap c P:=B.code.keeps I.bk
 have aD:mainGlobals≠P:=fun z=>by
  obtain⟨o,es,ep,e,hd,_⟩:=hg
  rw[z,ai] at e;cases e;cases hd
 have hb:s.heap.BuiltinsAt X.mg P:=by
  obtain⟨bm,ob,b1,b2,b3,b4,b5,b6⟩:=B.blt
  have ah:=I.bk _ _ b3
  refine⟨bm,ob,b1,b2,fun z=>?_,fun z=>?_,ah,b4,b5,b6⟩
  ·obtain⟨o,es,ep,e,hd,_⟩:=hg
   rw[z,e] at ah;cases ah;rw[hd] at b6;cases b6
  ·rw[z,ai] at ah;cases ah;cases b4
 have aq:closureFor scope X.env=pure (zge scope X.env):=zq6 hfr
 rcases ar pos with aE|⟨c',hf,aF⟩
 ·refine PySem.W.kla_makeFunction aq I.ok.glob hg hc C ai tr aE aD hb fun c' aj h' tk hx ag am ao aw=>?_
  have ax:P<s.heap.objs.size:=Heap.lt_size ai
  have aB:H c'=none:=I.hok.fresh ag
  have af:H h'.objs.size=none:=I.hok.fresh (Nat.le_trans ag (Nat.le_of_lt am))
  have cf:c'≠h'.objs.size:=Nat.ne_of_lt am
  have cP:c'≠P:=Nat.ne_of_gt (Nat.lt_of_lt_of_le ax ag)
  have fP:h'.objs.size≠P:=Nat.ne_of_gt (Nat.lt_of_lt_of_le ax (Nat.le_trans ag (Nat.le_of_lt am)))
  have keep:∀b o,b≠P→s.heap.get? b=some o→(h'.push (PySem.W.kla_obj "<lambda>" (X.env.qual ++ "<lambda>") params body scope (zge scope X.env) ((X.mg "__name__").getD .none) c' aj)).get? b=some o:=fun b o hb e=>Heap.get?_push_of_some _ (hx b o hb e)
  obtain⟨c2,oc,vs,t,e2,ay,hd,hv⟩:=ao
  cases e2
  let H1:Hp:=upd (upd (upd H P (.tbl (ps++#[rawInt pos.line,rawInt pos.col,.ref c']))) c' (.ext (zgz c'))) h'.objs.size (.ext (zog h'.objs.size (X.env.qual ++ "<lambda>") params body scope (zge scope X.env) c'))
  have av:H1 h'.objs.size=some (.ext (zog h'.objs.size (X.env.qual ++ "<lambda>") params body scope (zge scope X.env) c')):=zab
  have ap:H1 c'=some (.ext (zgz c')):=by show upd _ _ _ c'=_;rw[zal cf,zab]
  have al:H1 P=some (.tbl (ps++#[rawInt pos.line,rawInt pos.col,.ref c'])):=by show upd _ _ _ P=_;rw[zal (Ne.symm fP),zal (Ne.symm cP),zab]
  have ad:∀b,b≠h'.objs.size→b≠c'→b≠P→H1 b=H b:=fun b n1 n2 n3=>by show upd _ _ _ b=_;rw[zal n1,zal n2,zal n3]
  have aa:∀b u,H b=some u→b≠h'.objs.size∧b≠c':=fun b u e=>⟨zat e af,zat e aB⟩
  have ak:∀b,H b=some (.ext (zgz b))→H1 b=some (.ext (zgz b)):=fun b e=>by rw[ad b (aa b _ e).1 (aa b _ e).2 (fun z=>by rw[z,hP] at e;cases e)];exact e
  have tabs:zcm H1 P:=⟨_,al,by rw[Array.toList_append];exact TriplesOk_snoc _ _ _ _ tr,fun p'=>by
   rw[Array.toList_append]
   rcases zj6 (pos:=p') (pos':=pos) (c:=.ref c') ps.toList tr with z|z
   ·rcases ar p' with y|⟨d,y1,y2⟩
    ·exact .inl (z.trans y)
    ·exact .inr ⟨d,z.trans y1,ak d y2⟩
   ·exact .inr ⟨c',z,ap⟩⟩
  have same:Same H H1:=fun b o e=>by
   by_cases ae:b=P
   ·subst ae
    rw[hP] at e
    cases e
    exact⟨⟨_,al⟩,fun _=>tabs⟩
   ·exact Kp.of e (by rw[ad b (aa b _ e).1 (aa b _ e).2 ae];exact e) ak
  have un:Un X.fs [] H H1 s.heap (h'.push (PySem.W.kla_obj "<lambda>" (X.env.qual ++ "<lambda>") params body scope (zge scope X.env) ((X.mg "__name__").getD .none) c' aj)):=by
   have np:∀b,H b=none→b≠P:=fun b n z=>by rw[z,hP] at n;cases n
   refine⟨fun b o e n _ _=>keep b o (np b n) e,fun b o e n _ _=>⟨o.slots,keep b o (np b n) e⟩,fun b o e n _=>?_,fun b o e _=>?_,fun b xs e=>?_,fun b o u e=>?_,fun b qs e=>?_⟩
   ·have l:=Heap.lt_size e
    rw[ad b (Nat.ne_of_lt (Nat.lt_trans (Nat.lt_of_lt_of_le l ag) am)) (Nat.ne_of_lt (Nat.lt_of_lt_of_le l ag)) (np b n)]
    exact n
   ·by_cases ae:b=P
    ·subst ae
     exact⟨_,Heap.get?_push_of_some _ aw⟩
    ·exact⟨o,keep b o ae e⟩
   ·rw[ad b (aa b _ e).1 (aa b _ e).2 (fun z=>by rw[z,hP] at e;cases e)]
    exact e
   ·rw[ad b (aa b _ e).1 (aa b _ e).2 (fun z=>by rw[z,hP] at e;cases e)]
    exact e
   ·by_cases ae:b=P
    ·subst ae
     rw[hP] at e
     cases e
     exact⟨_,al⟩
    ·exact⟨#[],by rw[ad b (aa b _ e).1 (aa b _ e).2 ae,e];simp⟩
  have aA:HOk X.prog X.w H1 (h'.push (PySem.W.kla_obj "<lambda>" (X.env.qual ++ "<lambda>") params body scope (zge scope X.env) ((X.mg "__name__").getD .none) c' aj)):=fun b u e=>by
   by_cases h1:b=h'.objs.size
   ·subst h1
    rw[av] at e
    cases e
    exact⟨⟨_,_,Heap.get?_push_size _ rfl⟩,⟨_,Heap.get?_push_size _ rfl⟩,fun h1 h2 ⟨pm,cv,z⟩ k=>⟨pm,cv,k _ z⟩⟩
   ·by_cases h2:b=c'
    ·subst h2
     rw[ap] at e
     cases e
     exact⟨⟨oc,vs,_,t,Heap.get?_push_of_some _ ay,hd,hv⟩,⟨_,Heap.get?_push_of_some _ ay⟩,fun h1 h2 ⟨o,v,qq,tt,z1,z2,z3⟩ k=>⟨o,v,qq,tt,k _ z1,z2,z3⟩⟩
    ·by_cases h3:b=P
     ·subst h3
      rw[al] at e
      cases e
      exact Heap.get?_push_of_some _ aw
     ·rw[ad b h1 h2 h3] at e
      refine(I.hok b u e).stay (fun b' o' aC e'=>?_) (fun b' e'=>?_) fun b' xs e'=>?_
      ·refine keep b' o' ?_ e'
       rcases aC with z|z
       ·rw[z];exact h3
       ·intro z2;rw[z2,hP] at z;cases z
      ·rw[ad b' (aa b' _ e').1 (aa b' _ e').2 (fun z=>by rw[z,hP] at e';cases e')];exact e'
      ·rw[ad b' (aa b' _ e').1 (aa b' _ e').2 (fun z=>by rw[z,hP] at e';cases e')];exact e'
  exact⟨.ref h'.objs.size,H1,I.un un aA,rfl,q _ c' H1 af same av ap⟩
 ·refine PySem.W.kla_makeFunctionHit aq I.ok.glob hg hc C ai tr hf hb fun aj h' tk hk hsz=>?_
  have af:H h'.objs.size=none:=I.hok.fresh hsz
  have keep:∀b o,s.heap.get? b=some o→(h'.push { cls:=.type "function",data:=.func (PySem.W.kla_fn "<lambda>" (X.env.qual ++ "<lambda>") params body scope (zge scope X.env) ((X.mg "__name__").getD .none) (.ref c') aj) }).get? b=some o:=fun b o e=>Heap.get?_push_of_some _ (hk b o e)
  have same:Same H (upd H h'.objs.size (.ext (zog h'.objs.size (X.env.qual ++ "<lambda>") params body scope (zge scope X.env) c'))):=znb fun b u e=>by rw[zal (zat e af)];exact e
  refine⟨.ref h'.objs.size,_,I.un (Un.laid keep hsz af) (I.hok.laid keep hsz ?_),rfl,q _ c' _ af same zab (same c' _ aF)⟩
  exact⟨⟨_,_,Heap.get?_push_size _ rfl⟩,⟨_,Heap.get?_push_size _ rfl⟩,fun h1 h2 ⟨pm,cv,z⟩ k=>⟨pm,cv,k _ z⟩⟩
end
def zdw(h:Heap)(H:Hp)(st:List Env):Heap:=PySem.W.hideAll h (trk h H++frs st)
section
variable {X : Cx} {pins : List (Addr × Obj)} {σ : St} {H : Hp} {s : Shared}
theorem zk2{h:Heap}{H:Hp}{st:List Env}{b:Addr}{o:Obj}(e:(zdw h H st).get? b=some o):h.get? b=some o∧H b=none∧b∉frs st:=by
 have e':h.get? b=some o:=PySem.W.of_hideAll _ e
 refine⟨e',?_,fun z=>?_⟩
 ·cases q:H b with
  |none=>rfl
  |some x=>
   have hm:b∈trk h H:=List.mem_filter.mpr ⟨List.mem_range.mpr (Heap.lt_size e'),by simp[q]⟩
   have z:(zdw h H st).get? b=none:=PySem.W.hideAll_none _ (List.mem_append_left _ hm)
   rw[z] at e;cases e
 ·have y:(zdw h H st).get? b=none:=PySem.W.hideAll_none _ (List.mem_append_right _ z)
  rw[y] at e;cases e
theorem ziv{h:Heap}{H:Hp}{st:List Env}{b:Addr}{o:Obj}(e:h.get? b=some o)(n:H b=none)(hf:b∉frs st):(zdw h H st).get? b=some o:=
 PySem.W.hideAll_get _ e fun hm=>by
  rcases List.mem_append.mp hm with z|z
  ·have q:(H b).isSome=true:=(List.mem_filter.mp z).2
   rw[n] at q;simp at q
  ·exact hf z
theorem Inv.noStk(I:Inv X pins σ H s){b:Addr}{o:Obj}(e:X.base.get? b=some o):b∉frs X.stack:=fun hb=>by
 have:=(I.stack.mem hb).1
 rw[e] at this;cases this
theorem Inv.now(I:Inv X pins σ H s):Env0 X.prog X.w X.K X.mg (zdw s.heap H X.stack) X.A X.stack s H:=by
 have up:∀b o,X.base.get? b=some o→(zdw s.heap H X.stack).get? b=some o:=fun b o e=>ziv (I.bs b o e).1 (I.bs b o e).2 (I.noStk e)
 obtain⟨mb,h1,h2⟩:=I.mod.blt
 refine⟨I.ok.frames,⟨I.mod.kin.keeps up,I.mod.glob.keeps up,⟨mb,h1.keeps up,h2⟩,I.mod.nolimit.keeps up⟩,fun b o e=>⟨(zk2 e).1,(zk2 e).2.1⟩,Nat.le_of_eq (PySem.W.hideAll_size _ _),?_,I.stkFree,I.hok,I.bare⟩
 have go:∀l:List Env,(∀b∈frs l,b∈frs X.stack)→s.heap.FunFrames X.base l→s.heap.FunFrames (zdw s.heap H X.stack) l:=by
  intro l
  induction l with
  |nil=>intro _ _;trivial
  |cons env r ih=>
   intro hs hl
   obtain⟨hk,⟨L,o,hf,hn,ho,hd⟩,hr⟩:=hl
   have hL:L∈frs X.stack:=hs L (by unfold frs;rw[List.filterMap_cons,hf];exact List.mem_cons_self)
   refine⟨hk,⟨L,o,hf,?_,ho,hd⟩,ih (fun b hb=>hs b (by unfold frs;rw[List.filterMap_cons,hf];exact List.mem_cons_of_mem _ hb)) hr⟩
   exact PySem.W.hideAll_none _ (List.mem_append_right _ hL)
 exact go X.stack (fun _ h=>h) I.stack
theorem Inv.nowCell(I:Inv X pins σ H s){x:Str}{c:Addr}{v:Option Value}(hf:X.fn x=true)(hc:X.env.cells.lookup x=some c)(h:s.heap.IsCell c v):(zdw s.heap H X.stack).IsCell c v:=by
 obtain⟨o,ho,hd⟩:=h
 refine⟨o,ziv ho (I.freeC x c hc) fun z=>?_,hd⟩
 rcases List.mem_cons.mp (I.stkSub c z) with e|e
 ·exact I.cne x c hc e
 ·obtain⟨_,ob,e2,_⟩:=I.ok.funs.mem e
  exact absurd (Nat.lt_of_lt_of_le (Heap.lt_size e2) (I.ok.cab x c hf hc)) (Nat.lt_irrefl _)
end
section
variable {X : Cx} {k : Nat} {f : Addr} {fd : FuncData} {ps : List Str} {x : Str} {p pos : Pos} {e : Expr} {es : List Expr} {t : TA}
def zrb(X:Cx)(σ:St)(base:Heap):Prop:=∀(i:Nat)(y:Str)(v:V),X.N[i]?=some y→σ[i]?=some (some v)→X.env.kindOf y=some .cell→∃c u,X.env.cells.lookup y=some c∧RelV v u∧base.IsCell c (some u)
theorem zti(hr:Room k X.A)(hg:Gl X x)(hm:X.mg x=some (.ref f))(hk:PySem.W.keepIn X.K (.ref f)=true)(hb:Binds X.K fd ps [])(hfn:∀y,X.fn y=true)
  (ha:PA X (e::es) t) (hdb:(x==("__debug__" : Str))=false:=by decide) (he:starEach (e::es) X.env=(false,eval e X.env)::starEach es X.env:=by rfl) (hpl:(backTo pos (starEach es X.env)).any (·.1)=false:=by rfl):
  PE X (.Call (.Name x p) (e::es) [] pos) (fun σ H Q=>t σ H fun vs H1=>∀base:Heap,zrb X σ base→X.K.In base→base.Ns mainGlobals X.mg→∃sp:Sp,FnOk X.prog X.w X.K X.mg base CX0 k f fd ps sp∧sp vs H1 Q E0):=by
 intro pins s σ H Q I h
 refine wpAny_Call_Name_kw (zm2 I hg hm ?_ hdb)
 refine PySem.W.callWith_K (h₀:=X.base) I.ok.mod.kin hk (thn (ha pos pins s σ H _ I h) fun us s1 ⟨vs,H1,I1,r,q⟩=>⟨I1.kIn,?_⟩) he hpl
 have e0:=I1.now
 have ci:zrb X σ (zdw s1.heap H1 X.stack):=fun i y v hN hv hk=>by
  obtain⟨m,hn,hl⟩:=I1.loc
  obtain⟨u,ru,l⟩:=hl i y v hN hv (.inr (.inl hk))
  rcases l with⟨ad,_⟩|⟨_,c,hc,aa⟩
  ·rw[hk] at ad;cases ad
  ·exact⟨c,u,hc,ru,I1.nowCell (hfn y) hc aa⟩
 obtain⟨sp,F,hs⟩:=q _ ci e0.mod.kin e0.mod.glob
 have hl:us.length=ps.length:=by rw[←r.length];exact F.len _ _ _ _ hs
 have ae:=hb s1 us I1.kIn (by rw[List.append_nil];exact hl)
 rw[List.append_nil] at ae
 refine wpAny_call (codeAny_mono (F.run X.A X.stack s1 H1 ⟨us,[]⟩ us vs Q E0 hr e0 ae r hs) fun r s' hq=>?_)
 cases r with
 |error e=>exact hq.elim
 |ok fl=>
  cases fl with
  |ret u=>exact I1.after hq
  |next=>exact False.elim hq
  |brk=>exact False.elim hq
  |cont=>exact False.elim hq
theorem ztp{i:Nat}{φ:Heap→Prop}{sp:Sp}(F:FnOk X.prog X.w X.K X.mg X.base CX0 k f fd ps sp)(hr:Room k X.A)(hN:X.N[i]?=some x)(hv:Vis X.env.scope x)(hb:Binds X.K fd ps [])
  (hφ:∀h:Heap,φ h→∃o fd',h.get? f=some o∧o.data=.func fd') (ha:PA X (e::es) t)
  (hdb:(x==("__debug__" : Str))=false:=by decide) (hcd:(x==("__classdict__" : Str))=false:=by decide) (he:starEach (e::es) X.env=(false,eval e X.env)::starEach es X.env:=by rfl) (hpl:(backTo pos (starEach es X.env)).any (·.1)=false:=by rfl):
  PE X (.Call (.Name x p) (e::es) [] pos) (fun σ H Q=>σ[i]?=some (some (.ref f))∧t σ H fun vs H1=>H1 f=some (.ext φ)∧sp vs H1 Q E0):=by
 intro pins s σ H Q I h
 obtain⟨hσ,h⟩:=h
 refine wpAny_Call_Name_kw (wpAny_mono (ztj hN hv hdb hcd pins s σ H (fun v H'=>v=.ref f∧H'=H) I ⟨_,hσ,rfl,rfl⟩) (fun u s1 hu=>?_) fun _ _ z=>z)
 obtain⟨v,H',I',rv,e1,e2⟩:=hu
 subst e1
 subst e2
 obtain rfl:u=Value.ref f:=rv
 have h2:wpAny (model X.prog X.w) X.A (spliced (backTo pos (starEach (e::es) X.env))) (fun vs s₁=>(∃o fd',s₁.heap.get? f=some o∧o.data=.func fd')∧wpAny (model X.prog X.w) X.A (call (.ref f) ([]++vs)) (EP X pins σ Q) X.xe s₁) X.xe s1:=by
  refine thn (ha pos pins s1 σ _ _ I' h) fun us s2 ⟨vs,H1,I1,r,e3,q⟩=>⟨hφ _ (zpy e3 I1.hok),?_⟩
  have hq:=znk (ds:=[]) (dvs:=[]) (E:=E0) F hr hb .nil zc1 I1 r (by rw[List.append_nil];exact q)
  exact hq
 rw[he] at h2
 show wpAny _ _ (callWith pos (.ref f) [] (backTo pos (starEach (e::es) X.env)) []) _ _ s1
 rw[he]
 refine PySem.W.callWith_of (by show((false||(backTo pos (starEach es X.env)).any (·.1))||false)=false;rw[hpl];rfl) (P:=fun h=>∃o fd',h.get? f=some o∧o.data=.func fd') (fun h ⟨o,fd',e1,e2⟩=>?_) (Calls.evalArgs_plain h2)
 obtain⟨oc,od,aa,os⟩:=o
 cases e2
 exact⟨.frame,.inl rfl,(PySem.W.Looks.ld (part:=none) e1).andThen .now⟩
end
structure zpp(ps fr:List Str)(sc:Scope):Prop where
 kind:sc.kind=.function
 co:sc.isCoroutine=false
 gen:sc.isGenerator=false
 nd:ps.Nodup
 par:∀x∈ps,sc.names.lookup x=some .local
 fre:∀x∈fr,sc.names.lookup x=some .free
 nocell:∀y∈sc.names,y.2≠.cell
theorem zkf{ps:List Str}{us:List Value}{i:Nat}{x:Str}{u:Value}(nd:ps.Nodup)(h1:ps[i]?=some x)(h2:us[i]?=some u):(ps.zip us).reverse.lookup x=some u:=by
 have hm:(x,u)∈(ps.zip us).reverse:=List.mem_reverse.mpr (List.mem_of_getElem? (i:=i) (by rw[List.getElem?_zip_eq_some];exact⟨h1,h2⟩))
 obtain⟨c,hc⟩:=zf4 hm
 have h3:=List.mem_reverse.mp (PySem.mem_of_lookup hc)
 obtain⟨j,hj⟩:=List.getElem?_of_mem h3
 rw[List.getElem?_zip_eq_some] at hj
 have aa:j=i:=by
  obtain⟨l1,e1⟩:=List.getElem?_eq_some_iff.mp h1
  obtain⟨l2,e2⟩:=List.getElem?_eq_some_iff.mp hj.1
  rw[List.nodup_iff_pairwise_ne,List.pairwise_iff_getElem] at nd
  rcases Nat.lt_trichotomy j i with z|z|z
  ·exact absurd (e2.trans e1.symm) (nd j i l2 l1 z)
  ·exact z
  ·exact absurd (e1.trans e2.symm) (nd i j l1 l2 z)
 rw[aa,h2] at hj
 rw[hc,hj.2]
def ztq(P:Program)(w:World)(K:PySem.W.Frag)(mg:Str→Option Value)(base:Heap)(N:List Str)(q:Str)(scope:Scope)(f c:Addr)(cl:List (Str×Addr))(A:Around)(outer:List Env)(s:Shared)(H:Hp):Cx where
 prog:=P
 w:=w
 K:=K
 mg:=mg
 base:=base
 A:=A.deeper (PySem.W.envX q scope s.heap.objs.size f (.ref c) cl)
 N:=N
 s₀:=s
 H₀:=H
 env:=PySem.W.envX q scope s.heap.objs.size f (.ref c) cl
 outer:=outer
 stack:=PySem.W.envX q scope s.heap.objs.size f (.ref c) cl::outer
 ex:=[]
 calm:=true
 fn:=fun _=>false
 pn:=[]
 xe:=fun _ _=>False
theorem ztf{prog:Program}{w:World}{A:Around}{R:Result→Shared→Prop}{s:Shared}{a:Addr}{args:Args}{o:Obj}{fd:FuncData}{body:Expr}{q:Str}(hroom:A.depth<recursionLimit)
  (ho:s.heap.get? a=some o)
  (hd':o.data=.func fd) (hco:fd.scope.isCoroutine=false) (hgen:fd.scope.isGenerator=false) (hbody:fd.body=.expr body) (hcd:∃c oc vs t,fd.code=.ref c∧s.heap.get? c=some oc∧oc.data=.fields vs∧vs[1]?=some (.str q t))
  (h:wpAny (model prog w) A.in1 (bindArgs fd args) (fun binds s₁=>
   wpAny (model prog w) A.in1 (newFunctionEnv fd.scope fd.globals fd.closure binds (q ++ ".<locals>.") (some a) fd.code none fd.builtins)
    (fun env s₂=>s₂.heap.NoLimit∧codeAny (model prog w) A (.expr body env) R s₂) (fun e s'=>R (.error e) s') s₁) (fun e s'=>R (.error e) s') s):
  codeAny (model prog w) A (.call (.ref a) args) R s:=by
 refine codeAny_of_tree ?_
 show wpAny _ A.in1 (callAny (.ref a) args) _ _ s
 simp only[callAny]
 refine wpAny_bind (wpAny_load ho ?_)
 obtain⟨c,oc,vs,tq,hc,aa,ad,hq⟩:=hcd
 simp only[hd',callFunction,hco,hgen,hbody,hc]
 rw[hc] at h
 refine wpAny_bind (m:=field (.ref c) 1) (wpAny_field aa ad hq (wpAny_bind (wpAny_pure ?_)))
 exact wpAny_bind (wpAny_mono h (fun binds s₁ h₁=>wpAny_bind (wpAny_mono h₁ (fun env s₂ h₂=>wpAny_bind (wpAny_enterFrame h₂.1 hroom
  (wpAny_pure (And.intro rfl h₂.2)))) fun _ _ h'=>h')) fun _ _ h'=>h')
theorem zxs{P:Program}{w:World}{K:PySem.W.Frag}{mg:Str→Option Value}{base:Heap}{f c:Addr}{qual:Str}{params:Arguments}{body:Expr}{scope:Scope}{cl:List (Str×Addr)}{ps fr:List Str}{fv:List V}{k:Nat}{sp:Sp}
  (S:zpp ps fr scope) (hcl:∀x cc,cl.lookup x=some cc→∃v,base.IsCell cc v) (inj:∀x y cc,cl.lookup x=some cc→cl.lookup y=some cc→x=y) (has:∀y∈scope.names,y.2=.free→∃cc,cl.lookup y.1=some cc)
  (hfv:∀(i:Nat)(x:Str)(v:V),fr[i]?=some x→fv[i]?=some v→∃cc u,cl.lookup x=some cc∧RelV v u∧base.IsCell cc (some u)) (hlen:fv.length=fr.length)
  (hsame:∀pm ctv args,bindArgs (PySem.W.kla_fn "<lambda>" qual params body scope cl pm (.ref c) ctv) args=bindArgs (PySem.W.kla_fn "<lambda>" qual params body scope cl .none (.ref c) .none) args)
  (len:∀vs H Q E,sp vs H Q E→vs.length=ps.length)
  (lam:∀vs H Q E,sp vs H Q E→H f=some (.ext (zog f qual params body scope cl c))∧H c=some (.ext (zgz c)))
  (hbody:∀(q:Str)(A:Around)(outer:List Env)(s:Shared)(H:Hp)(vs:List V)(Q:VK)(E:XK),Room k (A.deeper (PySem.W.envX q scope s.heap.objs.size f (.ref c) cl))→sp vs H Q E →
   ∃t,PE (ztq P w K mg base (ps++fr) q scope f c cl A outer s H) body t∧t (vs.map some++fv.map some) H Q):
  FnOk P w K mg base CX0 (k+1) f (PySem.W.kla_fn "<lambda>" qual params body scope cl .none (.ref c) .none) ps sp:=by
 refine⟨len,fun A outer s H args us vs Q E hr e0 hb r ag=>?_⟩
 have hl:=len _ _ _ _ ag
 obtain⟨hf,hc⟩:=lam _ _ _ _ ag
 obtain⟨pm,ctv,ho⟩:=zpy hf e0.hok
 obtain⟨oc,ak,q,t,ap,aq,am⟩:=zpy hc e0.hok
 have aj:s.heap.NoLimit:=e0.mod.nolimit.keeps fun b o e=>(e0.bs b o e).1
 have ah:∀{cc v},base.IsCell cc v→s.heap.IsCell cc v∧H cc=none:=fun {cc v} ⟨o,e,d⟩=>⟨⟨o,(e0.bs _ _ e).1,d⟩,(e0.bs _ _ e).2⟩
 refine ztf hr.depth ho rfl S.co S.gen rfl ⟨c,oc,ak,t,rfl,ap,aq,am⟩ ?_
 rw[hsame]
 refine hb _ _ _ _ ?_
 have ai:∀y∈ps.zip us,scope.names.lookup y.1=some .local:=fun⟨n,v⟩ hy=>S.par n (List.of_mem_zip hy).1
 refine wpAny_newFunctionEnv S.nocell ai (fun h₁ ao al=>?_) S.kind
 have ae:∀b o,s.heap.get? b=some o→h₁.get? b=some o:=fun b o e=>al.extBut b o (Nat.ne_of_lt (Heap.lt_size e)) (Heap.get?_push_of_some _ e)
 refine⟨aj.keeps ae,?_⟩
 obtain⟨tt,ht,hq⟩:=hbody q A outer s H vs Q E (hr.deeper _) ag
 have af:∀b:Addr,b∉([]:List Addr):=fun b z=>by simp at z
 have ad:∀x,(scope.names.lookup x=some .cell∨scope.names.lookup x=some .free)→∃cc,cl.lookup x=some cc:=fun x hx=>by
  rcases hx with z|z
  ·exact absurd rfl (S.nocell _ (PySem.mem_of_lookup z))
  ·exact has _ (PySem.mem_of_lookup z) rfl
 have I:Inv (ztq P w K mg base (ps++fr) q scope f c cl A outer s H) [] (vs.map some++fv.map some) H { s with heap:=h₁,toks:=s.toks+(ps.zip us).length }:=by
  refine⟨⟨e0.mod,S.kind,rfl,rfl,Nat.le_refl _,inj,ad,fun x cc z=>(by cases z),fun _=>hr.hd,Around.frames_deeper e0.frames,.inr ⟨rfl,rfl⟩,fun b z=>absurd z (af b),e0.bs,e0.bsz,fun b _ _=>af b,fun b z=>absurd z (af b),e0.funs,e0.frf⟩,
   rfl,e0.bare,Un.kept ae,⟨_,ao,fun i x v h1 h2 h3=>?_⟩,fun x cc e=>?_,e0.hok.fresh (Nat.le_refl _),fun x cc e=>?_,fun p hp=>absurd (show p∈([]:List (Addr×Obj)) from hp) (by simp),e0.hok.kept ae,?_⟩
  ·have aa:(ps++fr)[i]?=some x:=h1
   by_cases hi:i<ps.length
   ·rw[List.getElem?_append_left hi] at aa
    rw[List.getElem?_append_left (by rw[List.length_map,hl];exact hi),List.getElem?_map] at h2
    obtain⟨v',hv,e⟩:=Option.map_eq_some_iff.mp h2
    cases e
    obtain⟨u,hu,rv⟩:=r.get hv
    exact⟨u,rv,.inl ⟨S.par x (List.mem_of_getElem? aa),zkf S.nd aa hu⟩⟩
   ·rw[List.getElem?_append_right (by omega)] at aa
    rw[List.getElem?_append_right (by rw[List.length_map,hl];omega),List.getElem?_map,List.length_map,hl] at h2
    obtain⟨v',hv,e⟩:=Option.map_eq_some_iff.mp h2
    cases e
    obtain⟨cc,u,e1,ru,ic⟩:=hfv _ _ _ aa hv
    exact⟨u,ru,.inr ⟨.inr (S.fre x (List.mem_of_getElem? aa)),cc,e1,(ah ic).1.keeps ae⟩⟩
  ·obtain⟨v,ic⟩:=hcl x cc e
   exact⟨v,(ah ic).1.keeps ae⟩
  ·obtain⟨v,ic⟩:=hcl x cc e
   exact(ah ic).2
  ·show(vs.map some++fv.map some).length=(ps++fr).length
   rw[List.length_append,List.length_append,List.length_map,List.length_map,hl,hlen]
 refine PySem.W.kla_codeExpr (wpAny_mono (ht [] _ _ H _ I hq) (fun u s' hs=>?_) fun e s' hs=>hs.elim)
 obtain⟨v,H',J,rv,qq⟩:=hs
 exact⟨v,H',J.os,J.bare,J.base,J.hok,rv,qq⟩
theorem Fun.okC{P:Program}{w:World}{K:PySem.W.Frag}{mg:Str→Option Value}{base:Heap}{x qual:Str}{st:Stmt}{f:Addr}{fd:FuncData}{N ps:List Str}{k:Nat}{sp:Sp}(F:Fun K x qual st f fd)(S:zay N ps (zah st))(len:∀vs H Q E,sp vs H Q E→vs.length=ps.length)
  (hbody:∀(cdv:Value)(A:Around)(outer:List Env)(s:Shared)(H:Hp)(vs:List V)(Q:VK)(E:XK),fd.code=cdv→Room k (A.deeper (envOfC qual (zah st) s.heap.objs.size f cdv))→sp vs H Q E →
   ∃t,PSs (zd2 CX0 P w K mg base N qual (zah st) f cdv A outer s H E).nox (zba st) t∧t { nx:=fun _ H'=>Q .non H',rt:=Q } (zhn N vs) H):FnOk P w K mg base CX0 (k+1) f fd ps sp:=by
 obtain⟨oc,od,kV,doc,pm,an,cdv,ct,osl,rfl,lk,aa⟩:=F.ex
 refine zwu lk aa S len fun A outer s H vs Q E hr ad=>?_
 obtain⟨t,h,q⟩:=hbody cdv A outer s H vs Q E rfl hr ad
 exact⟨t,h.nox,q⟩
theorem zr1{P:Program}{w:World}{K:PySem.W.Frag}{mg mb:Str→Option Value}{k:Nat}{fa a:Addr}{fd:FuncData}{x:Str}{sp:Sp}{s₁:Shared}{vs:List Value}{ns:List Int}{tabs:List (Addr×Addr)}
  (KX:K.In s₁.heap) (hns:s₁.heap.Ns mainGlobals mg) (hb:s₁.heap.Ns builtinsNs mb) (hbb:∀x:Str,x ≠ "__name__" → mb x=bootBuiltins x) (hlim:s₁.heap.NoLimit) (hg:s₁.gens=#[])
  (hT:PySem.W.TabsAt tabs s₁.heap) (hK0:PySem.W.noTabs K=true)
  (hbm:∃bm ob,mg "__builtins__" = some (.ref bm)∧bm≠builtinsNs∧s₁.heap.get? bm=some ob∧ob.cls=.type "module" ∧ ob.dict=some builtinsNs∧ob.data=.plain)
  (ha:s₁.heap.get? a=some { cls:=.type "list",data:=.seq vs.toArray }) (hi:IntsAre vs ns) (hl:ns.length≤sizeLine) (hr:Room k callerA)
  (F:∀base:Heap,K.In base→base.Ns mainGlobals mg→(∀q∈tabs,zkp mg base q.1 q.2)→FnOk P w K mg base CX0 k fa fd [x] sp) (hbind:∀(s:Shared)(u:Value),BindsTo s fd ⟨[u],[]⟩ [(x,u)])
  (hsp:∀H:Hp,(∀q∈tabs,zcm H q.2)→SqL K H a (ns.map V.int)→sp [.ref a] H (fun v _=>v=.bl true) fun _ _ _=>False):
  codeAny (model P w) callerA (.call (.ref fa) ⟨[.ref a],[]⟩) (fun r s'=>r=.ok (.ret (.bool true))∧OldK s₁.heap s'.heap∧s'.os=s₁.os∧AllBare s'.gens) s₁:=by
 have rv:=zig hi
 have al:=hi.length
 have aw:∀q∈tabs,q.2≠a:=fun q hq z=>by
  have e:=(hT q hq).2
  rw[z,ha] at e;cases e
 have ax:∀q∈tabs,K.lookup q.2=none:=fun q hq=>by
  cases e:K.lookup q.2 with
  |none=>rfl
  |some o=>
   have e1:=KX _ _ e
   rw[(hT q hq).2] at e1
   cases e1
   have h2:=List.all_eq_true.mp hK0 (q.2,_) (PySem.W.mem_of_lookupK e)
   exact absurd (show false=true from h2) Bool.false_ne_true
 have af:∀H:Hp,(∀b,H b=none∨(∃o xs,H b=some (.frz o (.lst xs))∧b=a∧K.lookup a=none)∨(H b=some (.tbl #[])∧b∈tabs.map (·.2)))→(∀q∈tabs,H q.2=some (.tbl #[]))→SqL K H a (ns.map V.int)→HOk P w H s₁.heap →
   codeAny (model P w) callerA (.call (.ref fa) ⟨[.ref a],[]⟩) (fun r s'=>r=.ok (.ret (.bool true))∧OldK s₁.heap s'.heap∧s'.os=s₁.os∧AllBare s'.gens) s₁:=by
  intro H hO av hS aq
  have ao:∀{b:Addr} {o:Obj},s₁.heap.get? b=some o→o≠PySem.W.tabObj #[]→b≠a→H b=none:=fun {b o} e hne hba=>by
   rcases hO b with z|⟨_,_,_,z,_⟩|⟨_,z⟩
   ·exact z
   ·exact absurd z hba
   ·obtain⟨q,hq,rfl⟩:=List.mem_map.mp z
    rw[(hT q hq).2] at e
    exact absurd (Option.some.inj e).symm hne
  have aa:∀{b:Addr} {o:Obj},s₁.heap.get? b=some o→H b=none→(zk8 s₁.heap H).get? b=some o:=fun e n=>zuz e n
  have ar:∀{b:Addr} {o:Obj} {es:Array DictEntry} {ep:Nat},s₁.heap.get? b=some o→o.data=.dict es ep→H b=none:=fun {b o es ep} e d=>by
   refine ao e (fun z=>by rw[z] at d;cases d) fun z=>?_
   subst z
   rw[ha] at e;cases e;cases d
  have aj:∀{b:Addr} {m:Str→Option Value},s₁.heap.Ns b m→(zk8 s₁.heap H).Ns b m:=fun {b m} ⟨o,es,ep,e,d,r⟩=>⟨o,es,ep,aa e (ar e d),d,r⟩
  have ap:K.In (zk8 s₁.heap H):=fun b o e=>aa (KX b o e) (by
   rcases hO b with z|⟨_,_,_,z,y⟩|⟨_,z⟩
   ·exact z
   ·rw[z,y] at e;cases e
   ·obtain⟨q,hq,rfl⟩:=List.mem_map.mp z
    rw[ax q hq] at e;cases e)
  have hM:Mod K mg (zk8 s₁.heap H):=⟨ap,aj hns,⟨mb,aj hb,hbb⟩,let ⟨mc,h1,h2⟩:=hlim;⟨mc,aj h1,h2⟩⟩
  have hL:∀q∈tabs,zkp mg (zk8 s₁.heap H) q.1 q.2:=fun q hq=>by
   refine⟨?_,?_⟩
   ·obtain⟨o,ws,ak,tf,ah,tg,ay,am,tt,e,e1,r⟩:=(hT q hq).1
    refine⟨o,ws,ak,tf,ah,tg,ay,am,tt,aa e (ao e (fun z=>by rw[z] at e1;cases e1) fun z=>?_),e1,r⟩
    rw[z,ha] at e;cases e;exact absurd e1 (by simp)
   ·obtain⟨bm,ob,b1,b2,b3,b4,b5⟩:=hbm
    refine⟨bm,ob,b1,b2,aa b3 (ao b3 (fun z=>by rw[z] at b4;cases b4) fun z=>?_),b4,b5⟩
    rw[z,ha] at b3;cases b3;exact absurd b4 (by simp)
  have e0:Env0 P w K mg (zk8 s₁.heap H) callerA [] s₁ H:=⟨rfl,hM,fun b o e=>zvj e,Nat.le_of_eq (zr0 _ _),trivial,fun b hb=>absurd (show b∈([]:List Addr) from hb) (by simp),aq,.of_eq hg⟩
  have tk:∀q∈tabs,zcm H q.2:=fun q hq=>⟨#[],av q hq,trivial,fun _=>.inl rfl⟩
  refine codeAny_mono ((F _ ap (aj hns) hL).run callerA [] s₁ H ⟨[.ref a],[]⟩ [.ref a] [.ref a] _ _ hr e0 (hbind s₁ (.ref a)) (.cons rfl .nil) (hsp H tk hS)) fun r s' h=>?_
  cases r with
  |error e=>exact h.elim
  |ok fl=>
   cases fl with
   |next=>exact False.elim h
   |brk=>exact False.elim h
   |cont=>exact False.elim h
   |ret u=>
    obtain⟨v,H',os,bare,un,ag,r',q⟩:=h
    have q':v=.bl true:=q
    subst q'
    obtain rfl:u=Value.bool true:=r'
    have ad:∀b o,s₁.heap.get? b=some o→s'.heap.get? b=some o∨(∃q∈tabs,b=q.2∧∃ps,s'.heap.get? b=some (PySem.W.tabObj ps)):=fun b o e=>by
     rcases hO b with z|⟨ob,xs,z,_⟩|⟨z,y⟩
     ·exact .inl (un.keep b o e z (by intro z;exact absurd (show b∈([]:List Addr) from z) (by simp)) (by simp))
     ·have z2:=un.frzs b ob _ z
      obtain⟨e1,_⟩:=aq b _ z
      obtain⟨e2,_⟩:=ag b _ z2
      rw[e] at e1;cases e1
      exact .inl e2
     ·obtain⟨q,hq,rfl⟩:=List.mem_map.mp y
      obtain⟨more,z2⟩:=un.tbls _ _ z
      exact .inr ⟨q,hq,rfl,_,ag _ _ z2⟩
    refine⟨rfl,⟨fun b o e=>?_,fun b o e=>?_⟩,os,bare⟩
    ·rcases ad b o e with z|⟨q,hq,rfl,ps,z⟩
     ·exact .inl z
     ·have e2:=(hT q hq).2
      rw[e] at e2
      cases e2
      exact .inr (.inl ⟨((hT q hq).1.tab (hT q hq).2).isCodeTable,rfl,#[],ps,rfl,by rw[Array.empty_append];exact z⟩)
    ·rcases ad b o e with z|⟨q,hq,rfl,ps,z⟩
     ·exact⟨_,z⟩
     ·exact⟨_,z⟩
 have ai:∀b,b∈tabs.map (·.2)→s₁.heap.get? b=some (PySem.W.tabObj #[]):=fun b hb=>by
  obtain⟨q,hq,rfl⟩:=List.mem_map.mp hb
  exact(hT q hq).2
 cases hk:K.lookup a with
 |some o=>
  have e:=KX a o hk
  rw[ha] at e
  cases e
  refine af (fun b=>if b∈tabs.map (·.2) then some (.tbl #[]) else none) (fun b=>?_) (fun q hq=>if_pos (List.mem_map_of_mem hq)) (.inr ⟨_,vs.toArray,_,hk,rfl,rfl,rfl,by rw[List.size_toArray,al];exact hl,by simpa using rv⟩) (fun b u z=>?_)
  ·by_cases hb:b∈tabs.map (·.2)
   ·exact .inr (.inr ⟨if_pos hb,hb⟩)
   ·exact .inl (if_neg hb)
  ·by_cases hb:b∈tabs.map (·.2)
   ·have z':=(if_pos hb).symm.trans z
    cases z'
    exact ai b hb
   ·have z':=(if_neg hb).symm.trans z
    cases z'
 |none=>
  refine af (fun b=>if b=a then some (.frz { cls:=.type "list",data:=.seq vs.toArray } (.lst (ns.map V.int))) else if b∈tabs.map (·.2) then some (.tbl #[]) else none) (fun b=>?_) (fun q hq=>?_) (.inl (.inr ⟨{ cls:=.type "list",data:=.seq vs.toArray },if_pos rfl⟩)) (fun b u z=>?_)
  ·by_cases hb:b=a
   ·exact .inr (.inl ⟨_,_,if_pos hb,hb,hk⟩)
   ·by_cases ae:b∈tabs.map (·.2)
    ·exact .inr (.inr ⟨(if_neg hb).trans (if_pos ae),ae⟩)
    ·exact .inl ((if_neg hb).trans (if_neg ae))
  ·exact(if_neg (aw q hq)).trans (if_pos (List.mem_map_of_mem hq))
  ·by_cases hb:b=a
   ·have z':=(if_pos hb).symm.trans z
    cases z'
    subst hb
    exact⟨ha,by rw[List.length_map];exact hl,vs,_,rv,ha⟩
   ·have z1:=(if_neg hb).symm.trans z
    by_cases ae:b∈tabs.map (·.2)
    ·have z':=(if_pos ae).symm.trans z1
     cases z'
     exact ai b ae
    ·have z':=(if_neg ae).symm.trans z1
     cases z'
theorem walk_ofT{l:PySem.W.OpenLaw}{n k:Nat}{q:Program}{loose:List Str}{XP:(Str→Option Value)→Heap→Prop}{YP:World→Heap→Prop}{d:DefRec}{K:Params→PySem.W.Frag}{sp:World→Sp}{x:Str}{tabs:World→List (Addr×Addr)}
  (hn:l.most=some n) (hn2:n≤sizeLine) (hdf:d.params.defaults=[]) (hr:Room k callerA)
  (hY:∀(w:World)(h:Heap),YP w h→(K w.params).In h) (hK0:∀w:World,PySem.W.noTabs (K w.params)=true)
  (hT:∀(w:World)(h:Heap),YP w h→PySem.W.TabsAt (tabs w) h)
  (F:∀(w:World)(mg:Str→Option Value)(fa:Addr)(h:Heap),(K w.params).In h→h.Ns mainGlobals mg→mg d.name=some (.ref fa) →
   ∃fd:FuncData,(∀(s:Shared)(u:Value),BindsTo s fd ⟨[u],[]⟩ [(x,u)]) ∧
    ∀base:Heap,(K w.params).In base→base.Ns mainGlobals mg→(∀p∈tabs w,zkp mg base p.1 p.2)→FnOk l.prog w (K w.params) mg base CX0 k fa fd [x] (sp w))
  (hsp:∀(w:World)(H:Hp)(a:Addr)(ns:List Int),ns.length≤n→(∀p∈tabs w,zcm H p.2)→SqL (K w.params) H a (ns.map V.int)→sp w [.ref a] H (fun v _=>v=.bl true) fun _ _ _=>False):
  PySem.W.WalkO q loose XP YP l.row.toRowW d [] (fun f vs=>PySem.call f vs):=by
 refine Att.attach_call hn hdf fun w s₀ s₁ mg mb fa o pm cd doc a vs ns G Y ho hd ah ag ae aa ad hg=>?_
 have KX:=hY w _ Y
 obtain⟨fd,hb,hF⟩:=F w mg fa _ KX G.T.g ag
 have af:=hT w _ Y
 exact zr1 KX G.T.g G.T.b G.T.builtins G.T.nolimit hg af (hK0 w) G.T.bmain ae aa (Nat.le_trans ad hn2) hr hF hb fun H hO hS=>hsp w H a ns ad hO hS
def zqy:Expr→Expr
 |.Call _ args _ _=>args.getLastD (.Constant .none 0 ⟨0,0,0,0⟩)
 |e=>e
def zpg:Expr→Scope
 |.Lambda _ _ sc _=>sc
 |_=>{ kind:=.function,names:=[],isGenerator:=false,isCoroutine:=false }
theorem zhb{x y:Str}{c cc:Addr}(h:[(y,c)].lookup x=some cc):x=y∧cc=c:=by
 have m:=PySem.mem_of_lookup h
 rw[List.mem_singleton] at m
 cases m
 exact⟨rfl,rfl⟩
end L2
namespace Wd
open PySem L2 Ow
theorem zy8{b:Bool}{A B:Prop}(hb:b=true)(h:A):if b=true then A else B:=by
 rw[if_pos hb]
 exact h
theorem zrm{b:Bool}{A B:Prop}(hb:b=false)(h:B):if b=true then A else B:=by
 rw[if_neg (by rw[hb];simp)]
 exact h
def spT(P0:Addr)(sp:Sp):Sp:=fun vs H Q E=>zcm H P0∧sp vs H Q E
def zft(ts:List Tie)(il:List Nat)(m:Nat)(leaf:Nat→Nat→Option PyData):Nat→Nat→Nat→PyData
 |f,y,n=>match zbd ts il y n with
  |some t=>.tuple [.str ("broken" : Str),.int (t:Int)]
  |none=>match leaf y n with
   |some d=>d
   |none=>match zaz m y n,f with
    |k::_,f+1=>.tuple [.str ("split" : Str),.int (k:Int),zft ts il m leaf f (y|||2^k) n,zft ts il m leaf f y (n|||2^k)]
    |_,_=>.tuple []
section
variable {ts : List Tie} {il : List Nat} {m f y n : Nat} {leaf : Nat → Nat → Option PyData}
theorem zht{i:Nat}(hb:zbd ts il y n=some i):zft ts il m leaf f y n=.tuple [.str ("broken" : Str),.int (i:Int)]:=by
 unfold zft
 simp[hb]
theorem zkz{d:PyData}(hb:zbd ts il y n=none)(hl:leaf y n=some d):zft ts il m leaf f y n=d:=by
 unfold zft
 simp[hb,hl]
theorem zi2{k:Nat}{r:List Nat}(hb:zbd ts il y n=none)(hl:leaf y n=none)(ho:zaz m y n=k::r):zft ts il m leaf (f+1) y n=.tuple [.str ("split" : Str),.int (k:Int),zft ts il m leaf f (y|||2^k) n,zft ts il m leaf f y (n|||2^k)]:=by
 conv=>lhs;unfold zft
 simp only[hb,hl,ho]
end
def zmi(leaf:Nat→Nat→Option PyData)(y n:Nat)(H:Hp)(v:V):Prop:=match leaf y n with
 |none=>v=.non
 |some d=>Dn H d v∧∃p,v=.ref p
def zx0(C:Hp→Prop)(leaf:Nat→Nat→Option PyData):Sp:=fun vs H Q _=>∃y n:Nat,vs=[.int y,.int n]∧C H∧∀(v:V)(H':Hp),Same H H'→zmi leaf y n H' v→Q v H'
def EndsR(ts:List Tie)(il:List Nat)(m:Nat)(leaf:Nat→Nat→Option PyData)(y n:Nat):Prop:=∃R:Nat→Nat→Prop,R y n∧(∀y n k,R y n→k∈zaz m y n→R (y|||2^k) n∧R y (n|||2^k))∧∀y n,R y n→zbd ts il y n=none→zaz m y n=[]→leaf y n≠none
theorem EndsR.all{ts:List Tie}{il:List Nat}{m:Nat}{leaf:Nat→Nat→Option PyData}(h:∀y n,zbd ts il y n=none→zaz m y n=[]→leaf y n≠none)(y n:Nat):EndsR ts il m leaf y n:=⟨fun _ _=>True,trivial,fun _ _ _ _ _=>⟨trivial,trivial⟩,fun y n _=>h y n⟩
def zns(f:Nat)(p:Addr)(C:Hp→Prop)(m:Nat)(leaf:Nat→Nat→Option PyData):Sp:=fun vs H Q _=>∃(wd:Addr)(ts:List Tie)(tl:Addr)(il:List Nat)(y n:Nat),vs=[.ref wd,.ref tl,.int y,.int n,.ref p]∧WoodT H wd m ts∧H tl=some (.lst (zam il))∧(∀i∈il,i<ts.length)∧(zaz m y n).length≤f∧C H∧EndsR ts il m leaf y n∧∀(v:V)(H':Hp),Same H H'→Dn H' (zft ts il m leaf f y n) v→Q v H'
theorem zw4{P:Program}{w:World}{K:PySem.W.Frag}{mg:Str→Option Value}{base:Heap}{p c:Addr}{qual:Str}{params:Arguments}{body:Expr}{scope:Scope}{cl:List (Str×Addr)}{H1:Hp}{ps fr:List Str}{fv:List V}{k:Nat}{leaf:Nat→Nat→Option PyData}(C0:Hp→Prop)
  (hp:H1 p=some (.ext (zog p qual params body scope cl c)))
  (S:zpp ps fr scope) (hcl:∀x cc,cl.lookup x=some cc→∃v,base.IsCell cc v) (inj:∀x y cc,cl.lookup x=some cc→cl.lookup y=some cc→x=y) (has:∀y∈scope.names,y.2=.free→∃cc,cl.lookup y.1=some cc)
  (hfv:∀(i:Nat)(x:Str)(v:V),fr[i]?=some x→fv[i]?=some v→∃cc u,cl.lookup x=some cc∧RelV v u∧base.IsCell cc (some u)) (hlen:fv.length=fr.length)
  (hsame:∀pm ctv args,bindArgs (PySem.W.kla_fn "<lambda>" qual params body scope cl pm (.ref c) ctv) args=bindArgs (PySem.W.kla_fn "<lambda>" qual params body scope cl .none (.ref c) .none) args)
  (len2:ps.length=2)
  (hbody:∀(q:Str)(A:Around)(outer:List Env)(s:Shared)(H:Hp)(y n:Nat)(Q:VK),Room k (A.deeper (PySem.W.envX q scope s.heap.objs.size p (.ref c) cl))→C0 H→(∀(v:V)(H':Hp),Same H H'→zmi leaf y n H' v→Q v H') →
   ∃t,PE (ztq P w K mg base (ps++fr) q scope p c cl A outer s H) body t∧t ([some (.int y),some (.int n)]++fv.map some) H Q):
  FnOk P w K mg base CX0 (k+1) p (PySem.W.kla_fn "<lambda>" qual params body scope cl .none (.ref c) .none) ps (zx0 (fun H=>C0 H∧H p=some (.ext (zog p qual params body scope cl c))∧H c=some (.ext (zgz c))) leaf):=by
 refine zxs S hcl inj has hfv hlen hsame (fun vs H Q E h=>?_) (fun vs H Q E h=>?_) (fun q A outer s H vs Q E hr h=>?_)
 ·obtain⟨y,n,rfl,_⟩:=h
  exact len2.symm
 ·obtain⟨y,n,rfl,⟨_,h1,h2⟩,_⟩:=h
  exact⟨h1,h2⟩
 ·obtain⟨y,n,rfl,⟨h0,_,_⟩,q'⟩:=h
  exact hbody q A outer s H y n Q hr h0 q'
theorem zvl{p:Addr}{qual:Str}{params:Arguments}{body:Expr}{scope:Scope}{cl:List (Str×Addr)}{c:Addr}(h:Heap)(x:zog p qual params body scope cl c h):∃o fd',h.get? p=some o∧o.data=.func fd':=by
 obtain⟨pm,aa,e⟩:=x
 exact⟨_,_,e,rfl⟩
def zdl(m:Nat)(y n:Nat):Option PyData:=if zaz m y n=[] then some (.tuple [.str ("ware" : Str)]) else none
theorem zg9{ts:List Tie}{il:List Nat}{m:Nat}:∀(f y n:Nat),(zaz m y n).length≤f→zft ts il m (zdl m) f y n=(zc9 ts il m f y n).toD
 |f,y,n,hf=>by
  cases hb:zbd ts il y n with
  |some i=>rw[zht hb,zle hb];rfl
  |none=>
   cases ho:zaz m y n with
   |nil=>rw[zkz hb (by unfold zdl;rw[if_pos ho]),znx hb ho];rfl
   |cons k r=>
    cases f with
    |zero=>rw[ho] at hf;simp at hf
    |succ f=>
     have hk:k∈zaz m y n:=by rw[ho];exact List.mem_cons_self
     have l1:=zfg hk
     have l2:=zfc hk
     rw[zi2 hb (by unfold zdl;rw[if_neg (by rw[ho];simp)]) ho,zmn hb ho,zg9 f _ _ (by omega),zg9 f _ _ (by omega)]
     rfl
def zhm(m:Nat)(ts:List Tie):List Nat:=(List.range (2^m)).filter fun s=>zbh ts s
theorem mem_wareL{m:Nat}{ts:List Tie}{s:Nat}:s∈zhm m ts↔s<2^m∧zbh ts s=true:=by
 unfold zhm
 rw[List.mem_filter,List.mem_range]
theorem zpb{ms:List Int}{L M:List Nat}(p:ms.Perm (L.map fun k:Nat=>(k:Int)))(so:ms.Pairwise (·≤·))(q:L.Perm M)(pw:M.Pairwise (·<·)):ms=M.map fun k:Nat=>(k:Int):=by
 refine List.Perm.eq_of_pairwise (le:=(·≤·)) (fun a b _ _ h1 h2=>Int.le_antisymm h1 h2) so ?_ (p.trans (q.map _))
 rw[List.pairwise_map]
 exact pw.imp fun h=>by omega
end Wd
namespace Srt
open PySem PyProof PyProof.Rows
def zvw:Bool→Keyed→Array Keyed→Nat→Nat→Nat→StateT SortSt Sem (Option Nat):=sortPriv% PySem.Builtin.gallop
def ztb:Array Keyed→Array Keyed→StateT SortSt Sem (Array Keyed):=sortPriv% PySem.Builtin.mergeLo
def zt2:Array Keyed→Array Keyed→StateT SortSt Sem (Array Keyed):=sortPriv% PySem.Builtin.mergeHi
def kn(p:Keyed):Int:=numOf p.1
def zgx(p:Keyed):Prop:=∃n t,p.1=.int n t
theorem zc0{arr:Array Keyed}{i:Nat}{p:Keyed}(h:arr[i]?=some p):K arr i=kn p:=by unfold K;rw[h];rfl
def gp(left:Bool)(key:Keyed)(arr:Array Keyed)(base i:Nat):Bool:=if left then decide (K arr (base+i)<kn key) else !decide (kn key<K arr (base+i))
section
variable {prog : Program} {w : World} {A : Around} {E : Value → Shared → Prop} {s : Shared}
theorem zk4{st:SortSt}{x y:Keyed}{Q:Option Bool→SortSt→Prop}(hk:kindOf st=oneType')(hx:zgx x)(hy:zgx y)(h:Q (some (decide (kn x<kn y))) st):
  wpS (model prog w) A E s (lt' x y) Q st:=by
 obtain⟨a,t,e1⟩:=hx
 obtain⟨b,u,e2⟩:=hy
 obtain⟨x1,x2⟩:=x
 obtain⟨y1,y2⟩:=y
 cases e1;cases e2
 rw[lt'_eq]
 refine wpS_bind (wpS_get ?_)
 rw[hk,keyLt'_oneType]
 refine wpS_bind (wpS_lift (wpAny_attempt (oneLt_int ⟨rfl,?_⟩)))
 exact wpS_pure h
theorem za8{st:SortSt}{arr:Array Keyed}{i:Nat}{p:Keyed}{Q:Keyed→SortSt→Prop}(hp:arr[i]?=some p)(h:Q p st):wpS (model prog w) A E s (elem' arr i) Q st:=by
 rw[elem'_eq,hp];exact wpS_pure h
theorem zde{st:SortSt}{left:Bool}{key:Keyed}{arr:Array Keyed}{base n hint:Nat}{Q:Option Nat→SortSt→Prop}(hk:kindOf st=oneType')(hkey:zgx key)
  (hall:∀i,i<n→∃p,arr[base+i]?=some p∧zgx p) (hs:∀i j,i≤j→j<n→K arr (base+i)≤K arr (base+j)) (hn:hint<n)
  (h:∀k,k≤n→(∀i,i<k→gp left key arr base i=true)→(∀i,k≤i→i<n→gp left key arr base i=false)→Q (some k) st):
  wpS (model prog w) A E s (zvw left key arr base n hint) Q st:=by
 have hb:∀(i:Nat)(R:Option Bool→SortSt→Prop),i<n→R (some (gp left key arr base i)) st →
   wpS (model prog w) A E s (elem' arr (base+i)>>=fun x=>if left=true then lt' x key else lt' key x>>=fun b=>pure (b.map (!·))) R st:=by
  intro i R hi hR
  obtain⟨p,hp,ip⟩:=hall i hi
  refine wpS_bind (za8 hp ?_)
  unfold gp at hR
  rw[zc0 hp] at hR
  cases left with
  |true=>exact zk4 hk ip hkey hR
  |false=>exact wpS_bind (zk4 hk hkey ip (wpS_pure hR))
 have mono:∀i j,i≤j→j<n→gp left key arr base j=true→gp left key arr base i=true:=by
  intro i j af hj hg
  have:=hs i j af hj
  unfold gp at hg ⊢
  cases left<;>simp at hg ⊢ <;> omega
 have ae:∀i j,i≤j→j<n→gp left key arr base i=false→gp left key arr base j=false:=by
  intro i j af hj hg
  cases ag:gp left key arr base j with
  |false=>rfl
  |true=>rw[mono i j af hj ag] at hg;cases hg
 refine wpS_bind (hb hint _ hn ?_)
 dsimp only
 cases hr:gp left key arr base hint with
 |true=>
  rw[if_pos rfl]
  refine wpS_bind (wpS_mono (wpS_forRange
   (I:=fun x c aa=>st=aa∧∃la of,c=(none,la,of)∧la<of∧hint+la<n∧x+1≤of∧gp left key arr base (hint+la)=true)
   (Q:=fun c aa=>st=aa∧∃la of,c=(none,la,of)∧la<of∧hint+la<n∧gp left key arr base (hint+la)=true∧(of≥n-hint∨(hint+of<n∧gp left key arr base (hint+of)=false)))
   ?_ ?_ ⟨rfl,0,1,rfl,by omega,by omega,by omega,hr⟩) ?_)
  ·rintro x c aa _ hx ⟨rfl,la,of,rfl,k1,k2,k3,k4⟩
   dsimp only
   by_cases ad:of≥n-hint
   ·rw[if_pos ad]
    exact wpS_pure ⟨rfl,la,of,rfl,k1,k2,k4,.inl ad⟩
   ·rw[if_neg ad]
    refine wpS_bind (hb _ _ (by omega) ?_)
    dsimp only
    cases hm:gp left key arr base (hint+of) with
    |true=>exact wpS_pure ⟨rfl,of,2*of+1,rfl,by omega,by omega,by omega,hm⟩
    |false=>exact wpS_pure ⟨rfl,la,of,rfl,k1,k2,k4,.inr ⟨by omega,hm⟩⟩
  ·rintro c aa ⟨rfl,la,of,rfl,k1,k2,k3,k4⟩
   exact⟨rfl,la,of,rfl,k1,k2,k4,.inl (by omega)⟩
  ·rintro c aa ⟨rfl,la,of,rfl,k1,k2,k4,k5⟩
   dsimp only
   have g1:hint+la+1≤hint+min of (n-hint):=by omega
   have g2:hint+min of (n-hint)≤n:=by omega
   have g3:∀i,i<hint+la+1→gp left key arr base i=true:=fun i hi=>mono i _ (by omega) k2 k4
   have g4:∀i,hint+min of (n-hint)≤i→i<n→gp left key arr base i=false:=fun i h1 h2=>by
    rcases k5 with z|⟨z,hz⟩
    ·omega
    ·exact ae _ i (by omega) h2 hz
   refine wpS_bind (wpS_mono (wpS_forRange
    (I:=fun x c aa=>st=aa∧∃lo hi,c=(none,lo,hi)∧lo≤hi∧hi≤n∧hi-lo≤n-x∧(∀i,i<lo→gp left key arr base i=true)∧(∀i,hi≤i→i<n→gp left key arr base i=false))
    (Q:=fun c aa=>st=aa∧∃hi,c=(none,hi,hi)∧hi≤n∧(∀i,i<hi→gp left key arr base i=true)∧(∀i,hi≤i→i<n→gp left key arr base i=false))
    ?_ ?_ ⟨rfl,_,_,rfl,g1,g2,by omega,g3,g4⟩) ?_)
   ·rintro x c aa _ hx ⟨rfl,lo,hi,rfl,k1,k2,k3,k4,k5⟩
    dsimp only
    by_cases ad:lo≥hi
    ·rw[if_pos ad]
     have:lo=hi:=by omega
     subst this
     exact wpS_pure ⟨rfl,lo,rfl,k2,k4,k5⟩
    ·rw[if_neg ad]
     refine wpS_bind (hb _ _ (by omega) ?_)
     dsimp only
     by_cases hm:gp left key arr base (lo+(hi-lo)/2)=true
     ·rw[if_pos hm]
      exact wpS_pure ⟨rfl,_,_,rfl,by omega,k2,by omega,fun i ah=>mono i _ (by omega) (by omega) hm,k5⟩
     ·rw[if_neg hm]
      exact wpS_pure ⟨rfl,_,_,rfl,by omega,by omega,by omega,k4,fun i h1 h2=>ae _ i h1 h2 (by simpa using hm)⟩
   ·rintro c aa ⟨rfl,lo,hi,rfl,k1,k2,k3,k4,k5⟩
    have:lo=hi:=by omega
    subst this
    exact⟨rfl,lo,rfl,k2,k4,k5⟩
   ·rintro c aa ⟨rfl,hi,rfl,k2,k4,k5⟩
    exact wpS_pure (h hi k2 k4 k5)
 |false=>
  rw[if_neg (by decide)]
  refine wpS_bind (wpS_mono (wpS_forRange
   (I:=fun x c aa=>st=aa∧∃la of,c=(none,la,of)∧la<of∧la≤hint∧x+1≤of∧gp left key arr base (hint-la)=false)
   (Q:=fun c aa=>st=aa∧∃la of,c=(none,la,of)∧la<of∧la≤hint∧gp left key arr base (hint-la)=false∧(of≥hint+1∨(of≤hint∧gp left key arr base (hint-of)=true)))
   ?_ ?_ ⟨rfl,0,1,rfl,by omega,by omega,by omega,hr⟩) ?_)
  ·rintro x c aa _ hx ⟨rfl,la,of,rfl,k1,k2,k3,k4⟩
   dsimp only
   by_cases ad:of≥hint+1
   ·rw[if_pos ad]
    exact wpS_pure ⟨rfl,la,of,rfl,k1,k2,k4,.inl ad⟩
   ·rw[if_neg ad]
    refine wpS_bind (hb _ _ (by omega) ?_)
    dsimp only
    cases hm:gp left key arr base (hint-of) with
    |false=>exact wpS_pure ⟨rfl,of,2*of+1,rfl,by omega,by omega,by omega,hm⟩
    |true=>exact wpS_pure ⟨rfl,la,of,rfl,k1,k2,k4,.inr ⟨by omega,hm⟩⟩
  ·rintro c aa ⟨rfl,la,of,rfl,k1,k2,k3,k4⟩
   exact⟨rfl,la,of,rfl,k1,k2,k4,.inl (by omega)⟩
  ·rintro c aa ⟨rfl,la,of,rfl,k1,k2,k4,k5⟩
   dsimp only
   have g1:hint+1-min of (hint+1)≤hint-la:=by omega
   have g2:hint-la≤n:=by omega
   have g3:∀i,i<hint+1-min of (hint+1)→gp left key arr base i=true:=fun i hi=>by
    rcases k5 with z|⟨z,hz⟩
    ·omega
    ·exact mono i _ (by omega) (by omega) hz
   have g4:∀i,hint-la≤i→i<n→gp left key arr base i=false:=fun i h1 h2=>ae _ i h1 h2 k4
   refine wpS_bind (wpS_mono (wpS_forRange
    (I:=fun x c aa=>st=aa∧∃lo hi,c=(none,lo,hi)∧lo≤hi∧hi≤n∧hi-lo≤n-x∧(∀i,i<lo→gp left key arr base i=true)∧(∀i,hi≤i→i<n→gp left key arr base i=false))
    (Q:=fun c aa=>st=aa∧∃hi,c=(none,hi,hi)∧hi≤n∧(∀i,i<hi→gp left key arr base i=true)∧(∀i,hi≤i→i<n→gp left key arr base i=false))
    ?_ ?_ ⟨rfl,_,_,rfl,g1,g2,by omega,g3,g4⟩) ?_)
   ·rintro x c aa _ hx ⟨rfl,lo,hi,rfl,k1,k2,k3,k4,k5⟩
    dsimp only
    by_cases ad:lo≥hi
    ·rw[if_pos ad]
     have:lo=hi:=by omega
     subst this
     exact wpS_pure ⟨rfl,lo,rfl,k2,k4,k5⟩
    ·rw[if_neg ad]
     refine wpS_bind (hb _ _ (by omega) ?_)
     dsimp only
     by_cases hm:gp left key arr base (lo+(hi-lo)/2)=true
     ·rw[if_pos hm]
      exact wpS_pure ⟨rfl,_,_,rfl,by omega,k2,by omega,fun i ah=>mono i _ (by omega) (by omega) hm,k5⟩
     ·rw[if_neg hm]
      exact wpS_pure ⟨rfl,_,_,rfl,by omega,by omega,by omega,k4,fun i h1 h2=>ae _ i h1 h2 (by simpa using hm)⟩
   ·rintro c aa ⟨rfl,lo,hi,rfl,k1,k2,k3,k4,k5⟩
    have:lo=hi:=by omega
    subst this
    exact⟨rfl,lo,rfl,k2,k4,k5⟩
   ·rintro c aa ⟨rfl,hi,rfl,k2,k4,k5⟩
    exact wpS_pure (h hi k2 k4 k5)
end
def kle(x y:Keyed):Prop:=kn x≤kn y
theorem zl3{x y z:Keyed}(h:kle x y)(g:kle y z):kle x z:=Int.le_trans h g
structure MI(A B out:List Keyed)(ia ib:Nat):Prop where
 perm:out.Perm (A.take ia++B.take ib)
 srt:out.Pairwise kle
 la:∀x∈out,∀y∈A.drop ia,kle x y
 lb:∀x∈out,∀y∈B.drop ib,kle x y
def SP(A B R:List Keyed):Prop:=R.Perm (A++B)∧R.Pairwise kle
theorem MI.swap{A B out:List Keyed}{ia ib:Nat}(m:MI A B out ia ib):MI B A out ib ia:=
 ⟨m.perm.trans List.perm_append_comm,m.srt,m.lb,m.la⟩
theorem MI.more{A B out:List Keyed}{ia ib:Nat}(hA:A.Pairwise kle)(m:MI A B out ia ib)(k:Nat)(hx:∀x∈(A.drop ia).take k,∀y∈B.drop ib,kle x y):
  MI A B (out++(A.drop ia).take k) (ia+k) ib:=by
 have hd:(A.drop ia).Pairwise kle:=hA.sublist (List.drop_sublist _ _)
 have hs:((A.drop ia).take k++(A.drop ia).drop k).Pairwise kle:=by rw[List.take_append_drop];exact hd
 obtain⟨p1,p2,p3⟩:=List.pairwise_append.mp hs
 refine⟨?_,List.pairwise_append.mpr ⟨m.srt,p1,fun x h y g=>m.la x h y (List.mem_of_mem_take g)⟩,fun x h y g=>?_,fun x h y g=>?_⟩
 ·rw[List.take_add]
  refine(List.Perm.append_right _ m.perm).trans ?_
  rw[List.append_assoc,List.append_assoc]
  exact List.Perm.append_left _ List.perm_append_comm
 ·rw[←List.drop_drop] at g
  rcases List.mem_append.mp h with z|z
  ·exact m.la x z y (List.mem_of_mem_drop g)
  ·exact p3 x z y g
 ·rcases List.mem_append.mp h with z|z
  ·exact m.lb x z y g
  ·exact hx x z y g
theorem MI.fin{A B out:List Keyed}{ia ib:Nat}(m:MI A B out ia ib)(ha:A.length≤ia)(hb:B.length≤ib):SP A B out:=by
 have:=m.perm
 rw[List.take_of_length_le ha,List.take_of_length_le hb] at this
 exact⟨this,m.srt⟩
theorem MI.done{A B out:List Keyed}{ia ib:Nat}(hA:A.Pairwise kle)(m:MI A B out ia ib)(hb:B.length≤ib):SP A B (out++A.drop ia++B.drop ib):=by
 have h:=m.more hA A.length (fun x _ y g=>by rw[List.drop_of_length_le hb] at g;cases g)
 rw[List.take_of_length_le (by rw[List.length_drop];omega)] at h
 rw[List.drop_of_length_le hb,List.append_nil]
 exact h.fin (by omega) hb
theorem MI.last{A B out:List Keyed}{ia ib:Nat}(hA:A.Pairwise kle)(hB:B.Pairwise kle)(m:MI A B out ia ib)(hx:∀x∈B.drop ib,∀y∈A.drop ia,kle x y):
  SP A B (out++B.drop ib++A.drop ia):=by
 have h:=(m.swap.more hB B.length (fun x g y g2=>hx x (List.mem_of_mem_take g) y g2)).swap
 rw[List.take_of_length_le (by rw[List.length_drop];omega)] at h
 have:=h.done hA (Nat.le_add_left _ _)
 rwa [List.drop_of_length_le (l:=B) (Nat.le_add_left _ _),List.append_nil] at this
theorem zgp{a:Array Keyed}{i:Nat}:(a.extract i a.size).toList=a.toList.drop i:=by
 rw[Array.toList_extract,List.extract_eq_drop_take]
 rw[List.take_of_length_le]
 rw[List.length_drop,Array.length_toList]
 exact Nat.le_refl _
theorem zyj{a:Array Keyed}{i k:Nat}:(a.extract i (i+k)).toList=(a.toList.drop i).take k:=by
 rw[Array.toList_extract,List.extract_eq_drop_take,Nat.add_sub_cancel_left]
theorem ze2{a:Array Keyed}{i:Nat}{p:Keyed}(h:a[i]?=some p):(a.toList.drop i).take 1=[p]:=by
 have hi:i<a.toList.length:=by
  rw[Array.length_toList];exact(Array.getElem?_eq_some_iff.mp h).1
 have e:a.toList[i]=p:=by
  obtain⟨h1,h2⟩:=Array.getElem?_eq_some_iff.mp h
  rw[←h2];exact Array.getElem_toList h1
 rw[List.drop_eq_getElem_cons hi,e];rfl
theorem ztu{a:Array Keyed}{i:Nat}{p:Keyed}(h:a[i]?=some p):p∈a.toList:=by
 obtain⟨h1,h2⟩:=Array.getElem?_eq_some_iff.mp h
 rw[←h2];exact Array.getElem_mem_toList h1
theorem MI.one{a b out:Array Keyed}{ia ib:Nat}{p:Keyed}(hA:a.toList.Pairwise kle)(m:MI a.toList b.toList out.toList ia ib)(hp:a[ia]?=some p)(hx:∀y∈b.toList.drop ib,kle p y):
  MI a.toList b.toList (out.push p).toList (ia+1) ib:=by
 have:=m.more hA 1 (by rw[ze2 hp];intro x aa y hy;rw[List.mem_singleton.mp aa];exact hx y hy)
 rw[ze2 hp] at this
 rwa [Array.toList_push]
theorem MI.blk{a b out:Array Keyed}{ia ib k:Nat}(hA:a.toList.Pairwise kle)(m:MI a.toList b.toList out.toList ia ib)(hx:∀x∈(a.toList.drop ia).take k,∀y∈b.toList.drop ib,kle x y):
  MI a.toList b.toList (out++a.extract ia (ia+k)).toList (ia+k) ib:=by
 rw[Array.toList_append,zyj]
 exact m.more hA k hx
theorem MI.doneA{a b out:Array Keyed}{ia ib:Nat}(hA:a.toList.Pairwise kle)(m:MI a.toList b.toList out.toList ia ib)(hb:b.size≤ib):
  SP a.toList b.toList (out++a.extract ia a.size++b.extract ib b.size).toList:=by
 rw[Array.toList_append,Array.toList_append,zgp,zgp]
 exact m.done hA hb
theorem MI.doneB{a b out:Array Keyed}{ia ib:Nat}(hB:b.toList.Pairwise kle)(m:MI a.toList b.toList out.toList ia ib)(ha:a.size≤ia):
  SP a.toList b.toList (out++a.extract ia a.size++b.extract ib b.size).toList:=by
 rw[Array.toList_append,Array.toList_append,zgp,zgp,List.drop_of_length_le (l:=a.toList) (by rw[Array.length_toList];exact ha),List.append_nil]
 have h:=m.swap.done hB (by rw[Array.length_toList];exact ha)
 rw[List.drop_of_length_le (l:=a.toList) (by rw[Array.length_toList];exact ha),List.append_nil] at h
 exact⟨h.1.trans List.perm_append_comm,h.2⟩
theorem MI.lastA{a b out:Array Keyed}{ia ib:Nat}(hA:a.toList.Pairwise kle)(hB:b.toList.Pairwise kle)(m:MI a.toList b.toList out.toList ia ib)(hx:∀x∈b.toList,∀y∈a.toList.drop ia,kle x y):
  SP a.toList b.toList (out++b.extract ib b.size++a.extract ia a.size).toList:=by
 rw[Array.toList_append,Array.toList_append,zgp,zgp]
 exact m.last hA hB fun x h=>hx x (List.mem_of_mem_drop h)
theorem MI.lastE{a b out:Array Keyed}{ia ib:Nat}(hA:a.toList.Pairwise kle)(hB:b.toList.Pairwise kle)(m:MI a.toList b.toList out.toList ia ib)(e:ia+1=a.size)
  (hx:∀x∈b.toList,∀y∈a.toList.drop (a.size-1),kle x y):SP a.toList b.toList (out++b.extract ib b.size++a.extract ia a.size).toList:=
 m.lastA hA hB (by rw[show ia=a.size-1 by omega];exact hx)
section
variable {prog : Program} {w : World} {A : Around} {E : Value → Shared → Prop} {s : Shared}
theorem zas{α:Type}{c:Prop}[Decidable c]{t e:StateT SortSt Sem α}{Q:α→SortSt→Prop}{st:SortSt}(h1:c→wpS (model prog w) A E s t Q st)(h2:¬c→wpS (model prog w) A E s e Q st):
  wpS (model prog w) A E s (if c then t else e) Q st:=by
 by_cases hc:c
 ·rw[if_pos hc];exact h1 hc
 ·rw[if_neg hc];exact h2 hc
abbrev zey(st:SortSt)(g:Nat):SortSt:=SortSt.mk' (kindOf st) (arrOf st) (pendingOf st) g (failedOf st)
theorem znh{a b:Array Keyed}{i j:Nat}{p q:Keyed}(hB:b.toList.Pairwise kle)(hq:b[j]?=some q)(h:kle p q):∀y∈b.toList.drop j,kle p y:=by
 intro y hy
 obtain⟨h1,h2⟩:=Array.getElem?_eq_some_iff.mp hq
 have hi:j<b.toList.length:=by rw[Array.length_toList];exact h1
 have e:b.toList[j]=q:=by rw[←h2];exact Array.getElem_toList h1
 have hd:=hB.sublist (List.drop_sublist j b.toList)
 rw[List.drop_eq_getElem_cons hi,e] at hy hd
 rcases List.mem_cons.mp hy with z|z
 ·rw[z];exact h
 ·exact zl3 h ((List.pairwise_cons.mp hd).1 y z)
theorem ztk{a:Array Keyed}(hA:a.toList.Pairwise kle){i j:Nat}(hij:i≤j)(hj:j<a.size):K a i≤K a j:=by
 have hi:i<a.size:=by omega
 rw[zc0 (Array.getElem?_eq_getElem hi),zc0 (Array.getElem?_eq_getElem hj)]
 by_cases e:i=j
 ·subst e;exact Int.le_refl _
 ·have:=List.pairwise_iff_getElem.mp hA i j (by rw[Array.length_toList];exact hi) (by rw[Array.length_toList];exact hj) (by omega)
  rw[Array.getElem_toList,Array.getElem_toList] at this
  exact this
theorem zgf{a:Array Keyed}{i:Nat}{x:Keyed}(h:x∈a.toList.drop i):∃j,i≤j∧j<a.size∧a[j]?=some x:=by
 obtain⟨j,hj,e⟩:=List.mem_iff_getElem.mp h
 rw[List.length_drop,Array.length_toList] at hj
 rw[List.getElem_drop,Array.getElem_toList] at e
 exact⟨i+j,by omega,by omega,by rw[Array.getElem?_eq_getElem (by omega),e]⟩
theorem zeh{a:Array Keyed}{i k:Nat}{x:Keyed}(h:x∈(a.toList.drop i).take k):∃j,j<k∧i+j<a.size∧a[i+j]?=some x:=by
 obtain⟨j,hj,e⟩:=List.mem_iff_getElem.mp h
 rw[List.length_take,List.length_drop,Array.length_toList] at hj
 rw[List.getElem_take,List.getElem_drop,Array.getElem_toList] at e
 exact⟨j,by omega,by omega,by rw[Array.getElem?_eq_getElem (by omega),e]⟩
theorem zkc{q:Keyed}{a:Array Keyed}{i j:Nat}{x:Keyed}(h:gp false q a i j=true)(hx:a[i+j]?=some x):kle x q:=by
 unfold gp at h;rw[zc0 hx] at h
 simp at h;exact h
theorem zir{q:Keyed}{a:Array Keyed}{i j:Nat}{x:Keyed}(h:gp false q a i j=false)(hx:a[i+j]?=some x):kle q x:=by
 unfold gp at h;rw[zc0 hx] at h
 simp at h;exact Int.le_of_lt h
theorem zmu{q:Keyed}{a:Array Keyed}{i j:Nat}{x:Keyed}(h:gp true q a i j=true)(hx:a[i+j]?=some x):kle x q:=by
 unfold gp at h;rw[zc0 hx] at h
 simp at h;exact Int.le_of_lt h
theorem zk6{q:Keyed}{a:Array Keyed}{i j:Nat}{x:Keyed}(h:gp true q a i j=false)(hx:a[i+j]?=some x):kle q x:=by
 unfold gp at h;rw[zc0 hx] at h
 simp at h;exact h
structure MV(a b out:Array Keyed)(ia ib:Nat):Prop where
 m:MI a.toList b.toList out.toList ia ib
 ha:ia+2≤a.size
 hb:ib<b.size
theorem zop{st:SortSt}{a b:Array Keyed}{Q:Array Keyed→SortSt→Prop}(hk:kindOf st=oneType')(iA:∀x∈a.toList,zgx x)(iB:∀x∈b.toList,zgx x)
  (hA:a.toList.Pairwise kle) (hB:b.toList.Pairwise kle) (na:0<a.size) (nb:0<b.size)
  (hb0:∀x∈b.toList.take 1,∀y∈a.toList,kle x y) (hla:∀x∈b.toList,∀y∈a.toList.drop (a.size-1),kle x y)
  (h:∀r g,SP a.toList b.toList r.toList→Q r (zey st g)):
  wpS (model prog w) A E s (ztb a b) Q st:=by
 refine wpS_bind (wpS_lift (wpAny_rule ⟨rfl,?_⟩))
 refine wpS_bind (za8 (Array.getElem?_eq_getElem nb) ?_)
 have m0:MI a.toList b.toList (#[b[0]]:Array Keyed).toList 0 1:=by
  have z:MI b.toList a.toList (#[]:Array Keyed).toList 0 0:=⟨List.Perm.refl _,List.Pairwise.nil,nofun,nofun⟩
  exact(z.one hB (Array.getElem?_eq_getElem nb) (fun y hy=>hb0 _ (by have:=ze2 (Array.getElem?_eq_getElem nb);rw[List.drop_zero] at this;rw[this];exact List.mem_singleton.mpr rfl) y hy)).swap
 have pA:∀{i},i<a.size→∃p,a[i]?=some p∧zgx p:=fun hi=>⟨_,Array.getElem?_eq_getElem hi,iA _ (Array.getElem_mem_toList hi)⟩
 have pB:∀{i},i<b.size→∃p,b[i]?=some p∧zgx p:=fun hi=>⟨_,Array.getElem?_eq_getElem hi,iB _ (Array.getElem_mem_toList hi)⟩
 refine zas (fun c1=>wpS_pure (h _ (gallopOf st) (m0.doneA hA (Nat.le_of_eq (beq_iff_eq.mp c1).symm)))) (fun c1=>?_)
 refine zas (fun c2=>wpS_pure (h _ (gallopOf st) (m0.lastE hA hB (beq_iff_eq.mp c2) hla))) (fun c2=>?_)
 replace c1:1≠b.size:=fun z=>c1 (beq_iff_eq.mpr z)
 replace c2:0+1≠a.size:=fun z=>c2 (beq_iff_eq.mpr z)
 refine wpS_bind (wpS_get ?_)
 refine wpS_bind (wpS_mono (wpS_forRange
  (I:=fun x c ad=>(∃g,zey st g=ad)∧∃aa ia ib mg,c=(none,aa,ia,ib,mg)∧MV a b aa ia ib∧x+1≤ia+ib)
  (Q:=fun c ad=>(∃g,zey st g=ad)∧∃r rest,c=(some r,rest)∧SP a.toList b.toList r.toList)
  ?_ ?_ ⟨⟨gallopOf st,rfl⟩,_,0,1,_,rfl,⟨m0,by omega,by omega⟩,by omega⟩) ?_)
 ·rintro x0 c ad _ ay ⟨⟨g,rfl⟩,aa,ia,ib,mg,rfl,v,hx⟩
  refine wpS_bind (wpS_mono (wpS_forRange
   (I:=fun x c ad=>zey st g=ad∧∃aa ia ib ac bc,c=(none,aa,ia,ib,ac,bc)∧MV a b aa ia ib∧x0+1+x≤ia+ib)
   (Q:=fun c ad=>zey st g=ad∧((∃r rest,c=(some r,rest)∧SP a.toList b.toList r.toList)∨∃aa ia ib ac bc,c=(none,aa,ia,ib,ac,bc)∧MV a b aa ia ib∧x0+2≤ia+ib))
   ?_ ?_ ⟨rfl,aa,ia,ib,0,0,rfl,v,by omega⟩) ?_)
  ·rintro x c ad _ av ⟨rfl,aa,ia,ib,ac,bc,rfl,v,hx⟩
   obtain⟨p,hp,ip⟩:=pA (show ia<a.size by have:=v.ha;omega)
   obtain⟨q,hq,iq⟩:=pB v.hb
   refine wpS_bind (za8 hq (wpS_bind (za8 hp (wpS_bind (zk4 hk iq ip ?_)))))
   dsimp only
   have va:=v.ha
   have vb:=v.hb
   refine zas (fun c3=>?_) (fun c3=>?_)
   ·have af:kle q p:=Int.le_of_lt (of_decide_eq_true c3)
    have m2:=(v.m.swap.one hB hq (znh (a:=b) (i:=ib) hA hp af)).swap
    refine wpS_bind (za8 hq ?_)
    refine zas (fun c4=>wpS_pure ⟨rfl,.inl ⟨_,_,rfl,m2.doneA hA (Nat.le_of_eq (beq_iff_eq.mp c4).symm)⟩⟩) (fun c4=>?_)
    have ag:ib+1≠b.size:=fun z=>c4 (beq_iff_eq.mpr z)
    exact zas (fun c5=>wpS_pure ⟨rfl,.inr ⟨_,_,_,_,_,rfl,⟨m2,va,by omega⟩,by omega⟩⟩) (fun c5=>wpS_pure ⟨rfl,_,_,_,_,_,rfl,⟨m2,va,by omega⟩,by omega⟩)
   ·have af:kle p q:=Int.not_lt.mp (fun z=>c3 (decide_eq_true z))
    have m2:=v.m.one hA hp (znh (a:=a) (i:=ia) hB hq af)
    refine wpS_bind (za8 hp ?_)
    refine zas (fun c4=>wpS_pure ⟨rfl,.inl ⟨_,_,rfl,m2.lastE hA hB (beq_iff_eq.mp c4) hla⟩⟩) (fun c4=>?_)
    have ag:ia+1+1≠a.size:=fun z=>c4 (beq_iff_eq.mpr z)
    exact zas (fun c5=>wpS_pure ⟨rfl,.inr ⟨_,_,_,_,_,rfl,⟨m2,by omega,vb⟩,by omega⟩⟩) (fun c5=>wpS_pure ⟨rfl,_,_,_,_,_,rfl,⟨m2,by omega,vb⟩,by omega⟩)
  ·rintro c ad ⟨rfl,aa,ia,ib,ac,bc,rfl,v,hx⟩
   have va:=v.ha
   have vb:=v.hb
   omega
  ·rintro c ad ⟨rfl,⟨r,rest,rfl,hr⟩|⟨aa,ia,ib,ac,bc,rfl,v,hx⟩⟩
   ·exact wpS_pure ⟨⟨g,rfl⟩,r,_,rfl,hr⟩
   refine wpS_bind (wpS_lift (wpAny_rule ⟨rfl,?_⟩))
   refine wpS_bind (wpS_mono (wpS_forRange
    (I:=fun x c ad=>(∃g,zey st g=ad)∧∃aa ia ib mg ac bc,c=(none,aa,ia,ib,mg,ac,bc)∧MV a b aa ia ib∧x0+2+x≤ia+ib)
    (Q:=fun c ad=>(∃g,zey st g=ad)∧((∃r rest,c=(some r,rest)∧SP a.toList b.toList r.toList)∨∃aa ia ib mg ac bc,c=(none,aa,ia,ib,mg,ac,bc)∧MV a b aa ia ib∧x0+2≤ia+ib))
    ?_ ?_ ⟨⟨g,rfl⟩,aa,ia,ib,_,ac,bc,rfl,v,by omega⟩) ?_)
   ·rintro x c ad _ av ⟨⟨g,rfl⟩,aa,ia,ib,mg,ac,bc,rfl,v,hx⟩
    have va:=v.ha
    have vb:=v.hb
    obtain⟨q,hq,iq⟩:=pB vb
    dsimp (config:={ zeta:=false,zetaHave:=false,zetaUnused:=false }) only
    extract_lets _ _ _ _ _ _ _ _ _ _ _ _ jp
    suffices hj:∀ae,wpS (model prog w) A E s (jp () ae) _ (zey st g) from zas (fun _=>hj _) (fun _=>hj _)
    intro ae
    refine wpS_bind (wpS_modify ?_)
    refine wpS_bind (za8 hq ?_)
    refine wpS_bind (zde (left:=false) (arr:=a) (base:=ia) (n:=a.size-ia) (hint:=0) hk iq (fun i hi=>pA (i:=ia+i) (by omega)) (fun i j ax hj=>ztk hA (by omega) (by omega)) (by omega) fun k k1 k2 k3=>?_)
    have ao:∀x∈(a.toList.drop ia).take k,∀y∈b.toList.drop ib,kle x y:=fun x hx y hy=>by
     obtain⟨j,h1,h2,h3⟩:=zeh hx
     exact znh (a:=a) (i:=0) hB hq (zkc (k2 j h1) h3) y hy
    have ai:∀y∈a.toList.drop (ia+k),kle q y:=fun y hy=>by
     obtain⟨j,h1,h2,h3⟩:=zgf hy
     exact zir (k3 (j-ia) (by omega) (by omega)) (by rw[show ia+(j-ia)=j by omega];exact h3)
    dsimp (config:={ zeta:=false,zetaHave:=false,zetaUnused:=false }) only
    extract_lets _ jp2
    suffices am:∀(o2:Array Keyed)(i2:Nat),MI a.toList b.toList o2.toList i2 ib→i2+2≤a.size→ia≤i2→(∀y∈a.toList.drop i2,kle q y)→wpS (model prog w) A E s (jp2 () o2 i2) _ (zey st ae) by
     refine zas (fun c3=>?_) (fun c3=>am aa ia v.m va (Nat.le_refl _) (by rw[show ia=ia+k by omega];exact ai))
     have m2:=v.m.blk hA ao
     refine zas (fun c4=>wpS_pure ⟨⟨ae,rfl⟩,.inl ⟨_,_,rfl,m2.lastE hA hB (beq_iff_eq.mp c4) hla⟩⟩) (fun c4=>?_)
     refine zas (fun c5=>wpS_pure ⟨⟨ae,rfl⟩,.inl ⟨_,_,rfl,m2.doneB hB (Nat.le_of_eq (beq_iff_eq.mp c5).symm)⟩⟩) (fun c5=>?_)
     have ag:ia+k+1≠a.size:=fun z=>c4 (beq_iff_eq.mpr z)
     have ah:ia+k≠a.size:=fun z=>c5 (beq_iff_eq.mpr z)
     exact am _ (ia+k) m2 (by omega) (by omega) ai
    intro o2 i2 m2 aB aA ar
    obtain⟨p,hp,ip⟩:=pA (show i2<a.size by omega)
    refine wpS_bind (za8 hq ?_)
    have m3:=(m2.swap.one hB hq ar).swap
    refine zas (fun c4=>wpS_pure ⟨⟨ae,rfl⟩,.inl ⟨_,_,rfl,m3.doneA hA (Nat.le_of_eq (beq_iff_eq.mp c4).symm)⟩⟩) (fun c4=>?_)
    have ag:ib+1≠b.size:=fun z=>c4 (beq_iff_eq.mpr z)
    refine wpS_bind (za8 hp ?_)
    refine wpS_bind (zde (left:=true) (arr:=b) (base:=ib+1) (n:=b.size-(ib+1)) (hint:=0) hk ip (fun i hi=>pB (i:=ib+1+i) (by omega)) (fun i j ax hj=>ztk hB (by omega) (by omega)) (by omega) fun k' l1 l2 l3=>?_)
    have ap:∀x∈(b.toList.drop (ib+1)).take k',∀y∈a.toList.drop i2,kle x y:=fun x hx y hy=>by
     obtain⟨j,h1,h2,h3⟩:=zeh hx
     exact znh (a:=a) (i:=0) hA hp (zmu (l2 j h1) h3) y hy
    have aj:∀y∈b.toList.drop (ib+1+k'),kle p y:=fun y hy=>by
     obtain⟨j,h1,h2,h3⟩:=zgf hy
     exact zk6 (l3 (j-(ib+1)) (by omega) (by omega)) (by rw[show ib+1+(j-(ib+1))=j by omega];exact h3)
    dsimp (config:={ zeta:=false,zetaHave:=false,zetaUnused:=false }) only
    extract_lets _ _ jp3
    suffices ak:∀(o3:Array Keyed)(i3:Nat),MI a.toList b.toList o3.toList i2 i3→i3<b.size→ib+1≤i3→(∀y∈b.toList.drop i3,kle p y)→wpS (model prog w) A E s (jp3 () o3 i3) _ (zey st ae) by
     refine zas (fun c3=>?_) (fun c3=>ak _ (ib+1) m3 (by omega) (Nat.le_refl _) (by rw[show ib+1=ib+1+k' by omega];exact aj))
     have m4:=(m3.swap.blk hB ap).swap
     refine zas (fun c5=>wpS_pure ⟨⟨ae,rfl⟩,.inl ⟨_,_,rfl,m4.doneA hA (Nat.le_of_eq (beq_iff_eq.mp c5).symm)⟩⟩) (fun c5=>?_)
     have ah:ib+1+k'≠b.size:=fun z=>c5 (beq_iff_eq.mpr z)
     exact ak _ (ib+1+k') m4 (by omega) (by omega) aj
    intro o3 i3 m4 al aw aq
    refine wpS_bind (za8 hp ?_)
    have m5:=m4.one hA hp aq
    refine zas (fun c5=>wpS_pure ⟨⟨ae,rfl⟩,.inl ⟨_,_,rfl,m5.lastE hA hB (beq_iff_eq.mp c5) hla⟩⟩) (fun c5=>?_)
    have ah:i2+1+1≠a.size:=fun z=>c5 (beq_iff_eq.mpr z)
    exact zas (fun c6=>wpS_pure ⟨⟨ae,rfl⟩,.inr ⟨_,_,_,_,_,_,rfl,⟨m5,by omega,al⟩,by omega⟩⟩) (fun c6=>wpS_pure ⟨⟨ae,rfl⟩,_,_,_,_,_,_,rfl,⟨m5,by omega,al⟩,by omega⟩)
   ·rintro c ad ⟨⟨g,rfl⟩,aa,ia,ib,mg,ac,bc,rfl,v,hx⟩
    have va:=v.ha
    have vb:=v.hb
    omega
   ·rintro c ad ⟨⟨g,rfl⟩,⟨r,rest,rfl,hr⟩|⟨aa,ia,ib,mg,ac,bc,rfl,v,hx⟩⟩
    ·exact wpS_pure ⟨⟨g,rfl⟩,r,_,rfl,hr⟩
    ·exact wpS_bind (wpS_modify (wpS_pure ⟨⟨_,rfl⟩,_,_,_,_,rfl,v,by omega⟩))
 ·rintro c ad ⟨⟨g,rfl⟩,aa,ia,ib,mg,rfl,v,hx⟩
  have va:=v.ha
  have vb:=v.hb
  omega
 ·rintro c ad ⟨⟨g,rfl⟩,r,rest,rfl,hr⟩
  exact wpS_pure (h r g hr)
end
structure MH(A B out:List Keyed)(na nb:Nat):Prop where
 perm:out.Perm (A.drop na++B.drop nb)
 srt:out.Pairwise fun x y=>kle y x
 la:∀x∈out,∀y∈A.take na,kle y x
 lb:∀x∈out,∀y∈B.take nb,kle y x
theorem MH.swap{A B out:List Keyed}{na nb:Nat}(m:MH A B out na nb):MH B A out nb na:=
 ⟨m.perm.trans List.perm_append_comm,m.srt,m.lb,m.la⟩
theorem MH.more{A B out:List Keyed}{na nb:Nat}(hA:A.Pairwise kle)(m:MH A B out na nb){k:Nat}(hk:k≤na)(hn:na≤A.length)(hx:∀x∈(A.take na).drop k,∀y∈B.take nb,kle y x):
    MH A B (out++((A.take na).drop k).reverse) k nb:=by
  have hd:(A.take na).Pairwise kle:=hA.sublist (List.take_sublist _ _)
  have hs:((A.take na).take k++(A.take na).drop k).Pairwise kle:=by rw[List.take_append_drop];exact hd
  obtain⟨p1,p2,p3⟩:=List.pairwise_append.mp hs
  rw[List.take_take,Nat.min_eq_left hk] at p3
  have ed:A.drop k=(A.take na).drop k++A.drop na:=by
    conv=>lhs;rw[←List.take_append_drop na A]
    rw[List.drop_append_of_le_length (by rw[List.length_take];omega)]
  refine⟨?_,List.pairwise_append.mpr ⟨m.srt,List.pairwise_reverse.mpr p2,fun x h y g=>m.la x h y (List.mem_of_mem_drop (List.mem_reverse.mp g))⟩,fun x h y g=>?_,fun x h y g=>?_⟩
  · rw[ed]
    refine(List.Perm.append m.perm (List.reverse_perm _)).trans ?_
    refine List.perm_append_comm.trans ?_
    rw[List.append_assoc]
  · rcases List.mem_append.mp h with z|z
    · exact m.la x z y (by have:A.take k=(A.take na).take k:=by rw[List.take_take,Nat.min_eq_left hk]
                           rw[this] at g;exact List.mem_of_mem_take g)
    · exact p3 y g x (List.mem_reverse.mp z)
  · rcases List.mem_append.mp h with z|z
    · exact m.lb x z y g
    · exact hx x (List.mem_reverse.mp z) y g
theorem MH.fin{A B out:List Keyed}(m:MH A B out 0 0):SP A B out.reverse:=
 ⟨(List.reverse_perm _).trans m.perm,List.pairwise_reverse.mpr m.srt⟩
theorem MH.allA{A B out:List Keyed}{na:Nat}(hA:A.Pairwise kle)(m:MH A B out na 0)(hn:na≤A.length):SP A B (A.take na++out.reverse):=by
 have h:=(m.more hA (Nat.zero_le _) hn (fun x _ y g=>by rw[List.take_zero] at g;cases g)).fin
 rwa [List.drop_zero,List.reverse_append,List.reverse_reverse] at h
theorem MH.allB{A B out:List Keyed}{nb:Nat}(hB:B.Pairwise kle)(m:MH A B out 0 nb)(hn:nb≤B.length):SP A B (B.take nb++out.reverse):=by
 have h:=m.swap.allA hB hn
 exact⟨h.1.trans List.perm_append_comm,h.2⟩
theorem MH.first{A B out:List Keyed}{na nb:Nat}(hA:A.Pairwise kle)(hB:B.Pairwise kle)(m:MH A B out na nb)(ha:na≤A.length)(hb:nb≤B.length)(hx:∀x∈B.take nb,∀y∈A.take na,kle x y):
  SP A B (B.take nb++A.take na++out.reverse):=by
 have h:=(m.more hA (Nat.zero_le _) ha (fun x g y g2=>hx y g2 x (by rwa [List.drop_zero] at g))).allB hB hb
 rwa [List.drop_zero,List.reverse_append,List.reverse_reverse,←List.append_assoc] at h
theorem zsi{a:Array Keyed}{k:Nat}:(a.extract 0 k).toList=a.toList.take k:=by
 rw[Array.toList_extract,List.extract_eq_drop_take,List.drop_zero,Nat.sub_zero]
theorem zmk{a:Array Keyed}{i k:Nat}:(a.extract i k).toList=(a.toList.take k).drop i:=by
 rw[Array.toList_extract,List.extract_eq_drop_take,List.drop_take]
theorem zlz{a:Array Keyed}{n:Nat}{p:Keyed}(h:a[n-1]?=some p)(hn:0<n)(hs:n≤a.size):(a.toList.take n).drop (n-1)=[p]:=by
 have:=ze2 h
 rw[List.drop_take,show n-(n-1)=1 by omega]
 exact this
theorem MH.one{a b out:Array Keyed}{na nb:Nat}{p:Keyed}(hA:a.toList.Pairwise kle)(m:MH a.toList b.toList out.toList na nb)(hp:a[na-1]?=some p)(hn:0<na)(hs:na≤a.size)(hx:∀y∈b.toList.take nb,kle y p):
  MH a.toList b.toList (out.push p).toList (na-1) nb:=by
 have:=m.more hA (k:=na-1) (by omega) (by rw[Array.length_toList];exact hs) (by rw[zlz hp hn hs];intro x aa y hy;rw[List.mem_singleton.mp aa];exact hx y hy)
 rw[zlz hp hn hs] at this
 rwa [Array.toList_push]
theorem MH.blk{a b out:Array Keyed}{na nb k:Nat}(hA:a.toList.Pairwise kle)(m:MH a.toList b.toList out.toList na nb)(hk:k≤na)(hs:na≤a.size)(hx:∀x∈(a.toList.take na).drop k,∀y∈b.toList.take nb,kle y x):
  MH a.toList b.toList (out++(a.extract k na).reverse).toList k nb:=by
 rw[Array.toList_append,Array.toList_reverse,zmk]
 exact m.more hA hk (by rw[Array.length_toList];exact hs) hx
theorem MH.done0{a b out:Array Keyed}{na nb:Nat}(hA:a.toList.Pairwise kle)(m:MH a.toList b.toList out.toList na nb)(e:nb=0)(hs:na≤a.size):
  SP a.toList b.toList (a.extract 0 na++b.extract 0 nb++out.reverse).toList:=by
 subst e
 rw[Array.toList_append,Array.toList_append,Array.toList_reverse,zsi,zsi,List.take_zero,List.append_nil]
 exact m.allA hA (by rw[Array.length_toList];exact hs)
theorem MH.doneZ{a b out:Array Keyed}{na nb:Nat}(hB:b.toList.Pairwise kle)(m:MH a.toList b.toList out.toList na nb)(e:na=0)(hs:nb≤b.size):
  SP a.toList b.toList (a.extract 0 na++b.extract 0 nb++out.reverse).toList:=by
 subst e
 rw[Array.toList_append,Array.toList_append,Array.toList_reverse,zsi,zsi,List.take_zero,List.nil_append]
 exact m.allB hB (by rw[Array.length_toList];exact hs)
theorem MH.firstB{a b out:Array Keyed}{na nb:Nat}(hA:a.toList.Pairwise kle)(hB:b.toList.Pairwise kle)(m:MH a.toList b.toList out.toList na nb)(e:nb=1)(ha:na≤a.size)(hb:0<b.size)
  (hx:∀x∈b.toList.take 1,∀y∈a.toList,kle x y):SP a.toList b.toList (b.extract 0 nb++a.extract 0 na++out.reverse).toList:=by
 subst e
 rw[Array.toList_append,Array.toList_append,Array.toList_reverse,zsi,zsi]
 exact m.first hA hB (by rw[Array.length_toList];exact ha) (by rw[Array.length_toList];exact hb) fun x h y g=>hx x h y (List.mem_of_mem_take g)
theorem zfd{a:Array Keyed}{n:Nat}{x:Keyed}(h:x∈a.toList.take n):∃j,j<n∧j<a.size∧a[j]?=some x:=by
 obtain⟨j,h1,h2,h3⟩:=zeh (i:=0) (k:=n) (by rw[List.drop_zero];exact h)
 rw[Nat.zero_add] at h2 h3
 exact⟨j,h1,h2,h3⟩
theorem zfe{a:Array Keyed}{n k:Nat}{x:Keyed}(h:x∈(a.toList.take n).drop k):∃j,k≤j∧j<n∧j<a.size∧a[j]?=some x:=by
 rw[List.drop_take] at h
 obtain⟨j,h1,h2,h3⟩:=zeh h
 exact⟨k+j,by omega,by omega,h2,h3⟩
theorem znv{b:Array Keyed}{n:Nat}{p q:Keyed}(hB:b.toList.Pairwise kle)(hq:b[n-1]?=some q)(h:kle q p)(hn:n≤b.size)(h0:0<n):∀y∈b.toList.take n,kle y p:=by
 intro y hy
 obtain⟨j,h1,h2,h3⟩:=zfd hy
 have:=ztk hB (i:=j) (j:=n-1) (by omega) (by omega)
 rw[zc0 h3,zc0 hq] at this
 exact zl3 this h
structure MW(a b out:Array Keyed)(na nb:Nat):Prop where
 m:MH a.toList b.toList out.toList na nb
 a1:1≤na
 a2:na≤a.size
 b1:2≤nb
 b2:nb≤b.size
section
variable {prog : Program} {w : World} {A : Around} {E : Value → Shared → Prop} {s : Shared}
theorem zpl{st:SortSt}{a b:Array Keyed}{Q:Array Keyed→SortSt→Prop}(hk:kindOf st=oneType')(iA:∀x∈a.toList,zgx x)(iB:∀x∈b.toList,zgx x)
  (hA:a.toList.Pairwise kle) (hB:b.toList.Pairwise kle) (na0:0<a.size) (nb0:0<b.size)
  (hb0:∀x∈b.toList.take 1,∀y∈a.toList,kle x y) (hla:∀x∈b.toList,∀y∈a.toList.drop (a.size-1),kle x y)
  (h:∀r g,SP a.toList b.toList r.toList→Q r (zey st g)):
  wpS (model prog w) A E s (zt2 a b) Q st:=by
 have pA:∀{i},i<a.size→∃p,a[i]?=some p∧zgx p:=fun hi=>⟨_,Array.getElem?_eq_getElem hi,iA _ (Array.getElem_mem_toList hi)⟩
 have pB:∀{i},i<b.size→∃p,b[i]?=some p∧zgx p:=fun hi=>⟨_,Array.getElem?_eq_getElem hi,iB _ (Array.getElem_mem_toList hi)⟩
 obtain⟨z,hz,iz⟩:=pA (show a.size-1<a.size by omega)
 refine wpS_bind (wpS_lift (wpAny_rule ⟨rfl,?_⟩))
 refine wpS_bind (za8 hz ?_)
 have m0:MH a.toList b.toList (#[z]:Array Keyed).toList (a.size-1) b.size:=by
  have e:MH a.toList b.toList (#[]:Array Keyed).toList a.size b.size:=⟨by rw[List.drop_of_length_le (Nat.le_of_eq Array.length_toList),List.drop_of_length_le (Nat.le_of_eq Array.length_toList)];exact List.Perm.refl _,List.Pairwise.nil,nofun,nofun⟩
  exact e.one hA hz na0 (Nat.le_refl _) fun y hy=>hla y (List.mem_of_mem_take hy) z (List.mem_of_mem_take (i:=1) (by rw[ze2 hz];exact List.mem_singleton.mpr rfl))
 refine zas (fun c1=>wpS_pure (h _ (gallopOf st) (m0.doneZ hB (beq_iff_eq.mp c1) (Nat.le_refl _)))) (fun c1=>?_)
 refine zas (fun c2=>wpS_pure (h _ (gallopOf st) (m0.firstB hA hB (beq_iff_eq.mp c2) (by omega) nb0 hb0))) (fun c2=>?_)
 replace c1:a.size-1≠0:=fun z=>c1 (beq_iff_eq.mpr z)
 replace c2:b.size≠1:=fun z=>c2 (beq_iff_eq.mpr z)
 refine wpS_bind (wpS_get ?_)
 refine wpS_bind (wpS_mono (wpS_forRange
  (I:=fun x c ad=>(∃g,zey st g=ad)∧∃na nb aa mg,c=(none,na,nb,aa,mg)∧MW a b aa na nb∧x+1+na+nb≤a.size+b.size)
  (Q:=fun c ad=>(∃g,zey st g=ad)∧∃r rest,c=(some r,rest)∧SP a.toList b.toList r.toList)
  ?_ ?_ ⟨⟨gallopOf st,rfl⟩,_,_,_,_,rfl,⟨m0,by omega,by omega,by omega,by omega⟩,by omega⟩) ?_)
 ·rintro x0 c ad _ aB ⟨⟨g,rfl⟩,na,nb,aa,mg,rfl,v,hx⟩
  refine wpS_bind (wpS_mono (wpS_forRange
   (I:=fun x c ad=>zey st g=ad∧∃na nb aa ac bc,c=(none,na,nb,aa,ac,bc)∧MW a b aa na nb∧x0+1+x+na+nb≤a.size+b.size)
   (Q:=fun c ad=>zey st g=ad∧((∃r rest,c=(some r,rest)∧SP a.toList b.toList r.toList)∨∃na nb aa ac bc,c=(none,na,nb,aa,ac,bc)∧MW a b aa na nb∧x0+2+na+nb≤a.size+b.size))
   ?_ ?_ ⟨rfl,na,nb,aa,0,0,rfl,v,by omega⟩) ?_)
  ·rintro x c ad _ ax ⟨rfl,na,nb,aa,ac,bc,rfl,v,hx⟩
   obtain⟨vm,a1,a2,b1,b2⟩:=v
   obtain⟨p,hp,ip⟩:=pA (show na-1<a.size by omega)
   obtain⟨q,hq,iq⟩:=pB (show nb-1<b.size by omega)
   refine wpS_bind (za8 hq (wpS_bind (za8 hp (wpS_bind (zk4 hk iq ip ?_)))))
   dsimp only
   refine zas (fun c3=>?_) (fun c3=>?_)
   ·have af:kle q p:=Int.le_of_lt (of_decide_eq_true c3)
    have m2:=vm.one hA hp a1 a2 (znv hB hq af b2 (by omega))
    refine wpS_bind (za8 hp ?_)
    refine zas (fun c4=>wpS_pure ⟨rfl,.inl ⟨_,_,rfl,m2.doneZ hB (beq_iff_eq.mp c4) b2⟩⟩) (fun c4=>?_)
    have ag:na-1≠0:=fun z=>c4 (beq_iff_eq.mpr z)
    exact zas (fun c5=>wpS_pure ⟨rfl,.inr ⟨_,_,_,_,_,rfl,⟨m2,by omega,by omega,b1,b2⟩,by omega⟩⟩) (fun c5=>wpS_pure ⟨rfl,_,_,_,_,_,rfl,⟨m2,by omega,by omega,b1,b2⟩,by omega⟩)
   ·have af:kle p q:=Int.not_lt.mp (fun z=>c3 (decide_eq_true z))
    have m2:=(vm.swap.one hB hq (by omega) b2 (znv hA hp af a2 a1)).swap
    refine wpS_bind (za8 hq ?_)
    refine zas (fun c4=>wpS_pure ⟨rfl,.inl ⟨_,_,rfl,m2.firstB hA hB (beq_iff_eq.mp c4) a2 nb0 hb0⟩⟩) (fun c4=>?_)
    have ag:nb-1≠1:=fun z=>c4 (beq_iff_eq.mpr z)
    exact zas (fun c5=>wpS_pure ⟨rfl,.inr ⟨_,_,_,_,_,rfl,⟨m2,a1,a2,by omega,by omega⟩,by omega⟩⟩) (fun c5=>wpS_pure ⟨rfl,_,_,_,_,_,rfl,⟨m2,a1,a2,by omega,by omega⟩,by omega⟩)
  ·rintro c ad ⟨rfl,na,nb,aa,ac,bc,rfl,⟨vm,a1,a2,b1,b2⟩,hx⟩
   omega
  ·rintro c ad ⟨rfl,⟨r,rest,rfl,hr⟩|⟨na,nb,aa,ac,bc,rfl,v,hx⟩⟩
   ·exact wpS_pure ⟨⟨g,rfl⟩,r,_,rfl,hr⟩
   refine wpS_bind (wpS_lift (wpAny_rule ⟨rfl,?_⟩))
   refine wpS_bind (wpS_mono (wpS_forRange
    (I:=fun x c ad=>(∃g,zey st g=ad)∧∃na nb aa mg ac bc,c=(none,na,nb,aa,mg,ac,bc)∧MW a b aa na nb∧x0+2+x+na+nb≤a.size+b.size)
    (Q:=fun c ad=>(∃g,zey st g=ad)∧((∃r rest,c=(some r,rest)∧SP a.toList b.toList r.toList)∨∃na nb aa mg ac bc,c=(none,na,nb,aa,mg,ac,bc)∧MW a b aa na nb∧x0+2+na+nb≤a.size+b.size))
    ?_ ?_ ⟨⟨g,rfl⟩,na,nb,aa,_,ac,bc,rfl,v,by omega⟩) ?_)
   ·rintro x c ad _ ax ⟨⟨g,rfl⟩,na,nb,aa,mg,ac,bc,rfl,⟨vm,a1,a2,b1,b2⟩,hx⟩
    obtain⟨q,hq,iq⟩:=pB (show nb-1<b.size by omega)
    dsimp (config:={ zeta:=false,zetaHave:=false,zetaUnused:=false }) only
    extract_lets _ _ _ _ _ _ _ _ _ _ _ _ jp
    suffices hj:∀ae,wpS (model prog w) A E s (jp () ae) _ (zey st g) from zas (fun _=>hj _) (fun _=>hj _)
    intro ae
    refine wpS_bind (wpS_modify ?_)
    refine wpS_bind (za8 hq ?_)
    refine wpS_bind (zde (left:=false) (arr:=a) (base:=0) (n:=na) (hint:=na-1) hk iq (fun i hi=>by rw[Nat.zero_add];exact pA (i:=i) (by omega)) (fun i j ah hj=>by rw[Nat.zero_add,Nat.zero_add];exact ztk hA ah (by omega)) (by omega) fun k k1 k2 k3=>?_)
    have aq:∀x∈(a.toList.take na).drop k,∀y∈b.toList.take nb,kle y x:=fun x hx y hy=>by
     obtain⟨j,h1,h2,h3,h4⟩:=zfe hx
     exact znv hB hq (zir (k3 j h1 h2) (by rw[Nat.zero_add];exact h4)) b2 (by omega) y hy
    have ai:∀y∈a.toList.take k,kle y q:=fun y hy=>by
     obtain⟨j,h1,h2,h3⟩:=zfd hy
     exact zkc (k2 j h1) (by rw[Nat.zero_add];exact h3)
    dsimp (config:={ zeta:=false,zetaHave:=false,zetaUnused:=false }) only
    extract_lets _ _ jp2
    suffices am:∀(n2:Nat)(o2:Array Keyed),MH a.toList b.toList o2.toList n2 nb→1≤n2→n2≤na→(∀y∈a.toList.take n2,kle y q)→wpS (model prog w) A E s (jp2 () n2 o2) _ (zey st ae) by
     refine zas (fun c3=>?_) (fun c3=>am na aa vm a1 (Nat.le_refl _) (by have af:¬(na-k>0):=c3;rw[show na=k by omega];exact ai))
     have m2:=vm.blk hA k1 a2 aq
     refine zas (fun c4=>wpS_pure ⟨⟨ae,rfl⟩,.inl ⟨_,_,rfl,m2.doneZ hB (beq_iff_eq.mp c4) b2⟩⟩) (fun c4=>?_)
     have ag:k≠0:=fun z=>c4 (beq_iff_eq.mpr z)
     exact am k _ m2 (by omega) k1 ai
    intro n2 o2 m2 ao aC aw
    obtain⟨p,hp,ip⟩:=pA (show n2-1<a.size by omega)
    refine wpS_bind (za8 hq ?_)
    have m3:=(m2.swap.one hB hq (by omega) b2 aw).swap
    refine zas (fun c4=>wpS_pure ⟨⟨ae,rfl⟩,.inl ⟨_,_,rfl,m3.firstB hA hB (beq_iff_eq.mp c4) (by omega) nb0 hb0⟩⟩) (fun c4=>?_)
    have ag:nb-1≠1:=fun z=>c4 (beq_iff_eq.mpr z)
    refine wpS_bind (za8 hp ?_)
    refine wpS_bind (zde (left:=true) (arr:=b) (base:=0) (n:=nb-1) (hint:=nb-1-1) hk ip (fun i hi=>by rw[Nat.zero_add];exact pB (i:=i) (by omega)) (fun i j ah hj=>by rw[Nat.zero_add,Nat.zero_add];exact ztk hB ah (by omega)) (by omega) fun k' l1 l2 l3=>?_)
    have ar:∀x∈(b.toList.take (nb-1)).drop k',∀y∈a.toList.take n2,kle y x:=fun x hx y hy=>by
     obtain⟨j,h1,h2,h3,h4⟩:=zfe hx
     exact znv hA hp (zk6 (l3 j h1 h2) (by rw[Nat.zero_add];exact h4)) (by omega) ao y hy
    have aj:∀y∈b.toList.take k',kle y p:=fun y hy=>by
     obtain⟨j,h1,h2,h3⟩:=zfd hy
     exact zmu (l2 j h1) (by rw[Nat.zero_add];exact h3)
    dsimp (config:={ zeta:=false,zetaHave:=false,zetaUnused:=false }) only
    extract_lets _ _ _ jp3
    suffices al:∀(n3:Nat)(o3:Array Keyed),MH a.toList b.toList o3.toList n2 n3→2≤n3→n3≤nb-1→(∀y∈b.toList.take n3,kle y p)→wpS (model prog w) A E s (jp3 () n3 o3) _ (zey st ae) by
     refine zas (fun c3=>?_) (fun c3=>al (nb-1) _ m3 (by omega) (Nat.le_refl _) (by have af:¬(nb-1-k'>0):=c3;rw[show nb-1=k' by omega];exact aj))
     have m4:=(m3.swap.blk hB l1 (by omega) ar).swap
     refine zas (fun c5=>wpS_pure ⟨⟨ae,rfl⟩,.inl ⟨_,_,rfl,m4.firstB hA hB (beq_iff_eq.mp c5) (by omega) nb0 hb0⟩⟩) (fun c5=>?_)
     refine zas (fun c6=>wpS_pure ⟨⟨ae,rfl⟩,.inl ⟨_,_,rfl,m4.done0 hA (beq_iff_eq.mp c6) (by omega)⟩⟩) (fun c6=>?_)
     have ap:k'≠1:=fun z=>c5 (beq_iff_eq.mpr z)
     have aA:k'≠0:=fun z=>c6 (beq_iff_eq.mpr z)
     exact al k' _ m4 (by omega) l1 aj
    intro n3 o3 m4 ak ay av
    refine wpS_bind (za8 hp ?_)
    have m5:=m4.one hA hp ao (by omega) av
    refine zas (fun c5=>wpS_pure ⟨⟨ae,rfl⟩,.inl ⟨_,_,rfl,m5.doneZ hB (beq_iff_eq.mp c5) (by omega)⟩⟩) (fun c5=>?_)
    have ap:n2-1≠0:=fun z=>c5 (beq_iff_eq.mpr z)
    exact zas (fun c6=>wpS_pure ⟨⟨ae,rfl⟩,.inr ⟨_,_,_,_,_,_,rfl,⟨m5,by omega,by omega,ak,by omega⟩,by omega⟩⟩) (fun c6=>wpS_pure ⟨⟨ae,rfl⟩,_,_,_,_,_,_,rfl,⟨m5,by omega,by omega,ak,by omega⟩,by omega⟩)
   ·rintro c ad ⟨⟨g,rfl⟩,na,nb,aa,mg,ac,bc,rfl,⟨vm,a1,a2,b1,b2⟩,hx⟩
    omega
   ·rintro c ad ⟨⟨g,rfl⟩,⟨r,rest,rfl,hr⟩|⟨na,nb,aa,mg,ac,bc,rfl,v,hx⟩⟩
    ·exact wpS_pure ⟨⟨g,rfl⟩,r,_,rfl,hr⟩
    ·exact wpS_bind (wpS_modify (wpS_pure ⟨⟨_,rfl⟩,_,_,_,_,rfl,v,by omega⟩))
 ·rintro c ad ⟨⟨g,rfl⟩,na,nb,aa,mg,rfl,⟨vm,a1,a2,b1,b2⟩,hx⟩
  omega
 ·rintro c ad ⟨⟨g,rfl⟩,r,rest,rfl,hr⟩
  exact wpS_pure (h r g hr)
end
def AllI(xs:Array Keyed):Prop:=∀p∈xs.toList,zgx p
theorem AllI.perm{xs ys:Array Keyed}(h:AllI xs)(hp:ys.Perm xs):AllI ys:=fun p hm=>h p ((Array.perm_iff_toList_perm.mp hp).mem_iff.mp hm)
def za5(xs:Array Keyed)(i j:Nat):Prop:=∀p q,i≤p→p≤q→q<j→K xs p≤K xs q
def zfz(xs:Array Keyed)(at' n:Nat)(l:List Keyed):Array Keyed:=(l.zipIdx n).foldl (fun a (p:Keyed×Nat)=>a.setIfInBounds (at'+p.2) p.1) xs
theorem zhd:∀(l:List Keyed)(xs:Array Keyed)(at' n:Nat),at'+n+l.length≤xs.size→∀k:Nat,
  (zfz xs at' n l)[k]?=if at'+n≤k∧k<at'+n+l.length then l[k-(at'+n)]? else xs[k]?
 |[],xs,at',n,_,k=>by
  show xs[k]?=_
  rw[if_neg (by rw[List.length_nil];omega)]
 |p::l,xs,at',n,h,k=>by
  rw[List.length_cons] at h ⊢
  show(zfz (xs.setIfInBounds (at'+n) p) at' (n+1) l)[k]?=_
  rw[zhd l _ at' (n+1) (by rw[Array.size_setIfInBounds];omega) k]
  by_cases e:k=at'+n
  ·subst e
   rw[if_neg (by omega),if_pos (by omega),Nat.sub_self,List.getElem?_cons_zero,Array.getElem?_setIfInBounds_self_of_lt (by omega)]
  ·by_cases g:at'+n≤k∧k<at'+n+(l.length+1)
   ·rw[if_pos g,if_pos (by omega),show k-(at'+n)=(k-(at'+(n+1)))+1 by omega,List.getElem?_cons_succ]
   ·rw[if_neg g,if_neg (by omega),Array.getElem?_setIfInBounds_ne (by omega)]
theorem zn5{xs:Array Keyed}{at':Nat}{l:List Keyed}(h:at'+l.length≤xs.size):
  (zfz xs at' 0 l).toList=xs.toList.take at'++(l++xs.toList.drop (at'+l.length)):=by
 have aa:(xs.toList.take at').length=at':=by rw[List.length_take,Array.length_toList];omega
 apply List.ext_getElem?
 intro k
 have e:=zhd l xs at' 0 (by omega) k
 rw[Nat.add_zero] at e
 rw[Array.getElem?_toList,e]
 by_cases h1:k<at'
 ·rw[if_neg (by omega),List.getElem?_append_left (by omega),List.getElem?_take,if_pos h1,Array.getElem?_toList]
 ·rw[List.getElem?_append_right (by omega),aa]
  by_cases h2:k<at'+l.length
  ·rw[if_pos (by omega),List.getElem?_append_left (by omega)]
  ·rw[if_neg (by omega),List.getElem?_append_right (by omega),List.getElem?_drop,Array.getElem?_toList,show at'+l.length+(k-at'-l.length)=k by omega]
theorem zup{xs:Array Keyed}{i j:Nat}(h:i≤j):xs.toList=xs.toList.take i++((xs.extract i j).toList++xs.toList.drop j):=by
 rw[zmk,←List.append_assoc]
 have:xs.toList.take i++(xs.toList.take j).drop i=xs.toList.take j:=by
  conv=>rhs;rw[←List.take_append_drop i (xs.toList.take j)]
  rw[List.take_take,Nat.min_eq_left h]
 rw[this,List.take_append_drop]
theorem zwx{xs:Array Keyed}{i j:Nat}(h:za5 xs i j)(hj:j≤xs.size):(xs.extract i j).toList.Pairwise kle:=by
 rw[List.pairwise_iff_getElem]
 intro p q hp hq aa
 rw[zmk,List.length_drop,List.length_take,Array.length_toList] at hp hq
 simp only[zmk,List.getElem_drop,List.getElem_take,Array.getElem_toList]
 have:=h (i+p) (i+q) (by omega) (by omega) (by omega)
 rw[zc0 (Array.getElem?_eq_getElem (by omega)),zc0 (Array.getElem?_eq_getElem (by omega))] at this
 exact this
section
variable {prog : Program} {w : World} {A : Around} {E : Value → Shared → Prop} {s : Shared}
theorem zo2{st:SortSt}{i sa na sb nb pw pw2:Nat}{Q:Bool→SortSt→Prop}(hk:kindOf st=oneType')(hf:failedOf st=none)(hI:AllI (arrOf st))
  (h1:(pendingOf st)[i]?=some (sa,na,pw)) (h2:(pendingOf st)[i+1]?=some (sb,nb,pw2)) (hsb:sb=sa+na) (hna:1≤na) (hnb:1≤nb) (hsz:sb+nb≤(arrOf st).size)
  (s1:za5 (arrOf st) sa sb) (s2:za5 (arrOf st) sb (sb+nb))
  (h:∀xs g,xs.Perm (arrOf st)→za5 xs sa (sb+nb)→(∀k,k<sa∨sb+nb≤k→K xs k=K (arrOf st) k) →
   Q true (SortSt.mk' oneType' xs (((pendingOf st).setIfInBounds i (sa,na+nb,pw)).eraseIdxIfInBounds (i+1)) g none)):
  wpS (model prog w) A E s (mergeAt' i) Q st:=by
 obtain⟨kd,xs,pd,g0,fl⟩:=st
 cases hk
 cases hf
 refine wpS_bind (wpS_get ?_)
 have aq:pd[i]?=some (sa,na,pw):=h1
 have ap:pd[i+1]?=some (sb,nb,pw2):=h2
 replace hI:AllI xs:=hI
 replace hsz:sb+nb≤xs.size:=hsz
 replace s1:za5 xs sa sb:=s1
 replace s2:za5 xs sb (sb+nb):=s2
 replace h:∀ys g,ys.Perm xs→za5 ys sa (sb+nb)→(∀k,k<sa∨sb+nb≤k→K ys k=K xs k) →
   Q true (SortSt.mk' oneType' ys ((pd.setIfInBounds i (sa,na+nb,pw)).eraseIdxIfInBounds (i+1)) g none):=h
 dsimp only
 rw[aq,ap]
 dsimp only
 have pX:∀{i},i<xs.size→∃p,xs[i]?=some p∧zgx p:=fun hi=>⟨_,Array.getElem?_eq_getElem hi,hI _ (Array.getElem_mem_toList hi)⟩
 refine wpS_bind (wpS_modify ?_)
 obtain⟨q,hq,iq⟩:=pX (show sb<xs.size by omega)
 refine wpS_bind (za8 hq ?_)
 refine wpS_bind (zde (left:=false) (arr:=xs) (base:=sa) (n:=na) (hint:=0) rfl iq (fun i hi=>pX (i:=sa+i) (by omega)) (fun i j ak hj=>s1 _ _ (by omega) (by omega) (by omega)) (by omega) fun k k1 k2 k3=>?_)
 have f1:∀p,sa≤p→p<sa+k→K xs p≤K xs sb:=fun p p1 p2=>by
  obtain⟨u,hu,_⟩:=pX (show p<xs.size by omega)
  rw[zc0 hu,zc0 hq]
  exact zkc (k2 (p-sa) (by omega)) (by rw[show sa+(p-sa)=p by omega];exact hu)
 have f2:∀p,sa+k≤p→p<sb→K xs sb≤K xs p:=fun p p1 p2=>by
  obtain⟨u,hu,_⟩:=pX (show p<xs.size by omega)
  rw[zc0 hu,zc0 hq]
  exact zir (k3 (p-sa) (by omega) (by omega)) (by rw[show sa+(p-sa)=p by omega];exact hu)
 refine zas (fun c1=>wpS_pure ?_) (fun c1=>?_)
 ·have ar:na-k=0:=beq_iff_eq.mp c1
  refine h xs g0 (Array.Perm.refl _) (fun p q' p1 p2 p3=>?_) (fun _ _=>rfl)
  by_cases hp:q'<sb
  ·exact s1 _ _ p1 p2 hp
  ·by_cases am:p<sb
   ·exact Int.le_trans (f1 p p1 (by omega)) (s2 _ _ (Nat.le_refl _) (by omega) p3)
   ·exact s2 _ _ (by omega) p2 p3
 have ar:na-k≠0:=fun z=>c1 (beq_iff_eq.mpr z)
 obtain⟨u,hu,iu⟩:=pX (show sb-1<xs.size by omega)
 have eu:sa+k+(na-k)-1=sb-1:=by omega
 refine wpS_bind (za8 (p:=u) (by rw[eu];exact hu) ?_)
 refine wpS_bind (zde (left:=true) (arr:=xs) (base:=sb) (n:=nb) (hint:=nb-1) rfl iu (fun i hi=>pX (i:=sb+i) (by omega)) (fun i j ak hj=>s2 _ _ (by omega) (by omega) (by omega)) (by omega) fun n' n1 n2 n3=>?_)
 have f3:∀p,sb≤p→p<sb+n'→K xs p≤K xs (sb-1):=fun p p1 p2=>by
  obtain⟨v,hv,_⟩:=pX (show p<xs.size by omega)
  rw[zc0 hv,zc0 hu]
  exact zmu (n2 (p-sb) (by omega)) (by rw[show sb+(p-sb)=p by omega];exact hv)
 have f4:∀p,sb+n'≤p→p<sb+nb→K xs (sb-1)≤K xs p:=fun p p1 p2=>by
  obtain⟨v,hv,_⟩:=pX (show p<xs.size by omega)
  rw[zc0 hv,zc0 hu]
  exact zk6 (n3 (p-sb) (by omega) (by omega)) (by rw[show sb+(p-sb)=p by omega];exact hv)
 refine zas (fun c2=>wpS_pure ?_) (fun c2=>?_)
 ·have av:n'=0:=beq_iff_eq.mp c2
  refine h xs g0 (Array.Perm.refl _) (fun p q' p1 p2 p3=>?_) (fun _ _=>rfl)
  by_cases hp:q'<sb
  ·exact s1 _ _ p1 p2 hp
  ·by_cases am:p<sb
   ·exact Int.le_trans (s1 p (sb-1) p1 (by omega) (by omega)) (f4 _ (by omega) p3)
   ·exact s2 _ _ (by omega) p2 p3
 have av:n'≠0:=fun z=>c2 (beq_iff_eq.mpr z)
 have zX:(xs.extract (sa+k) sb).size=sb-(sa+k):=by rw[Array.size_extract];omega
 have zY:(xs.extract sb (sb+n')).size=n':=by rw[Array.size_extract];omega
 have gX:∀x∈(xs.extract (sa+k) sb).toList,∃j,sa+k≤j∧j<sb∧xs[j]?=some x:=fun x hx=>by
  rw[zmk] at hx
  obtain⟨j,j1,j2,j3,j4⟩:=zfe hx
  exact⟨j,j1,j2,j4⟩
 have gY:∀x∈(xs.extract sb (sb+n')).toList,∃j,sb≤j∧j<sb+n'∧xs[j]?=some x:=fun x hx=>by
  rw[zmk] at hx
  obtain⟨j,j1,j2,j3,j4⟩:=zfe hx
  exact⟨j,j1,j2,j4⟩
 have iX:∀x∈(xs.extract (sa+k) sb).toList,zgx x:=fun x hx=>by
  obtain⟨j,_,_,hj⟩:=gX x hx
  exact hI x (ztu hj)
 have iY:∀x∈(xs.extract sb (sb+n')).toList,zgx x:=fun x hx=>by
  obtain⟨j,_,_,hj⟩:=gY x hx
  exact hI x (ztu hj)
 have aj:(xs.extract (sa+k) sb).toList.Pairwise kle:=zwx (fun p q p1 p2 p3=>s1 p q (by omega) p2 p3) (by omega)
 have ai:(xs.extract sb (sb+n')).toList.Pairwise kle:=zwx (fun p q p1 p2 p3=>s2 p q p1 p2 (by omega)) (by omega)
 have ag:∀x∈(xs.extract sb (sb+n')).toList.take 1,∀y∈(xs.extract (sa+k) sb).toList,kle x y:=fun x hx y hy=>by
  have e0:(xs.extract sb (sb+n'))[0]?=some q:=by
   rw[Array.getElem?_extract,if_pos (by omega),Nat.add_zero];exact hq
  have:=ze2 e0
  rw[List.drop_zero] at this
  rw[this] at hx
  rw[List.mem_singleton.mp hx]
  obtain⟨j,j1,j2,j3⟩:=gX y hy
  have:=f2 j j1 j2
  rwa [zc0 hq,zc0 j3] at this
 have ah:∀x∈(xs.extract sb (sb+n')).toList,∀y∈(xs.extract (sa+k) sb).toList.drop ((xs.extract (sa+k) sb).size-1),kle x y:=fun x hx y hy=>by
  have e0:(xs.extract (sa+k) sb)[(xs.extract (sa+k) sb).size-1]?=some u:=by
   rw[zX,Array.getElem?_extract,if_pos (by omega),show sa+k+(sb-(sa+k)-1)=sb-1 by omega];exact hu
  have al:y=u:=by
   obtain⟨j,j1,j2,j3⟩:=zgf hy
   have:j=(xs.extract (sa+k) sb).size-1:=by omega
   rw[this,e0] at j3
   exact(Option.some.inj j3).symm
  rw[al]
  obtain⟨j,j1,j2,j3⟩:=gY x hx
  have:=f3 j j1 j2
  rwa [zc0 hu,zc0 j3] at this
 have fin:∀(r:Array Keyed)(g:Nat),SP (xs.extract (sa+k) sb).toList (xs.extract sb (sb+n')).toList r.toList →
   Q true (SortSt.mk' oneType' (zfz xs (sa+k) 0 r.toList) ((pd.setIfInBounds i (sa,na+nb,pw)).eraseIdxIfInBounds (i+1)) g none):=by
  intro r g hr
  have hl:r.toList.length=sb-(sa+k)+n':=by
   rw[hr.1.length_eq,List.length_append,Array.length_toList,Array.length_toList,zX,zY]
  have ae:=zhd r.toList xs (sa+k) 0 (by omega)
  have ad:∀p,sa+k≤p→p<sb+n'→∃x,(zfz xs (sa+k) 0 r.toList)[p]?=some x∧r.toList[p-(sa+k)]?=some x∧x∈r.toList:=fun p p1 p2=>by
   have e:=ae p
   rw[if_pos (by omega),Nat.add_zero] at e
   have hp:p-(sa+k)<r.toList.length:=by omega
   rw[List.getElem?_eq_getElem hp] at e ⊢
   exact⟨_,e,rfl,List.getElem_mem hp⟩
  have aa:∀p,p<sa+k∨sb+n'≤p→K (zfz xs (sa+k) 0 r.toList) p=K xs p:=fun p hp=>by
   have e:=ae p
   rw[if_neg (by omega)] at e
   exact K_congr e
  have ao:∀x∈r.toList,K xs sb≤kn x∧kn x≤K xs (sb-1):=fun x hx=>by
   rcases List.mem_append.mp (hr.1.mem_iff.mp hx) with z|z
   ·obtain⟨j,j1,j2,j3⟩:=gX x z
    rw[←zc0 j3]
    exact⟨f2 j j1 j2,s1 _ _ (by omega) (by omega) (by omega)⟩
   ·obtain⟨j,j1,j2,j3⟩:=gY x z
    rw[←zc0 j3]
    exact⟨s2 _ _ (Nat.le_refl _) j1 (by omega),f3 j j1 j2⟩
  have af:∀p,sa+k≤p→p<sb+n'→K xs sb≤K (zfz xs (sa+k) 0 r.toList) p∧K (zfz xs (sa+k) 0 r.toList) p≤K xs (sb-1):=fun p p1 p2=>by
   obtain⟨x,x1,x2,x3⟩:=ad p p1 p2
   rw[zc0 x1]
   exact ao x x3
  refine h _ g ?_ ?_ (fun p hp=>aa p (by omega))
  ·refine Array.perm_iff_toList_perm.mpr ?_
   rw[zn5 (by omega),hl,show sa+k+(sb-(sa+k)+n')=sb+n' by omega]
   conv=>rhs;rw[zup (xs:=xs) (i:=sa+k) (j:=sb+n') (by omega)]
   refine List.Perm.append_left _ (List.Perm.append_right _ (hr.1.trans ?_))
   rw[zmk,zmk,zmk]
   have e1:(xs.toList.take (sb+n')).drop (sa+k)=(xs.toList.take sb).drop (sa+k)++(xs.toList.take (sb+n')).drop sb:=by
    conv=>lhs;rw[←List.take_append_drop sb (xs.toList.take (sb+n'))]
    rw[List.take_take,Nat.min_eq_left (by omega),List.drop_append_of_le_length (by rw[List.length_take,Array.length_toList];omega)]
   rw[e1]
  ·intro p q' p1 p2 p3
   by_cases a1:q'<sa+k
   ·rw[aa p (.inl (by omega)),aa q' (.inl a1)]
    exact s1 _ _ p1 p2 (by omega)
   ·by_cases a2:q'<sb+n'
    ·by_cases a3:p<sa+k
     ·rw[aa p (.inl a3)]
      exact Int.le_trans (f1 p p1 a3) (af q' (by omega) a2).1
     ·obtain⟨x,x1,x2,_⟩:=ad p (by omega) (by omega)
      obtain⟨y,y1,y2,_⟩:=ad q' (by omega) a2
      rw[zc0 x1,zc0 y1]
      by_cases a4:p=q'
      ·subst a4
       rw[x1] at y1
       rw[Option.some.inj y1]
       exact Int.le_refl _
      ·obtain⟨i1,e1⟩:=List.getElem?_eq_some_iff.mp x2
       obtain⟨i2,e2⟩:=List.getElem?_eq_some_iff.mp y2
       have:=List.pairwise_iff_getElem.mp hr.2 _ _ i1 i2 (by omega)
       rwa [e1,e2] at this
    ·rw[aa q' (.inr (by omega))]
     by_cases a3:p<sa+k
     ·rw[aa p (.inl a3)]
      exact Int.le_trans (f1 p p1 a3) (s2 _ _ (Nat.le_refl _) (by omega) p3)
     ·by_cases a4:p<sb+n'
      ·exact Int.le_trans (af p (by omega) a4).2 (f4 q' (by omega) p3)
      ·rw[aa p (.inr (by omega))]
       exact s2 _ _ (by omega) p2 p3
 refine zas (fun c3=>?_) (fun c3=>?_)
 ·refine wpS_bind (zop rfl iX iY aj ai (by omega) (by omega) ag ah fun r g hr=>?_)
  exact wpS_bind (wpS_modify (wpS_bind (wpS_get (wpS_pure (fin r g hr)))))
 ·refine wpS_bind (zpl rfl iX iY aj ai (by omega) (by omega) ag ah fun r g hr=>?_)
  exact wpS_bind (wpS_modify (wpS_bind (wpS_get (wpS_pure (fin r g hr)))))
end
theorem zxi{xs:Array Keyed}{i:Nat}:za5 xs i (i+1):=fun p q p1 p2 p3=>by
 have:p=q:=by omega
 subst this;exact Int.le_refl _
def zou(xs:Array Keyed)(i j:Nat):Prop:=∀p q,i≤p→p≤q→q<j→K xs q≤K xs p
section
variable {prog : Program} {w : World} {A : Around} {E : Value → Shared → Prop} {s : Shared}
theorem zgs{st:SortSt}{xs:Array Keyed}{i j:Nat}{Q:Option Bool→SortSt→Prop}(hk:kindOf st=oneType')(hI:AllI xs)(hi:i<xs.size)(hj:j<xs.size)
  (h:Q (some (decide (K xs i<K xs j))) (setArr st xs)):wpS (model prog w) A E s (ltAt' i j) Q (setArr st xs):=by
 have e1:=Array.getElem?_eq_getElem hi
 have e2:=Array.getElem?_eq_getElem hj
 rw[ltAt'_eq]
 refine wpS_bind (wpS_get ?_)
 refine wpS_bind (za8 e1 (wpS_bind (za8 e2 (zk4 hk (hI _ (Array.getElem_mem_toList hi)) (hI _ (Array.getElem_mem_toList hj)) ?_))))
 rw[zc0 e1,zc0 e2] at h
 exact h
theorem zld{st:SortSt}{xs:Array Keyed}{lo nrem:Nat}{Q:Option Nat→SortSt→Prop}(hk:kindOf st=oneType')(hI:AllI xs)(hn:lo+nrem≤xs.size)(h1:1≤nrem)
  (h:∀m ys,ys.Perm xs→(∀k,k<lo→K ys k=K xs k)→1≤m→m≤nrem→za5 ys lo (lo+m)→Q (some m) (setArr st ys)):
  wpS (model prog w) A E s (countRun' lo nrem) Q (setArr st xs):=by
 refine wpS_bind (wpS_mono (wpS_forRange
  (I:=fun x c ad=>setArr st xs=ad∧c=(none,x)∧x≤nrem∧za5 xs lo (lo+x))
  (Q:=fun c ad=>setArr st xs=ad∧∃n,c=(none,n)∧1≤n∧n≤nrem∧za5 xs lo (lo+n)∧(n=nrem∨K xs (lo+n)<K xs (lo+n-1)))
  ?_ ?_ ⟨rfl,rfl,h1,zxi⟩) ?_)
 ·rintro x c ad ag ao ⟨rfl,rfl,hx,hs⟩
  dsimp only
  refine wpS_bind (zgs hk hI (by omega) (by omega) ?_)
  dsimp only
  refine zas (fun c1=>wpS_pure ⟨rfl,x,rfl,ag,by omega,hs,.inr (of_decide_eq_true c1)⟩) (fun c1=>wpS_pure ⟨rfl,rfl,by omega,fun p q p1 p2 p3=>?_⟩)
  have ai:K xs (lo+x-1)≤K xs (lo+x):=Int.not_lt.mp fun z=>c1 (decide_eq_true z)
  by_cases hq:q<lo+x
  ·exact hs p q p1 p2 hq
  ·have:q=lo+x:=by omega
   subst this
   by_cases hp:p=lo+x
   ·subst hp;exact Int.le_refl _
   ·exact Int.le_trans (hs p (lo+x-1) p1 (by omega) (by omega)) ai
 ·rintro c ad ⟨rfl,rfl,hx,hs⟩
  rw[show max 1 nrem=nrem by omega] at hs ⊢
  exact⟨rfl,_,rfl,h1,Nat.le_refl _,hs,.inl rfl⟩
 rintro c ad ⟨rfl,n,rfl,n1,n2,hs,ar⟩
 refine zas (c:=(n==nrem)=true) (fun c1=>wpS_pure (h n xs (Array.Perm.refl _) (fun _ _=>rfl) n1 n2 hs)) (fun c1=>?_)
 have ai:n≠nrem:=fun z=>c1 (beq_iff_eq.mpr z)
 have al:=ar.resolve_left ai
 extract_lets _ _ jp
 suffices hj:∀ys,ys.Perm xs→(∀k,k<lo→K ys k=K xs k)→zou ys lo (lo+(n+1))→wpS (model prog w) A E s (jp ()) Q (setArr st ys) by
  refine zas (fun c2=>?_) (fun c2=>?_)
  ·refine wpS_bind (zgs hk hI (by omega) (by omega) ?_)
   refine zas (c:=decide (K xs lo<K xs (lo+n-1))=true) (fun c3=>wpS_pure (h n xs (Array.Perm.refl _) (fun _ _=>rfl) n1 n2 hs)) (fun c3=>?_)
   have aj:K xs (lo+n-1)≤K xs lo:=Int.not_lt.mp fun z=>c3 (decide_eq_true z)
   have all:∀k,lo≤k→k<lo+n→K xs k=K xs (lo+n-1):=fun k k1 k2=>by
    have a1:=hs lo k (Nat.le_refl _) k1 k2
    have a2:=hs k (lo+n-1) k1 (by omega) (by omega)
    omega
   refine wpS_bind (wpS_modify ?_)
   have e:=K_mirror_equal (i:=lo) (j:=lo+n) (xs:=xs) (by omega) all
   refine hj (mirror xs lo (lo+n) ((lo+n-lo)/2)) (mirror_perm _ _ _ _) (fun k _=>e k) (fun p q p1 p2 p3=>?_)
   rw[e,e]
   by_cases hq:q<lo+n
   ·rw[all q (by omega) hq,all p p1 (by omega)];exact Int.le_refl _
   ·have:q=lo+n:=by omega
    subst this
    by_cases hp:p=lo+n
    ·subst hp;exact Int.le_refl _
    ·rw[all p p1 (by omega)];exact Int.le_of_lt al
  ·refine hj xs (Array.Perm.refl _) (fun _ _=>rfl) (fun p q p1 p2 p3=>?_)
   have ay:¬n>1:=c2
   have:n=1:=by omega
   subst this
   by_cases hp:p=q
   ·subst hp;exact Int.le_refl _
   ·have:p=lo:=by omega
    have:q=lo+1:=by omega
    subst p q
    exact Int.le_of_lt al
 intro ys yp yl yd
 have yz:ys.size=xs.size:=yp.size_eq
 refine wpS_bind (wpS_lift (wpAny_rule ⟨rfl,?_⟩))
 refine wpS_bind (wpS_mono (wpS_forRange
  (I:=fun x c ad=>∃zs aa,setArr st zs=ad∧c=(none,x,aa)∧zs.Perm xs∧(∀k,k<lo→K zs k=K xs k)∧zou zs lo (lo+x)∧x≤nrem∧aa+1≤x∧(∀i,lo+x-(aa+1)≤i→i<lo+x→K zs i=K zs (lo+x-1)))
  (Q:=fun c ad=>∃zs m aa,setArr st zs=ad∧c=(none,m,aa)∧zs.Perm xs∧(∀k,k<lo→K zs k=K xs k)∧zou zs lo (lo+m)∧1≤m∧m≤nrem∧aa+1≤m∧(∀i,lo+m-(aa+1)≤i→i<lo+m→K zs i=K zs (lo+m-1)))
  ?_ ?_ ⟨ys,0,rfl,rfl,yp,yl,yd,by omega,by omega,fun i i1 i2=>by rw[show i=lo+(n+1)-1 by omega]⟩) ?_)
 ·rintro x c ad ag ao ⟨zs,aa,rfl,rfl,zp,zl,zd,z1,z2,z3⟩
  have zz:zs.size=xs.size:=zp.size_eq
  have ak:n+1≤x:=ag
  refine wpS_bind (zgs hk (hI.perm zp) (by show lo+x<zs.size;omega) (by show lo+x-1<zs.size;omega) ?_)
  have af:∀us:Array Keyed,(∀k,K us k=K zs k)→K zs (lo+x)≤K zs (lo+x-1)→zou us lo (lo+(x+1)):=fun us hu aw p q p1 p2 p3=>by
   rw[hu,hu]
   by_cases hq:q<lo+x
   ·exact zd p q p1 p2 hq
   ·have:q=lo+x:=by omega
    subst this
    by_cases hp:p=lo+x
    ·subst hp;exact Int.le_refl _
    ·exact Int.le_trans aw (zd p (lo+x-1) p1 (by omega) (by omega))
  refine zas (c:=decide (K zs (lo+x)<K zs (lo+x-1))=true) (fun c3=>?_) (fun c3=>?_)
  ·have aj:=of_decide_eq_true c3
   have e:=K_mirror_equal (i:=lo+x-(aa+1)) (j:=lo+x) (xs:=zs) (by omega) z3
   refine zas (c:=aa>0) (fun c4=>?_) (fun c4=>?_)
   ·exact wpS_bind (wpS_modify (wpS_pure ⟨mirror zs (lo+x-(aa+1)) (lo+x) ((lo+x-(lo+x-(aa+1)))/2),0,rfl,rfl,(mirror_perm _ _ _ _).trans zp,fun k ah=>by rw[e];exact zl k ah,af _ e (Int.le_of_lt aj),by omega,by omega,fun i i1 i2=>by rw[show i=lo+(x+1)-1 by omega]⟩))
   ·exact wpS_pure ⟨zs,0,rfl,rfl,zp,zl,af _ (fun _=>rfl) (Int.le_of_lt aj),by omega,by omega,fun i i1 i2=>by rw[show i=lo+(x+1)-1 by omega]⟩
  ·have aj:=Int.not_lt.mp fun z=>c3 (decide_eq_true z)
   refine wpS_bind (zgs hk (hI.perm zp) (by show lo+x-1<zs.size;omega) (by show lo+x<zs.size;omega) ?_)
   refine zas (c:=decide (K zs (lo+x-1)<K zs (lo+x))=true) (fun c4=>wpS_pure ⟨zs,x,aa,rfl,rfl,zp,zl,zd,by omega,z1,z2,z3⟩) (fun c4=>?_)
   have av:=Int.not_lt.mp fun z=>c4 (decide_eq_true z)
   have ex:K zs (lo+x)=K zs (lo+x-1):=by omega
   refine wpS_pure ⟨zs,aa+1,rfl,rfl,zp,zl,af _ (fun _=>rfl) av,by omega,by omega,fun i i1 i2=>?_⟩
   rw[show lo+(x+1)-1=lo+x by omega]
   by_cases hi:i=lo+x
   ·rw[hi]
   ·rw[ex];exact z3 i (by omega) (by omega)
 ·rintro c ad ⟨zs,aa,rfl,rfl,zp,zl,zd,z1,z2,z3⟩
  have e:max (n+1) nrem=nrem:=by omega
  rw[e] at zd z2 z3
  exact⟨zs,nrem,aa,rfl,by rw[e],zp,zl,zd,h1,Nat.le_refl _,z2,z3⟩
 rintro c ad ⟨zs,m,aa,rfl,rfl,zp,zl,zd,m1,z1,z2,z3⟩
 have zz:zs.size=xs.size:=zp.size_eq
 dsimp (config:={ zeta:=false,zetaHave:=false,zetaUnused:=false }) only
 extract_lets
 rename_i ax
 suffices am:∀us,us.Perm xs→(∀k,k<lo→K us k=K xs k)→zou us lo (lo+m)→wpS (model prog w) A E s (ax ()) Q (setArr st us) by
  have e:=K_mirror_equal (i:=lo+m-(aa+1)) (j:=lo+m) (xs:=zs) (by omega) z3
  refine zas (fun c4=>?_) (fun c4=>am zs zp zl zd)
  exact wpS_bind (wpS_modify (am (mirror zs (lo+m-(aa+1)) (lo+m) ((lo+m-(lo+m-(aa+1)))/2)) ((mirror_perm _ _ _ _).trans zp) (fun k ah=>by rw[e];exact zl k ah) (fun p q p1 p2 p3=>by rw[e,e];exact zd p q p1 p2 p3)))
 intro us up ul ud
 have uz:us.size=xs.size:=up.size_eq
 refine wpS_bind (wpS_modify ?_)
 have hm:=K_mirror (xs:=us) (i:=lo) (j:=lo+m) (by omega)
 have vs:za5 (mirror us lo (lo+m) ((lo+m-lo)/2)) lo (lo+m):=fun p q p1 p2 p3=>by
  rw[hm,hm,if_pos ⟨p1,by omega⟩,if_pos ⟨by omega,p3⟩]
  exact ud _ _ (by omega) (by omega) (by omega)
 have vl:∀k,k<lo→K (mirror us lo (lo+m) ((lo+m-lo)/2)) k=K xs k:=fun k ah=>by
  rw[hm,if_neg (by omega)];exact ul k ah
 have vp:(mirror us lo (lo+m) ((lo+m-lo)/2)).Perm xs:=(mirror_perm _ _ _ _).trans up
 show wpS _ _ _ _ _ _ (setArr st (mirror us lo (lo+m) ((lo+m-lo)/2)))
 generalize mirror us lo (lo+m) ((lo+m-lo)/2)=vv at vs vl vp
 have vz:vv.size=xs.size:=vp.size_eq
 refine wpS_bind (wpS_mono (wpS_forRange
  (I:=fun x c ad=>setArr st vv=ad∧c=(none,x)∧x≤nrem∧za5 vv lo (lo+x))
  (Q:=fun c ad=>setArr st vv=ad∧∃n,c=(none,n)∧1≤n∧n≤nrem∧za5 vv lo (lo+n))
  ?_ ?_ ⟨rfl,rfl,z1,vs⟩) ?_)
 ·rintro x c ad ag ao ⟨rfl,rfl,hx,ae⟩
  have ak:m≤x:=ag
  refine wpS_bind (zgs hk (hI.perm vp) (by show lo+x<vv.size;omega) (by show lo+x-1<vv.size;omega) ?_)
  refine zas (c:=decide (K vv (lo+x)<K vv (lo+x-1))=true) (fun c1=>wpS_pure ⟨rfl,x,rfl,by omega,by omega,ae⟩) (fun c1=>wpS_pure ⟨rfl,rfl,by omega,fun p q p1 p2 p3=>?_⟩)
  have ai:K vv (lo+x-1)≤K vv (lo+x):=Int.not_lt.mp fun z=>c1 (decide_eq_true z)
  by_cases hq:q<lo+x
  ·exact ae p q p1 p2 hq
  ·have:q=lo+x:=by omega
   subst this
   by_cases hp:p=lo+x
   ·subst hp;exact Int.le_refl _
   ·exact Int.le_trans (ae p (lo+x-1) p1 (by omega) (by omega)) ai
 ·rintro c ad ⟨rfl,rfl,hx,ae⟩
  have e:max m nrem=nrem:=by omega
  rw[e] at ae
  exact⟨rfl,nrem,by rw[e],h1,Nat.le_refl _,ae⟩
 ·rintro c ad ⟨rfl,n',rfl,aq,ap,ae⟩
  exact wpS_pure (h n' vv vp vl aq ap ae)
end
def Chain(xs:Array Keyed):Nat→List (Nat×Nat×Nat)→Nat→Prop
 |a,[],b=>a=b
 |a,p::l,b=>p.1=a∧1≤p.2.1∧za5 xs a (a+p.2.1)∧Chain xs (a+p.2.1) l b
theorem Chain.len{xs:Array Keyed}:∀{l:List (Nat×Nat×Nat)} {a b:Nat},Chain xs a l b→a+l.length≤b
 |[],a,b,h=>by cases h;exact Nat.le_refl _
 |p::l,a,b,h=>by
  have:=Chain.len h.2.2.2
  have:=h.2.1
  rw[List.length_cons];omega
theorem Chain.congr{xs ys:Array Keyed}:∀{l:List (Nat×Nat×Nat)} {a b:Nat},Chain xs a l b→(∀k,a≤k→k<b→K ys k=K xs k)→Chain ys a l b
 |[],a,b,h,_=>h
 |p::l,a,b,h,e=>by
  have hl:=Chain.len h.2.2.2
  exact⟨h.1,h.2.1,fun i j i1 i2 i3=>by rw[e i (by omega) (by omega),e j (by omega) (by omega)];exact h.2.2.1 i j i1 i2 i3,Chain.congr h.2.2.2 fun k k1 k2=>e k (by omega) k2⟩
theorem Chain.app{xs:Array Keyed}:∀{l m:List (Nat×Nat×Nat)} {a b c:Nat},Chain xs a l b→Chain xs b m c→Chain xs a (l++m) c
 |[],m,a,b,c,h,g=>by cases h;exact g
 |p::l,m,a,b,c,h,g=>⟨h.1,h.2.1,h.2.2.1,Chain.app h.2.2.2 g⟩
theorem Chain.split{xs:Array Keyed}:∀{l m:List (Nat×Nat×Nat)} {a c:Nat},Chain xs a (l++m) c→∃b,Chain xs a l b∧Chain xs b m c
 |[],m,a,c,h=>⟨a,rfl,h⟩
 |p::l,m,a,c,h=>by
  obtain⟨b,h1,h2⟩:=Chain.split h.2.2.2
  exact⟨b,⟨h.1,h.2.1,h.2.2.1,h1⟩,h2⟩
theorem Chain.pw{xs:Array Keyed}:∀{l m:List (Nat×Nat×Nat)} {a b:Nat},l.map (fun p=>(p.1,p.2.1))=m.map (fun p=>(p.1,p.2.1))→Chain xs a l b→Chain xs a m b
 |[],[],a,b,_,h=>h
 |[],q::m,a,b,e,h=>by cases e
 |p::l,[],a,b,e,h=>by cases e
 |p::l,q::m,a,b,e,h=>by
  rw[List.map_cons,List.map_cons] at e
  obtain⟨e1,e2⟩:=List.cons.inj e
  have e3:=(Prod.mk.inj e1)
  refine⟨e3.1▸h.1,e3.2▸h.2.1,e3.2▸h.2.2.1,?_⟩
  rw[←e3.2]
  exact Chain.pw e2 h.2.2.2
theorem zrw{α:Type}{l:List α}{i:Nat}(h:i+1<l.length):∃l1 x y l2,l=l1++x::y::l2∧l1.length=i:=by
 refine⟨l.take i,l[i],l[i+1],l.drop (i+2),?_,by rw[List.length_take];omega⟩
 rw[←List.drop_eq_getElem_cons,←List.drop_eq_getElem_cons,List.take_append_drop]
theorem zpn{α:Type}{pd:Array α}{l1 l2:List α}{x y z:α}(h:pd.toList=l1++x::y::l2):
  ((pd.setIfInBounds l1.length z).eraseIdxIfInBounds (l1.length+1)).toList=l1++z::l2:=by
 have hz:pd.size=l1.length+(l2.length+2):=by rw[←Array.length_toList,h,List.length_append];rfl
 rw[Array.eraseIdxIfInBounds,dif_pos (by rw[Array.size_setIfInBounds];omega),Array.toList_eraseIdx,Array.toList_setIfInBounds,h]
 rw[List.set_append_right _ _ (Nat.le_refl _),Nat.sub_self,List.set_cons_zero,List.eraseIdx_append_of_length_le (by omega)]
 rw[show l1.length+1-l1.length=1 by omega]
 rfl
structure SB(a₀:Array Keyed)(st:SortSt)(lo:Nat):Prop where
 perm:(arrOf st).Perm a₀
 kind:kindOf st=oneType'
 failed:failedOf st=none
 chain:Chain (arrOf st) 0 (pendingOf st).toList lo
 le:lo≤a₀.size
section
variable {prog : Program} {w : World} {A : Around} {E : Value → Shared → Prop} {s : Shared} {a₀ : Array Keyed}
theorem zkh{st:SortSt}{i lo:Nat}{Q:Bool→SortSt→Prop}(h0:AllI a₀)(hB:SB a₀ st lo)(hi:i+1<(pendingOf st).size)
  (h:∀st',SB a₀ st' lo→(pendingOf st').size+1=(pendingOf st).size→(∀k,lo≤k→K (arrOf st') k=K (arrOf st) k)→Q true st'):
  wpS (model prog w) A E s (mergeAt' i) Q st:=by
 obtain⟨l1,⟨sa,na,pw⟩,⟨sb,nb,pw2⟩,l2,hl,rfl⟩:=zrw (l:=(pendingOf st).toList) (by rw[Array.length_toList];exact hi)
 have hc:=hB.chain
 rw[hl] at hc
 obtain⟨b,c1,e1,n1,s1,e2,n2,s2,c2⟩:=hc.split
 dsimp only at e1 n1 s1 e2 n2 s2 c2
 subst e1
 subst e2
 have ae:=c2.len
 have hsz:(arrOf st).size=a₀.size:=hB.perm.size_eq
 have ad:=hB.le
 refine zo2 (sa:=sa) (na:=na) (sb:=sa+na) (nb:=nb) (pw:=pw) (pw2:=pw2) hB.kind hB.failed (h0.perm hB.perm) ?_ ?_ rfl n1 n2 (by omega) s1 s2 fun xs g xp aa xk=>?_
 ·rw[←Array.getElem?_toList,hl,List.getElem?_append_right (Nat.le_refl _),Nat.sub_self];rfl
 ·rw[←Array.getElem?_toList,hl,List.getElem?_append_right (by omega),show l1.length+1-l1.length=1 by omega];rfl
 have hm:=zpn (z:=(sa,na+nb,pw)) hl
 refine h _ ⟨xp.trans hB.perm,rfl,rfl,?_,ad⟩ ?_ fun k hk=>xk k (.inr (by omega))
 ·show Chain xs 0 (((pendingOf st).setIfInBounds l1.length (sa,na+nb,pw)).eraseIdxIfInBounds (l1.length+1)).toList lo
  rw[hm]
  refine(c1.congr fun k _ k2=>xk k (.inl k2)).app ⟨rfl,by dsimp only;omega,?_,?_⟩
  ·dsimp only
   rw[←Nat.add_assoc];exact aa
  ·dsimp only
   rw[←Nat.add_assoc];exact c2.congr fun k k1 _=>xk k (.inr k1)
 ·show(((pendingOf st).setIfInBounds l1.length (sa,na+nb,pw)).eraseIdxIfInBounds (l1.length+1)).size+1=_
  rw[←Array.length_toList,hm,←Array.length_toList,hl,List.length_append,List.length_append]
  rfl
theorem zja{st:SortSt}{xs:Array Keyed}{lo n ok:Nat}{Q:Bool→SortSt→Prop}(hk:kindOf st=oneType')(hI:AllI xs)(hn:lo+n≤xs.size)(hok:ok≤n)(h1:1≤ok)(hs:za5 xs lo (lo+ok))
  (h:∀ys,ys.Perm xs→(∀k,k<lo→K ys k=K xs k)→za5 ys lo (lo+n)→Q true (setArr st ys)):wpS (model prog w) A E s (binarySort' lo n ok) Q (setArr st xs):=by
 rw[binarySort'_eq]
 refine wpS_bind (wpS_mono (wpS_forRange (I:=fun k c ag=>∃ys,c=(none,())∧setArr st ys=ag∧ys.Perm xs∧(∀k,k<lo→K ys k=K xs k)∧za5 ys lo (lo+min k n))
  (Q:=fun c ag=>∃ys,c=(none,())∧setArr st ys=ag∧ys.Perm xs∧(∀k,k<lo→K ys k=K xs k)∧za5 ys lo (lo+n)) ?step ?fin ?init) ?post)
 case post=>
  rintro c ag ⟨ys,rfl,rfl,yp,yl,ak⟩
  exact wpS_pure (h ys yp yl ak)
 case init=>exact⟨xs,rfl,rfl,Array.Perm.refl _,fun _ _=>rfl,by rw[show min (max ok 1) n=ok by omega];exact hs⟩
 case fin=>
  rintro c ag ⟨ys,hc,he,yp,yl,ak⟩
  refine⟨ys,hc,he,yp,yl,?_⟩
  rwa [show min (max (max ok 1) n) n=n by omega] at ak
 case step=>
  rintro k c ag av ax ⟨ys,rfl,rfl,yp,yl,ah⟩
  rw[show min k n=k by omega] at ah
  have yz:ys.size=xs.size:=yp.size_eq
  have ai:lo+k<ys.size:=by omega
  refine wpS_bind (wpS_mono (wpS_forRange (I:=fun x c aa=>setArr st ys=aa∧∃l r,c=(none,l,r)∧l≤r∧r≤k∧r-l≤k-x ∧
    (∀i,i<l→K ys (lo+i)≤K ys (lo+k))∧(∀i,r≤i→i<k→K ys (lo+k)<K ys (lo+i)))
   (Q:=fun c aa=>setArr st ys=aa∧∃l r,c=(none,l,r)∧l≤k ∧
    (∀i,i<l→K ys (lo+i)≤K ys (lo+k))∧(∀i,l≤i→i<k→K ys (lo+k)<K ys (lo+i))) ?istep ?ifin ?iinit) ?ipost)
  case iinit=>exact⟨rfl,0,k,rfl,by omega,by omega,by omega,fun i hi=>by omega,fun i h1 h2=>by omega⟩
  case ifin=>
   rintro c aa ⟨rfl,l,r,rfl,ao,aj,hm,af,ae⟩
   have:l=r:=by omega
   subst this
   exact⟨rfl,l,l,rfl,aj,af,ae⟩
  case istep=>
   rintro x c aa _ aw ⟨rfl,l,r,rfl,ao,aj,hm,af,ae⟩
   refine zas (c:=l≥r) (fun al=>?_) (fun al=>?_)
   ·have:l=r:=by omega
    subst this
    exact wpS_pure ⟨rfl,l,l,rfl,aj,af,ae⟩
   ·refine wpS_bind (zgs hk (hI.perm yp) ai (by show lo+(l+r)/2<ys.size;omega) ?_)
    refine zas (c:=decide (K ys (lo+k)<K ys (lo+(l+r)/2))=true) (fun c1=>?_) (fun c1=>?_)
    ·have ad:=of_decide_eq_true c1
     refine wpS_pure ⟨rfl,l,(l+r)/2,rfl,by omega,by omega,by omega,af,fun i h1 h2=>?_⟩
     exact Int.lt_of_lt_of_le ad (ah _ _ (by omega) (by omega) (by omega))
    ·have ad:=Int.not_lt.mp fun z=>c1 (decide_eq_true z)
     refine wpS_pure ⟨rfl,(l+r)/2+1,r,rfl,by omega,by omega,by omega,fun i h1=>?_,ae⟩
     exact Int.le_trans (ah (lo+i) (lo+(l+r)/2) (by omega) (by omega) (by omega)) ad
  case ipost=>
   rintro c aa ⟨rfl,l,r,rfl,ar,af,ae⟩
   refine wpS_bind (wpS_modify (wpS_pure ⟨bubble ys (lo+k) (lo+k-(lo+l)),rfl,rfl,(bubble_perm _ _ _).trans yp,fun i hi=>?_,?_⟩))
   ·rw[K_bubble ai (by omega),if_neg (by omega),if_neg (by omega)];exact yl i hi
   rw[show min (k+1) n=k+1 by omega]
   intro i j i1 aq hj
   rw[K_bubble ai (by omega),K_bubble ai (by omega),show lo+k-(lo+k-(lo+l))=lo+l by omega]
   have am:∀i,lo≤i→i<lo+l→K ys i≤K ys (lo+k):=fun i a b=>by
    have:=af (i-lo) (by omega)
    rwa [show lo+(i-lo)=i by omega] at this
   have ap:∀i,lo+l≤i→i<lo+k→K ys (lo+k)≤K ys i:=fun i a b=>by
    have:=ae (i-lo) (by omega) (by omega)
    rw[show lo+(i-lo)=i by omega] at this
    exact Int.le_of_lt this
   repeat' split
   all_goals first
    |(exfalso;omega)
    |exact Int.le_refl _
    |exact am _ (by omega) (by omega)
    |exact ap _ (by omega) (by omega)
    |exact ah _ _ (by omega) (by omega) (by omega)
end
section
variable {prog : Program} {w : World} {A : Around} {E : Value → Shared → Prop} {s : Shared} {a₀ : Array Keyed}
theorem zlm{st:SortSt}{Q:Unit→SortSt→Prop}(h0:AllI a₀)(hB:SBase a₀ st)
  (h:∀st',(arrOf st').Perm a₀→failedOf st'=none→SortedTo (arrOf st') a₀.size→Q () st'):wpS (model prog w) A E s sortRuns' Q st:=by
 rw[sortRuns'_eq]
 refine wpS_bind (wpS_get ?_)
 have hz:=hB.size
 extract_lets size mr
 have aw:size=a₀.size:=hz
 clear_value size mr
 subst aw
 have av:SB a₀ st 0:=⟨hB.perm,hB.kind,hB.failed,by rw[hB.pend];rfl,Nat.zero_le _⟩
 refine wpS_bind (wpS_mono (wpS_forRange
  (I:=fun x c st'=>∃lo,c=(none,lo)∧x≤lo∧SB a₀ st' lo)
  (Q:=fun c st'=>c=(none,a₀.size)∧SB a₀ st' a₀.size) ?step ?fin ⟨0,rfl,Nat.le_refl _,av⟩) ?post)
 case fin=>
  rintro c st' ⟨lo,rfl,h1,h2⟩
  have:=h2.le
  have:lo=a₀.size:=by omega
  subst this
  exact⟨rfl,h2⟩
 case step=>
  rintro x c st' _ hx ⟨lo,rfl,aB,hS⟩
  have ao:=hS.le
  dsimp (config:={ zeta:=false,zetaHave:=false,zetaUnused:=false }) only
  refine zas (c:=lo≥a₀.size) (fun c1=>?_) (fun c1=>?_)
  ·have:lo=a₀.size:=by omega
   subst this
   exact wpS_pure ⟨rfl,hS⟩
  have hsz:(arrOf st').size=a₀.size:=hS.perm.size_eq
  obtain⟨R,hR⟩:∃R:ForInStep (Option Unit×Nat)→SortSt→Prop,R=fun r aa=>∃lo,r=ForInStep.yield (none,lo)∧x+1≤lo∧SB a₀ aa lo:=⟨_,rfl⟩
  refine wpS_mono (Q:=R) ?_ (by rw[hR];rintro r aa ⟨lo,rfl,h1,h2⟩;exact⟨lo,rfl,h1,h2⟩)
  refine wpS_bind (zld (st:=st') (xs:=arrOf st') hS.kind (h0.perm hS.perm) (by omega) (by omega) fun m ys yp yl m1 m2 ak=>?_)
  dsimp (config:={ zeta:=false,zetaHave:=false,zetaUnused:=false }) only
  extract_lets n jp force nf
  have hn:n=m:=rfl
  clear_value n
  subst hn
  suffices hj:∀(n':Nat)(zs:Array Keyed),zs.Perm (arrOf st')→(∀k,k<lo→K zs k=K (arrOf st') k)→za5 zs lo (lo+n')→1≤n'→lo+n'≤a₀.size →
    wpS (model prog w) A E s (jp () n') R (setArr st' zs) by
   refine zas (fun c2=>?_) (fun c2=>hj n ys yp yl ak m1 (by omega))
   refine wpS_bind (wpS_lift (wpAny_rule ⟨rfl,?_⟩))
   have hf:force=min (a₀.size-lo) mr:=rfl
   have yz:ys.size=(arrOf st').size:=yp.size_eq
   refine wpS_bind (zja hS.kind ((h0.perm hS.perm).perm yp) (by omega) (by omega) m1 ak fun zs zp zl ah=>?_)
   exact hj force zs (zp.trans yp) (fun k hk=>(zl k hk).trans (yl k hk)) ah (by omega) (by omega)
  clear ys yp yl ak m1 m2
  intro n' zs zp zl ah n1 n2
  have ai:SB a₀ (setArr st' zs) lo:=⟨zp.trans hS.perm,hS.kind,hS.failed,hS.chain.congr fun k _ hk=>zl k hk,ao⟩
  have aj:za5 (arrOf (setArr st' zs)) lo (lo+n'):=ah
  generalize setArr st' zs=ap at ai aj
  clear zs zp zl ah
  refine wpS_bind (wpS_get ?_)
  extract_lets lo2 jp2
  suffices am:∀ae,SB a₀ ae lo→za5 (arrOf ae) lo (lo+n')→wpS (model prog w) A E s (jp2 ()) R ae by
   cases hb:(pendingOf ap).back? with
   |none=>exact am ap ai aj
   |some p=>
    obtain⟨p1,p2,p3⟩:=p
    dsimp (config:={ zeta:=false,zetaHave:=false,zetaUnused:=false }) only
    extract_lets pw
    clear_value pw
    refine wpS_bind (wpS_mono (wpS_forRange (I:=fun x c aa=>c=(none,())∧SB a₀ aa lo∧za5 (arrOf aa) lo (lo+n')) (Q:=fun c aa=>c=(none,())∧SB a₀ aa lo∧za5 (arrOf aa) lo (lo+n')) ?_ (fun _ _ hh=>hh) ⟨rfl,ai,aj⟩) ?_)
    ·rintro y c ae _ hy ⟨rfl,ad,ag⟩
     refine wpS_bind (wpS_get ?_)
     extract_lets p
     by_cases hp:p.size>1
     ·have hl:p.size-2<p.size:=by omega
      rw[if_pos hp,Array.getElem?_eq_getElem hl]
      dsimp (config:={ zeta:=false,zetaHave:=false,zetaUnused:=false }) only
      refine zas (fun c3=>wpS_pure ⟨rfl,ad,ag⟩) (fun c3=>?_)
      refine wpS_bind (zkh h0 ad (show p.size-2+1<p.size by omega) fun ay aq aA al=>?_)
      exact wpS_pure ⟨rfl,aq,fun i j i1 i2 i3=>by rw[al i i1,al j (by omega)];exact ag i j i1 i2 i3⟩
     ·rw[if_neg hp]
      exact wpS_pure ⟨rfl,ad,ag⟩
    ·rintro c ae ⟨rfl,ad,ag⟩
     refine wpS_bind (wpS_modify (am _ ⟨ad.perm,ad.kind,ad.failed,?_,ao⟩ ag))
     refine ad.chain.pw ?_
     show _=((pendingOf ae).modify _ _).toList.map _
     rw[Array.toList_modify]
     generalize (pendingOf ae).toList=l
     generalize (pendingOf ae).size-1=i
     apply List.ext_getElem?
     intro k
     rw[List.getElem?_map,List.getElem?_map,List.getElem?_modify]
     cases l[k]? with
     |none=>rfl
     |some q=>
      by_cases e:i=k
      ·simp[e]
      ·simp[e]
  intro ae ad ag
  refine wpS_bind (wpS_modify (wpS_pure ?_))
  rw[hR]
  refine⟨lo+n',rfl,by omega,ad.perm,ad.kind,ad.failed,?_,n2⟩
  show Chain (arrOf ae) 0 ((pendingOf ae).push (lo,n',0)).toList (lo+n')
  rw[Array.toList_push]
  exact ad.chain.app ⟨rfl,n1,ag,rfl⟩
 case post=>
  rintro c st' ⟨rfl,hS⟩
  dsimp (config:={ zeta:=false,zetaHave:=false,zetaUnused:=false }) only
  refine wpS_bind (wpS_mono (wpS_forRange (I:=fun x c aa=>c=(none,())∧SB a₀ aa a₀.size∧(pendingOf aa).size+x≤a₀.size) (Q:=fun c aa=>c=(none,())∧SB a₀ aa a₀.size∧(pendingOf aa).size≤1) ?_ ?_ ?_) ?_)
  ·rintro x c aa _ hx ⟨rfl,af,hp⟩
   refine wpS_bind (wpS_get ?_)
   refine zas (c:=(pendingOf aa).size≤1) (fun c1=>wpS_pure ⟨rfl,af,c1⟩) (fun c1=>?_)
   extract_lets i before i'
   have ax:i'+1<(pendingOf aa).size:=by
    have:i'=i-1∨i'=i:=by
     show(if _ then i-1 else i)=i-1∨(if _ then i-1 else i)=i
     split
     ·exact .inl rfl
     ·exact .inr rfl
    have hi:i=(pendingOf aa).size-2:=rfl
    omega
   clear_value i'
   refine wpS_bind (zkh h0 af ax fun ae ad aC _=>?_)
   exact wpS_pure ⟨rfl,ad,by omega⟩
  ·rintro c aa ⟨hc,af,hp⟩
   have:max 0 a₀.size=a₀.size:=by omega
   rw[this] at hp
   exact⟨hc,af,by omega⟩
  ·have:=hS.chain.len
   rw[Array.length_toList] at this
   exact⟨rfl,hS,by omega⟩
  ·rintro c aa ⟨rfl,af,hp⟩
   refine wpS_pure (h _ af.perm af.failed ?_)
   have hc:=af.chain
   have hl:(pendingOf aa).toList.length≤1:=by rw[Array.length_toList];exact hp
   generalize (pendingOf aa).toList=l at hc hl
   match l,hc,hl with
   |[],hc,_=>
    have:a₀.size=0:=hc.symm
    intro i j _ hj;omega
   |[p],hc,_=>
    obtain⟨_,_,hs,e⟩:=hc
    have e':0+p.2.1=a₀.size:=e
    intro i j ar hj
    exact hs i j (Nat.zero_le _) ar (by omega)
end
section
variable {prog : Program} {w : World} {A : Around} {E : Value → Shared → Prop} {s : Shared}
theorem zud{a:Addr}{vs:List Value}{ns:List Int}{n:Nat}{P:Fin→Shared→Prop}(o0:s.heap.get? a=some (seqObj "list" vs.toArray n))(hI:IntsAre vs ns)(hz:vs.length≤sizeLine)
  (h:∀(out:Array Value)(ns':List Int),IntsAre out.toList ns'→ns'.Perm ns→ns'.Pairwise (·≤·)→P (.done (.ret .none)) { s with heap:=sortedHeap s.heap a vs out }):
  wpAny (model prog w) A (Builtin.«list.sort» ⟨[.ref a],[]⟩) P E s:=by
 rw[list_sort_plain]
 have la:a<s.heap.objs.size:=Heap.lt_size o0
 obtain⟨e1,o1⟩:∃e,(s.heap.update a (Obj.mapSeq fun _=>#[])).get? a=some (seqObj "list" #[] e):=⟨_,get?_update_seq o0 _⟩
 have o6:(((s.heap.update a (Obj.mapSeq fun _=>#[])).push (seqObj "tuple" vs.toArray 0)).push (seqObj "list" #[] 0)).get? a=some (seqObj "list" #[] e1):=by
  rwa [Heap.get?_push_ne _ _ _ (by rw[size_push',Heap.size_update];exact Nat.ne_of_lt (Nat.lt_succ_of_lt la)),Heap.get?_push_ne _ _ _ (by rw[Heap.size_update];exact Nat.ne_of_lt la)]
 refine wpAny_bind (listItems_at o0 rfl (wpAny_bind (listUpdate_at o0 rfl ?_ (by simpa using hz) (Nat.zero_le _))))
 refine wpAny_bind (seqEpoch_at o1 rfl (wpAny_bind (wpAny_newTuple (wpAny_bind (wpAny_newList (wpAny_holding ?_))))))
 have fit:∀xs:Array Keyed,xs.Perm (pairsOf vs)→(xs.map (·.2)).size≤sizeLine:=fun xs p=>Nat.le_trans (Nat.le_of_eq ((Array.size_map ..).trans (p.size_eq.trans (pairsOf_size vs)))) hz
 have fin:∀xs:Array Keyed,xs.Perm (pairsOf vs)→SortedTo xs (pairsOf vs).size→P (.done (.ret .none)) { s with heap:=sortedHeap s.heap a vs (xs.map (·.2)) }:=fun xs p so=>by
  obtain⟨ms,m1,m2,m3⟩:=sorted_out hI p so
  exact h _ ms m1 m2 m3
 by_cases c:vs.toArray.size<2
 ·rw[if_pos c,if_pos c]
  refine wpAny_bind (wpAny_pure (wpAny_bind (wpAny_pure ?_)))
  refine wpAny_bind (seqEpoch_at o6 rfl (wpAny_bind (listUpdate_at o6 rfl ?_ (Nat.zero_le _) (Nat.le_succ_of_le (fit _ (Array.Perm.refl _))))))
  simp only[bne_self_eq_false,Bool.false_eq_true,if_false]
  refine wpAny_pure (fin (pairsOf vs) (Array.Perm.refl _) fun i j i1 i2=>?_)
  have hl:vs.length<2:=by simpa using c
  have:i=j:=by rw[pairsOf_size] at i2;omega
  subst this
  exact Int.le_refl _
 ·rw[if_neg c,if_neg c]
  obtain⟨x,y,r,rfl⟩:∃x y r,vs=x::y::r:=by
   cases vs with
   |nil=>exact absurd (show 0<2 by decide) c
   |cons x r=>cases r with
    |nil=>exact absurd (show 1<2 by decide) c
    |cons y r=>exact⟨x,y,r,rfl⟩
  rw[keyKind_ints hI]
  refine wpAny_bind (wpAny_pure (wpAny_bind (wpAny_mono (zlm (a₀:=pairsOf (x::y::r)) (st:=SortSt.mk' oneType' (pairsOf (x::y::r)) #[] 7 none)
   (Q:=fun _ aa=>(arrOf aa).Perm (pairsOf (x::y::r))∧failedOf aa=none∧SortedTo (arrOf aa) (pairsOf (x::y::r)).size) hI.intKeys ⟨Array.Perm.refl _,rfl,rfl,rfl⟩ fun _ b1 b2 b3=>⟨b1,b2,b3⟩) ?_ fun _ _ e=>e)))
  rintro⟨u,aa⟩ s' ⟨rfl,b1,b2,b3⟩
  refine wpAny_bind (seqEpoch_at o6 rfl (wpAny_bind (listUpdate_at o6 rfl ?_ (Nat.zero_le _) (Nat.le_succ_of_le (fit _ b1)))))
  rw[b2]
  simp only[bne_self_eq_false,Bool.false_eq_true,if_false]
  exact wpAny_pure (fin _ b1 b3)
theorem sorted_any{l:Addr}{vs:List Value}{ns:List Int}{Q:Value→Shared→Prop}(hl:s.heap.IsList l vs.toArray)(hI:IntsAre vs ns)(hz:vs.length≤sizeLine)
  (h:∀(out:Array Value)(ns':List Int),IntsAre out.toList ns'→ns'.Perm ns→ns'.Pairwise (·≤·)→Q (.ref (s.heap.objs.size+1)) { s with heap:=sortedAll s.heap vs out }):
  wpAny (model prog w) A (call (.builtin "sorted") [.ref l]) Q E s:=by
 have ez:((s.heap.push (seqObj "list" #[] 0)).update s.heap.objs.size (Obj.mapSeq (·++vs.toArray))).objs.size=s.heap.objs.size+1:=by rw[Heap.size_update,size_push']
 have oL:(((s.heap.push (seqObj "list" #[] 0)).update s.heap.objs.size (Obj.mapSeq (·++vs.toArray))).push (seqObj "list" vs.toArray 0)).get? (s.heap.objs.size+1)=some (seqObj "list" vs.toArray 0):=by
  rw[←ez];exact Heap.get?_push_size _ rfl
 refine Calls.call_function_entry kind_sorted plain_sorted entry_sorted (args_sorted1 _) (wpAny_bind (m:=checkCount "sorted" 1 1 _) (wpAny_pure (wpAny_bind (collect_list hl ?_ hz))))
 refine wpAny_bind (wpAny_newList ?_)
 rw[ez]
 refine wpAny_bind (wpAny_holding (wpAny_call_entry slot_list_sort ⟨_,oL,rfl⟩ entry_list_sort (zud oL hI hz fun out ns' a1 a2 a3=>⟨_,rfl,?_⟩) (args_list_sort _)))
 exact wpAny_pure ⟨_,rfl,h out ns' a1 a2 a3⟩
end
end Srt
namespace L2
open PySem PySem.Spec PyProof.Rows
variable {X : Cx}
theorem zna:zef X (.builtin "sorted") (fun xs H Q=>∃(p:Addr)(ns:List Int),xs=[.ref p]∧SqL X.K H p (ns.map V.int)∧∀ms:List Int,ms.Perm ns→ms.Pairwise (·≤·)→∀l,H l=none→Q (.ref l) (upd H l (.lst (ms.map V.int)))):=by
 intro pins s σ H xs us Q I r h
 obtain⟨p,ns,rfl,hq,q⟩:=h
 obtain⟨u,rfl,rx⟩:=ze7 r
 cases rx
 obtain⟨af,rv,pl,ae⟩:=I.list hq
 have aa:=rv.length
 rw[List.length_map] at aa ae
 refine Srt.sorted_any pl.isList (zct rv) (by omega) fun ad ms a1 a2 a3=>?_
 obtain⟨e,he⟩:=sortedAll_at s.heap af ad
 have hm:ms.length=ns.length:=a2.length_eq
 refine⟨.ref (s.heap.objs.size+1),_,I.laid (t':=s.toks) (fun b o=>sortedAll_old) (Nat.le_succ _) (show ObjOk X.prog X.w _ _ _ (.lst (ms.map V.int)) from⟨by rw[List.length_map,hm];exact ae,ad.toList,e,zig a1,he⟩),rfl,q ms a2 a3 _ (I.hok.fresh (Nat.le_succ _))⟩
end L2
namespace Wd
open PySem L2 Ow
structure Bg where
 u:Nat
 lo:Int
 hi:Int
 ks:List Nat
def Bg.tie(b:Bg):Tie:=.bough b.u b.lo b.hi b.ks
def Bg.ind(b:Bg)(j:Nat):Nat:=if decide (b.lo≤(j:Int))&&decide ((j:Int)≤b.hi) then 1 else 0
def zi7(w:Nat→Nat):List Nat→(Nat→Nat)→Nat
 |[],g=>g 0
 |c::cs,g=>zi7 w cs g+w c*zi7 w cs fun j=>g (j+1)
def Bg.F(b:Bg)(w:Nat→Nat):Nat:=zi7 w b.ks b.ind
theorem zjm(w:Nat→Nat):∀(ks:List Nat)(g:Nat→Nat),(∀j,g (j+1)=0)→zi7 w ks g=g 0
 |[],_,_=>rfl
 |c::cs,g,h=>by
  show zi7 w cs g+w c*zi7 w cs (fun j=>g (j+1))=g 0
  rw[zjm w cs g h,zjm w cs _ fun j=>h (j+1),h 0,Nat.mul_zero,Nat.add_zero]
def zgc(w:Nat→Nat)(b:Bg):Nat→Nat:=fun k=>if k=b.u then w k*b.F w else w k
theorem zn0{w:Nat→Nat}{b:Bg}{k:Nat}(h:k≠b.u):zgc w b k=w k:=if_neg h
theorem ztg{w:Nat→Nat}{b:Bg}:zgc w b b.u=w b.u*b.F w:=if_pos rfl
def sub:List Nat→Nat→(Nat→Nat)→Nat
 |[],m,f=>f m
 |k::ks,m,f=>sub ks m f+sub ks (m|||2^k) f
theorem zjf:∀(a b:List Nat)(m:Nat)(f:Nat→Nat),sub (a++b) m f=sub a m fun m'=>sub b m' f
 |[],_,_,_=>rfl
 |k::ks,b,m,f=>by
  show sub (ks++b) m f+sub (ks++b) _ f=_
  rw[zjf ks b,zjf ks b]
  rfl
theorem zd3:∀{V:List Nat} {m:Nat} {f g:Nat→Nat},(∀s,(∀k,k∉V→s.testBit k=m.testBit k)→f s=g s)→sub V m f=sub V m g
 |[],m,f,g,h=>h m fun _ _=>rfl
 |c::cs,m,f,g,h=>by
  show sub cs m f+sub cs _ f=sub cs m g+sub cs _ g
  congr 1
  ·exact zd3 fun s hs=>h s fun k hk=>hs k fun z=>hk (List.mem_cons_of_mem _ z)
  ·refine zd3 fun s hs=>h s fun k hk=>?_
   rw[hs k fun z=>hk (List.mem_cons_of_mem _ z),Nat.testBit_or,Nat.testBit_two_pow]
   rw[decide_eq_false (fun z:c=k=>hk (z▸List.mem_cons_self)),Bool.or_false]
theorem zje(x:Nat):∀(V:List Nat)(m:Nat)(f:Nat→Nat),sub V m (fun s=>x*f s)=x*sub V m f
 |[],_,_=>rfl
 |c::cs,m,f=>by
  show sub cs m _+sub cs _ _=x*(sub cs m f+sub cs _ f)
  rw[zje x cs,zje x cs,Nat.mul_add]
theorem zo5{a b:List Nat}(p:a.Perm b):∀(m:Nat)(f:Nat→Nat),sub a m f=sub b m f:=by
 induction p with
 |nil=>intro m f;rfl
 |cons x _ ih=>intro m f;show sub _ m f+sub _ _ f=sub _ m f+sub _ _ f;rw[ih,ih]
 |swap x y l=>
  intro m f
  show sub l m f+sub l (m|||2^x) f+(sub l (m|||2^y) f+sub l (m|||2^y|||2^x) f)=sub l m f+sub l (m|||2^y) f+(sub l (m|||2^x) f+sub l (m|||2^x|||2^y) f)
  rw[show m|||2^y|||2^x=m|||2^x|||2^y by rw[Nat.or_assoc,Nat.or_comm (2^y),←Nat.or_assoc]]
  omega
 |trans _ _ h1 h2=>intro m f;rw[h1,h2]
def wt(w:Nat→Nat):List Nat→Nat→Nat
 |[],_=>1
 |c::cs,s=>(if s.testBit c=true then w c else 1)*wt w cs s
theorem zte(w:Nat→Nat):∀(a b:List Nat)(s:Nat),wt w (a++b) s=wt w a s*wt w b s
 |[],b,s=>(Nat.one_mul _).symm
 |c::cs,b,s=>by
  show _*wt w (cs++b) s=_*wt w cs s*wt w b s
  rw[zte w cs b s,Nat.mul_assoc]
theorem zj2{w w':Nat→Nat}{s s':Nat}:∀{a:List Nat},(∀k∈a,s.testBit k=s'.testBit k∧w k=w' k)→wt w a s=wt w' a s'
 |[],_=>rfl
 |c::cs,h=>by
  show _*wt w cs s=_*wt w' cs s'
  rw[zj2 fun k hk=>h k (List.mem_cons_of_mem _ hk),(h c List.mem_cons_self).1,(h c List.mem_cons_self).2]
theorem zqx{w:Nat→Nat}{b:Bg}{s:Nat}:∀{a:List Nat},a.Nodup→b.u∈a→wt (zgc w b) a s=wt w a s*(if s.testBit b.u=true then b.F w else 1)
 |c::cs,nd,h=>by
  obtain⟨n1,n2⟩:=List.nodup_cons.mp nd
  show(if s.testBit c=true then zgc w b c else 1)*wt (zgc w b) cs s=(if s.testBit c=true then w c else 1)*wt w cs s*_
  by_cases e:c=b.u
  ·rw[zj2 (w:=zgc w b) (w':=w) (s:=s) (s':=s) fun k hk=>⟨rfl,zn0 fun z=>n1 (e▸z▸hk)⟩,e,ztg]
   by_cases t:s.testBit b.u=true
   ·rw[if_pos t,if_pos t,if_pos t,Nat.mul_assoc,Nat.mul_comm (b.F w),←Nat.mul_assoc]
   ·rw[if_neg t,if_neg t,if_neg t,Nat.mul_one]
  ·rw[zn0 e,zqx n2 ((List.mem_cons.mp h).resolve_left (Ne.symm e)),Nat.mul_assoc]
theorem zrj{w:Nat→Nat}(h:∀k,w k=1)(s:Nat):∀(a:List Nat),wt w a s=1
 |[]=>rfl
 |c::cs=>by
  show _*wt w cs s=1
  rw[zrj h s cs,h c,ite_self,Nat.mul_one]
theorem znl(w:Nat→Nat):∀{ks:List Nat} {m:Nat} {g:Nat→Nat},ks.Nodup→(∀k∈ks,m.testBit k=false)→sub ks m (fun s=>g (cnt ks s)*wt w ks s)=zi7 w ks g
 |[],m,g,_,_=>Nat.mul_one _
 |c::cs,m,g,nd,h=>by
  obtain⟨n1,n2⟩:=List.nodup_cons.mp nd
  have hc:=h c List.mem_cons_self
  show sub cs m _+sub cs (m|||2^c) _=zi7 w cs g+w c*zi7 w cs _
  congr 1
  ·rw[←znl w (m:=m) (g:=g) n2 fun k hk=>h k (List.mem_cons_of_mem _ hk)]
   refine zd3 fun s hs=>?_
   have e:=hs c n1
   rw[hc] at e
   have e2:wt w (c::cs) s=1*wt w cs s:=by
    show(if s.testBit c=true then w c else 1)*wt w cs s=_
    rw[e];rfl
   rw[zcg,e,e2,Nat.one_mul,if_neg Bool.false_ne_true,Nat.zero_add]
  ·rw[←znl w (m:=m|||2^c) (g:=fun j=>g (j+1)) n2 fun k hk=>?_,←zje]
   ·refine zd3 fun s hs=>?_
    have e:=hs c n1
    rw[Nat.testBit_or,Nat.testBit_two_pow_self,Bool.or_true] at e
    have e2:wt w (c::cs) s=w c*wt w cs s:=by
     show(if s.testBit c=true then w c else 1)*wt w cs s=_
     rw[e];rfl
    rw[zcg,e,e2,if_pos rfl,Nat.add_comm 1,Nat.mul_left_comm]
   ·rw[Nat.testBit_or,h k (List.mem_cons_of_mem _ hk),Nat.testBit_two_pow,decide_eq_false (fun z:c=k=>n1 (z▸hk))];rfl
def zbm(L:List Bg):List Nat:=L.flatMap (·.ks)
def Fit(r:Nat):List Bg→Prop
 |[]=>True
 |b::R=>b.u∈r::zbm R∧(∀k∈b.ks,k≠b.u∧∀b'∈R,b'.u≠k)∧Fit r R
def allB(L:List Bg)(s:Nat):Bool:=L.all fun b=>b.tie.keep s
def bit(p:Bool):Nat:=if p then 1 else 0
def ztw(r:Nat)(L:List Bg)(w:Nat→Nat):Nat:=sub (r::zbm L) 0 fun s=>bit (s.testBit r&&allB L s)*wt w (r::zbm L) s
theorem zwj{b:Bg}{s s':Nat}(h1:s.testBit b.u=s'.testBit b.u)(h2:∀k∈b.ks,s.testBit k=s'.testBit k):b.tie.keep s=b.tie.keep s':=by
 show Tie.keep (.bough _ _ _ _) s=Tie.keep (.bough _ _ _ _) s'
 simp only[Tie.keep]
 rw[h1,zgm h2]
theorem zse{r:Nat}{b:Bg}{R:List Bg}{w:Nat→Nat}(nd:(r::zbm (b::R)).Nodup)(ft:Fit r (b::R)):ztw r (b::R) w=ztw r R (zgc w b):=by
 obtain⟨hu,hk,_⟩:=ft
 have eV:zbm (b::R)=b.ks++zbm R:=List.flatMap_cons
 have pV:(r::zbm (b::R)).Perm ((r::zbm R)++b.ks):=by
  rw[eV]
  show(r::(b.ks++zbm R)).Perm (r::(zbm R++b.ks))
  exact List.Perm.cons _ List.perm_append_comm
 have ak:=(pV.nodup_iff).mp nd
 obtain⟨ah,ai,ad⟩:=List.nodup_append.mp ak
 unfold ztw
 rw[zo5 pV,zjf]
 refine zd3 fun m hm=>?_
 have ag:∀k∈b.ks,m.testBit k=false:=fun k aa=>by rw[hm k fun z=>ad k z k aa rfl,Nat.zero_testBit]
 have ae:∀s,wt w (r::zbm (b::R)) s=wt w (r::zbm R) s*wt w b.ks s:=fun s=>by
  rw[eV]
  show _*wt w (b.ks++zbm R) s=_*wt w (zbm R) s*wt w b.ks s
  rw[zte,Nat.mul_comm (wt w b.ks s),Nat.mul_assoc]
 have un:b.u∉b.ks:=fun z=>(hk b.u z).1 rfl
 have rn:r∉b.ks:=fun z=>ad r List.mem_cons_self r z rfl
 have key:sub b.ks m (fun s=>bit (s.testBit r&&allB (b::R) s)*wt w (r::zbm (b::R)) s)=sub b.ks m fun s=>(bit (m.testBit r&&allB R m)*wt w (r::zbm R) m)*((fun j=>if m.testBit b.u=true then b.ind j else bit (decide (j=0))) (cnt b.ks s)*wt w b.ks s):=by
  refine zd3 fun s hs=>?_
  rw[ae,hs r rn]
  have e1:wt w (r::zbm R) s=wt w (r::zbm R) m:=zj2 fun k aa=>⟨hs k fun z=>ad k aa k z rfl,rfl⟩
  have e2:allB R s=allB R m:=by
   unfold allB
   rw[Bool.eq_iff_iff,List.all_eq_true,List.all_eq_true]
   have ee:∀b'∈R,b'.tie.keep s=b'.tie.keep m:=fun b' af=>zwj (hs _ fun z=>(hk _ z).2 b' af rfl) fun k aa=>hs k fun z=>ad k (List.mem_cons_of_mem _ (List.mem_flatMap.mpr ⟨b',af,aa⟩)) k z rfl
   exact⟨fun h x hx=>by rw[←ee x hx];exact h x hx,fun h x hx=>by rw[ee x hx];exact h x hx⟩
  have e3:allB (b::R) s=(b.tie.keep s&&allB R m):=by rw[←e2];rfl
  have e4:bit (b.tie.keep s)=(fun j=>if m.testBit b.u=true then b.ind j else bit (decide (j=0))) (cnt b.ks s):=by
   have aj:=hs b.u un
   show bit (Tie.keep (.bough _ _ _ _) s)=_
   simp only[Tie.keep]
   rw[aj]
   by_cases t:m.testBit b.u=true
   ·rw[if_pos t,if_pos t];rfl
   ·rw[if_neg t,if_neg t]
  have bm:∀p q:Bool,bit (p&&q)=bit p*bit q:=fun p q=>by cases p<;>cases q<;>rfl
  rw[e1,e3,←e4,bm,bm,bm]
  simp only[Nat.mul_assoc,Nat.mul_comm,Nat.mul_left_comm]
 rw[key,zje,znl w (g:=fun j=>if m.testBit b.u=true then b.ind j else bit (decide (j=0))) ai ag,zqx ah hu,Nat.mul_assoc]
 congr 1
 congr 1
 by_cases t:m.testBit b.u=true
 ·simp only[if_pos t];rfl
 ·simp only[if_neg t]
  exact zjm w b.ks _ fun j=>rfl
theorem zph{r:Nat}:∀{L:List Bg} {w:Nat→Nat},(r::zbm L).Nodup→Fit r L→ztw r L w=L.foldl zgc w r
 |[],w,_,_=>by
  show sub [r] 0 (fun s=>bit (s.testBit r&&true)*((if s.testBit r=true then w r else 1)*1))=w r
  show bit ((0:Nat).testBit r&&true)*((if (0:Nat).testBit r=true then w r else 1)*1)+bit ((0|||2^r).testBit r&&true)*((if (0|||2^r).testBit r=true then w r else 1)*1)=w r
  rw[Nat.zero_testBit,Nat.zero_or,Nat.testBit_two_pow_self]
  simp[bit]
 |b::R,w,nd,ft=>by
  have nd':(r::zbm R).Nodup:=by
   rw[show zbm (b::R)=b.ks++zbm R from List.flatMap_cons] at nd
   obtain⟨n1,n2⟩:=List.nodup_cons.mp nd
   exact List.nodup_cons.mpr ⟨fun z=>n1 (List.mem_append_right _ z),(List.nodup_append.mp n2).2.1⟩
  rw[zse nd ft,zph nd' ft.2.2]
  rfl
def zta(L:List Bg)(k:Nat):List Bg:=L.filter fun b=>b.u==k
def zho(m:Nat)(L:List Bg):List Bg:=(List.range m).reverse.flatMap (zta L)
theorem mem_atUp{L:List Bg}{k:Nat}{b:Bg}:b∈zta L k↔b∈L∧b.u=k:=by
 unfold zta
 rw[List.mem_filter,beq_iff_eq]
theorem zgj{m:Nat}{L:List Bg}(ok:∀b∈L,b.u<m){b:Bg}:b∈zho m L↔b∈L:=by
 unfold zho
 rw[List.mem_flatMap]
 constructor
 ·rintro⟨k,_,h⟩
  exact(mem_atUp.mp h).1
 ·intro h
  exact⟨b.u,List.mem_reverse.mpr (List.mem_range.mpr (ok b h)),mem_atUp.mpr ⟨h,rfl⟩⟩
theorem zpf(m:Nat)(L:List Bg):zho (m+1) L=zta L m++zho m L:=by
 unfold zho
 rw[List.range_succ,List.reverse_append]
 rfl
theorem zo7(L:List Bg):∀(m:Nat),(zho m L).Perm (L.filter fun b=>decide (b.u<m))
 |0=>by
  have e:(L.filter fun b=>decide (b.u<0))=[]:=List.filter_eq_nil_iff.mpr fun b hb=>by simp
  rw[e]
  exact List.Perm.refl _
 |m+1=>by
  rw[zpf]
  refine(List.Perm.append_left _ (zo7 L m)).trans ?_
  induction L with
  |nil=>exact List.Perm.refl _
  |cons b L ih=>
   unfold zta at ih ⊢
   by_cases h1:b.u=m
   ·rw[List.filter_cons_of_pos (by simpa using h1),List.filter_cons_of_neg (by simp;omega),List.filter_cons_of_pos (by simp;omega)]
    exact List.Perm.cons _ ih
   ·rw[List.filter_cons_of_neg (by simpa using h1)]
    by_cases h2:b.u<m
    ·rw[List.filter_cons_of_pos (by simpa using h2),List.filter_cons_of_pos (by simp;omega)]
     exact List.perm_middle.trans (List.Perm.cons _ ih)
    ·rw[List.filter_cons_of_neg (by simpa using h2),List.filter_cons_of_neg (by simp;omega)]
     exact ih
theorem znr{m:Nat}{L:List Bg}(ok:∀b∈L,b.u<m):(zho m L).Perm L:=by
 have e:(L.filter fun b=>decide (b.u<m))=L:=List.filter_eq_self.mpr fun b hb=>by simpa using ok b hb
 have:=zo7 L m
 rwa [e] at this
theorem zot{L:List Bg}:∀{m:Nat},(zho m L).Pairwise fun b b'=>b'.u≤b.u
 |0=>List.Pairwise.nil
 |m+1=>by
  rw[zpf,List.pairwise_append]
  refine⟨?_,zot,fun b hb b' hb'=>?_⟩
  ·exact List.Pairwise.imp_of_mem (R:=fun _ _=>True) (fun {a b} ha hb _=>by rw[(mem_atUp.mp ha).2,(mem_atUp.mp hb).2];exact Nat.le_refl _) (List.pairwise_of_forall fun _ _=>trivial)
  ·rw[(mem_atUp.mp hb).2]
   unfold zho at hb'
   obtain⟨k,hk,hk'⟩:=List.mem_flatMap.mp hb'
   rw[(mem_atUp.mp hk').2]
   exact Nat.le_of_lt (List.mem_range.mp (List.mem_reverse.mp hk))
structure TreeB(m:Nat)(L:List Bg):Prop where
 ok:∀b∈L,Tie.BoughOk m b.u b.lo b.hi b.ks
 kids:(zbm L).Perm (List.range' 1 (m-1))
 m1:1≤m
theorem zua{m:Nat}:∀{L:List Bg},(∀b∈L,Tie.BoughOk m b.u b.lo b.hi b.ks)→(L.Pairwise fun b b'=>b'.u≤b.u)→(∀b∈L,b.u=0∨b.u∈zbm L)→Fit 0 L
 |[],_,_,_=>trivial
 |b::R,ok,pw,ups=>by
  obtain⟨p1,p2⟩:=List.pairwise_cons.mp pw
  have okb:=ok b List.mem_cons_self
  have eV:zbm (b::R)=b.ks++zbm R:=List.flatMap_cons
  have upR:∀b'∈b::R,b'.u=0∨b'.u∈zbm R:=fun b' hb'=>by
   rcases ups b' hb' with z|z
   ·exact .inl z
   ·rw[eV] at z
    rcases List.mem_append.mp z with z|z
    ·have h1:=(okb.up _ z).1
     rcases List.mem_cons.mp hb' with e|e
     ·subst e;omega
     ·have:=p1 b' e;omega
    ·exact .inr z
  refine⟨?_,fun k hk=>⟨?_,fun b' hb'=>?_⟩,zua (fun b' hb'=>ok b' (List.mem_cons_of_mem _ hb')) p2 fun b' hb'=>upR b' (List.mem_cons_of_mem _ hb')⟩
  ·rcases upR b List.mem_cons_self with z|z
   ·rw[z];exact List.mem_cons_self
   ·exact List.mem_cons_of_mem _ z
  ·have:=(okb.up k hk).1;omega
  ·have h1:=(okb.up k hk).1
   have h2:=p1 b' hb'
   omega
theorem zsb{A B:List Bg}(p:A.Perm B):(zbm A).Perm (zbm B):=List.Perm.flatMap_right _ p
theorem TreeB.lt{m:Nat}{L:List Bg}(T:TreeB m L):∀b∈L,b.u<m:=fun b hb=>(T.ok b hb).um
theorem TreeB.perm0{m:Nat}{L:List Bg}(T:TreeB m L):(0::zbm (zho m L)).Perm (List.range m):=by
 have h1:=(zsb (znr T.lt)).trans T.kids
 have m1:=T.m1
 have e:List.range m=0::List.range' 1 (m-1):=by
  rw[List.range_eq_range']
  obtain⟨n,rfl⟩:∃n,m=n+1:=⟨m-1,by omega⟩
  rfl
 rw[e]
 exact List.Perm.cons _ h1
theorem TreeB.nd{m:Nat}{L:List Bg}(T:TreeB m L):(0::zbm (zho m L)).Nodup:=(T.perm0.nodup_iff).mpr List.nodup_range
theorem TreeB.fit{m:Nat}{L:List Bg}(T:TreeB m L):Fit 0 (zho m L):=by
 refine zua (m:=m) (fun b hb=>T.ok b ((zgj T.lt).mp hb)) zot fun b hb=>?_
 have h1:=T.lt b ((zgj T.lt).mp hb)
 have h2:b.u∈0::zbm (zho m L):=T.perm0.mem_iff.mpr (List.mem_range.mpr h1)
 rcases List.mem_cons.mp h2 with z|z
 ·exact .inl z
 ·exact .inr z
def zx8:Nat→Nat:=fun _=>1
def ztx(m:Nat)(L:List Bg):Nat→Nat:=(zho m L).foldl zgc zx8
theorem zsv(f:Nat→Nat)(n:Nat):((List.range (n+n)).map f).sum=((List.range n).map fun s=>f s+f (n+s)).sum:=by
 rw[List.range_add,List.map_append,List.sum_append,List.map_map]
 have h:∀(l:List Nat)(f g:Nat→Nat),(l.map f).sum+(l.map g).sum=(l.map fun s=>f s+g s).sum:=fun l f g=>by
  induction l with
  |nil=>rfl
  |cons x l ih=>simp only[List.map_cons,List.sum_cons];rw[←ih];omega
 exact h _ _ _
theorem zl7(f:Nat→Nat):∀(m:Nat)(g:Nat→Nat),(∀s,s<2^m→f s=g s)→sub (List.range m) 0 f=((List.range (2^m)).map g).sum
 |0,g,h=>by
  show f 0=g 0+0
  rw[h 0 (by decide)];rfl
 |m+1,g,h=>by
  rw[List.range_succ,zjf,Nat.pow_succ,Nat.mul_two,zsv]
  refine zl7 _ m _ fun s hs=>?_
  show f s+f (s|||2^m)=g s+g (2^m+s)
  have e:s|||2^m=2^m+s:=by
   rw[Nat.or_comm]
   have:=Nat.two_pow_add_eq_or_of_lt hs 1
   simpa using this.symm
  have p:2^(m+1)=2^m+2^m:=by rw[Nat.pow_succ,Nat.mul_two]
  rw[e,h s (by omega),h (2^m+s) (by omega)]
theorem zj7(p:Nat→Bool):∀(l:List Nat),(l.filter p).length=(l.map fun s=>bit (p s)).sum
 |[]=>rfl
 |x::l=>by
  rw[List.map_cons,List.sum_cons,←zj7 p l]
  cases h:p x
  ·rw[List.filter_cons_of_neg (by rw[h];exact Bool.false_ne_true)];show _=0+_;omega
  ·rw[List.filter_cons_of_pos h,List.length_cons];show _=1+_;omega
theorem zqn{m:Nat}{L:List Bg}(T:TreeB m L):(zhm m (L.map Bg.tie)).length=ztx m L 0:=by
 unfold ztx
 rw[←zph T.nd T.fit]
 unfold ztw
 rw[zo5 T.perm0,zl7 _ m (fun s=>bit (zbh (L.map Bg.tie) s)) fun s hs=>?_]
 ·unfold zhm
  rw[zj7]
 ·rw[zrj (w:=zx8) (fun _=>rfl),Nat.mul_one]
  congr 1
  unfold zbh allB
  congr 1
  rw[Bool.eq_iff_iff,List.all_eq_true,List.all_eq_true]
  constructor
  ·intro h t ht
   obtain⟨b,hb,rfl⟩:=List.mem_map.mp ht
   exact h b ((zgj T.lt).mpr hb)
  ·intro h b hb
   exact h b.tie (List.mem_map.mpr ⟨b,(zgj T.lt).mp hb,rfl⟩)
end Wd
namespace L2
open PySem PySem.Spec PyProof.Rows
theorem zrx{σ:List Int}{k:Int}(h:k∉σ):σ.any (·==k)=false:=by
 rw[Bool.eq_false_iff]
 intro z
 obtain⟨x,hx,e⟩:=List.any_eq_true.mp z
 exact h (by rw[←(show x=k by simpa using e)];exact hx)
theorem zn6:∀(ns σ:List Int),(σ++ns).Nodup→ns.foldl step_dedup σ=σ++ns
 |[],σ,_=>(List.append_nil σ).symm
 |k::ns,σ,h=>by
  have hk:k∉σ:=fun z=>(List.nodup_append.mp h).2.2 k z k List.mem_cons_self rfl
  have e:step_dedup σ k=σ++[k]:=by
   unfold step_dedup
   rw[zrx hk]
   rfl
  show ns.foldl step_dedup (step_dedup σ k)=_
  rw[e,zn6 ns (σ++[k]) (by rw[List.append_assoc];exact h),List.append_assoc]
  rfl
theorem zru(ns:List Int)(nd:ns.Nodup):firstMet (fun i=>ns.getD i 0) ns.length=ns:=by
 unfold firstMet
 have e:(List.range ns.length).map (fun i=>ns.getD i 0)=ns:=by
  apply List.ext_getElem
  ·rw[List.length_map,List.length_range]
  ·intro i h1 h2
   rw[List.getElem_map,List.getElem_range,List.getD_eq_getElem?_getD,List.getElem?_eq_getElem h2]
   rfl
 rw[e,zn6 ns [] nd]
 rfl
section
variable {X : Cx}
theorem zst(hc:X.calm=true):zef X (.type "set") (fun xs H Q=>∃(p:Addr)(ns:List Int),xs=[.ref p]∧SqL X.K H p (ns.map V.int)∧ns.Nodup∧ns.length≤4000∧∀l,H l=none→Q (.ref l) (upd H l (.set (fun k=>ns.any (·==k)) ns.length))):=by
 intro pins s σ H xs us Q I r h
 obtain⟨p,ns,rfl,hq,nd,ae,q⟩:=h
 obtain⟨u,rfl,rx⟩:=ze7 r
 cases rx
 obtain⟨ad,r',pl,hz⟩:=I.list hq
 have aa:=r'.length
 rw[List.length_map] at aa
 have sz:ad.toArray.size=ns.length:=by rw[List.size_toArray];exact aa.symm
 refine PySem.call_set_list (I.ok.hd hc) pl.isList (zct r') (by rw[sz];show ns.length+1<4096;omega) fun h' tk hS kp=>?_
 rw[sz,zru ns nd] at hS
 refine⟨.ref s.heap.objs.size,_,I.laid (t':=tk) (fun b o e=>kp b o (Heap.lt_size e) e) (Nat.le_refl _) (show ObjOk X.prog X.w _ h' _ (.set _ _) from hS),rfl,q _ (I.hok.fresh (Nat.le_refl _))⟩
theorem zn2:zef X (.builtin "len") (fun xs H Q=>∃p S n,xs=[.ref p]∧H p=some (.set S n)∧Q (.int n) H):=by
 intro pins s σ H xs us Q I r h
 obtain⟨p,S,n,rfl,hq,q⟩:=h
 obtain⟨u,rfl,rx⟩:=ze7 r
 cases rx
 obtain⟨o,es,ep,t,ho,ad,hd,_,_,hb,hf,rfl⟩:=(show s.heap.SetOf (intKind X.prog X.w) p S n from I.hok p _ hq)
 have ae:es.size<4096:=hb
 have aa:(2:Int)^63=9223372036854775808:=by decide
 exact PySem.call_len_set ho ad hd hf (by rw[aa];omega) ⟨.int es.size,H,I.tok _,⟨s.toks+1,rfl⟩,q⟩
end
end L2
namespace Wd
open PySem L2 Ow
structure WoodB(H:Hp)(wd:Addr)(m:Nat)(L:List Bg):Prop where
 ex:∃xs,WoodAt H wd m xs []∧DnL H (L.map fun b=>b.tie.toD) xs
 T:TreeB m L
 few:L.length≤9
 m9:m≤9
theorem zu8{m:Nat}:∀{bs:List PyData},(∀b∈bs,ze9 m b=true)→∃L:List Bg,bs=L.map (fun b=>b.tie.toD)∧∀b∈L,Tie.BoughOk m b.u b.lo b.hi b.ks
 |[],_=>⟨[],rfl,fun _ h=>nomatch h⟩
 |b::bs,h=>by
  obtain⟨u,lo,hi,ks,e,ok⟩:=zhu (h b List.mem_cons_self)
  obtain⟨L,e2,ok2⟩:=zu8 fun x hx=>h x (List.mem_cons_of_mem _ hx)
  refine⟨⟨u,lo,hi,ks⟩::L,?_,fun x hx=>?_⟩
  ·rw[e,e2];rfl
  ·rcases List.mem_cons.mp hx with rfl|hx
   ·exact ok
   ·exact ok2 x hx
theorem zvi(b:Bg):zkv b.tie.toD=b.ks.map fun k:Nat=>(k:Int):=by
 show List.map toI (b.ks.map fun k:Nat=>PyData.int (k:Int))=_
 rw[List.map_map]
 rfl
theorem zro:∀{A B:List Nat},(A.map fun k:Nat=>(k:Int)).Perm (B.map fun k:Nat=>(k:Int))→A.Perm B:=fun {A B} h=>by
 have:=h.map Int.toNat
 rw[List.map_map,List.map_map] at this
 have e:∀l:List Nat,l.map (Int.toNat∘fun k:Nat=>(k:Int))=l:=fun l=>by
  induction l with
  |nil=>rfl
  |cons x l ih=>rw[List.map_cons,ih];rfl
 rwa [e,e] at this
theorem zt7{H:Hp}{wd:Addr}{m:Nat}{bs cs:List PyData}(h:WoodX H wd m bs cs)(hc:cs=[]):∃L:List Bg,bs=L.map (fun b=>b.tie.toD)∧∀H',zcp H H'→WoodB H' wd m L:=by
 subst hc
 obtain⟨L,e,ok⟩:=zu8 h.gb.each
 have m1:=h.m1
 have b8:=h.b8
 refine⟨L,e,fun H' t=>?_⟩
 obtain⟨xs,ys,WA,db,dc⟩:=(h.tupS t).ex
 cases(show ys=[] from dc)
 refine⟨⟨xs,WA,by rw[←e];exact db⟩,⟨ok,zro ?_,m1⟩,by rw[e,List.length_map] at b8;exact b8,h.m9⟩
 have k:=h.gb.kids
 have e1:bs.flatMap zkv=(zbm L).map fun k:Nat=>(k:Int):=by
  rw[e]
  unfold zbm
  rw[List.map_flatMap,List.flatMap_map]
  congr 1
  funext b
  exact zvi b
 have e2:((List.range' 0 ((m:Int)-1).toNat).map fun i:Nat=>(1:Int)+i)=(List.range' 1 (m-1)).map fun k:Nat=>(k:Int):=by
  rw[show((m:Int)-1).toNat=m-1 by omega]
  apply List.ext_getElem
  ·rw[List.length_map,List.length_map,List.length_range',List.length_range']
  ·intro i h1 h2
   rw[List.getElem_map,List.getElem_map,List.getElem_range',List.getElem_range']
   omega
 rw[e1,e2] at k
 exact k
theorem zq9{m k:Nat}{f:Nat→Nat}(h:k<m):atI (zam ((List.range m).map f)) (k:Int)=some (.int (f k:Int)):=zc5 (by rw[List.getElem?_map,List.getElem?_map,List.getElem?_range h];rfl)
theorem zif(A B:List Nat):zam (A++B)=zam A++zam B:=List.map_append
theorem zuy{m k:Nat}{f g:Nat→Nat}(e:∀j,g j=if j=k then g k else f j)(h:k<m):(zam ((List.range m).map f)).set k (.int (g k:Int))=zam ((List.range m).map g):=by
 apply List.ext_getElem
 ·simp
 ·intro i h1 h2
  rw[List.getElem_set]
  simp only[List.getElem_map,List.getElem_range]
  by_cases z:k=i
  ·subst z
   rw[if_pos rfl]
  ·rw[if_neg z,e i,if_neg (Ne.symm z)]
theorem WoodB.woodT{H:Hp}{wd:Addr}{m:Nat}{L:List Bg}(h:WoodB H wd m L):WoodT H wd m (L.map Bg.tie):=by
 obtain⟨xs,h1,h2⟩:=h.ex
 have f:=h.few
 have m9:=h.m9
 refine⟨⟨xs,[],h1,by rw[List.append_nil,List.map_map];exact h2⟩,fun t ht=>?_,by rw[List.length_map];omega,by omega⟩
 obtain⟨b,hb,rfl⟩:=List.mem_map.mp ht
 exact(h.T.ok b hb).toBoughOkW
theorem zvq{s:Nat}(h:s.testBit 0=true):¬V.int (Builtin.bitAnd (s:Int) 1)=V.int 0:=fun z=>by
 have e:=zjh s 0
 rw[if_pos h] at e
 have e2:(s:Int)/2^((0:Nat):Int).toNat=(s:Int):=by simp
 rw[e2] at e
 rw[e] at z
 injection z with z
 cases z
end Wd
namespace L2
open PySem PySem.Spec PyProof.Rows
section
variable {prog : Program} {w : World} {A : Around} {E : Value → Shared → Prop} {s : Shared}
theorem zl1{it l:Addr}{items:Array Value}(hne:l≠it):∀(n i:Nat)(s:Shared)(Q:List Value→Shared→Prop),s.heap.IsListIter it l i→s.heap.IsList l items→i+n≤items.size →
  (∀h':Heap,h'.IsListIter it l (i+n)→Heap.SameBut it s.heap h'→Q ((items.toList.drop i).take n) { s with heap:=h' })→wpAny (model prog w) A (draw (.ref it) n) Q E s
 |0,i,s,Q,hit,_,_,hQ=>by
  show wpAny _ _ (pure []) Q E s
  exact wpAny_pure (by simpa using hQ s.heap hit (Heap.SameBut.refl ..))
 |n+1,i,s,Q,hit,ht,hle,hQ=>by
  have hlt:i<items.size:=by omega
  show wpAny _ _ (pyNext (.ref it)>>=_) Q E s
  refine wpAny_bind (wpAny_pyNext_list_item hit ht (x:=items[i]) (by simp[hlt]) fun h1 aa ae=>?_)
  refine wpAny_bind (wpAny_holding (zl1 hne n (i+1) _ _ aa (ht.extBut ae.extBut hne) (by omega) fun h2 ad af=>wpAny_pure ?_))
  have hd:items.toList.drop i=items[i]::items.toList.drop (i+1):=by simp[List.drop_eq_getElem_cons,hlt]
  have:=hQ h2 (by rw[show i+(n+1)=i+1+n by omega];exact ad) (ae.trans af)
  rw[hd,List.take_succ_cons] at this
  exact this
theorem zo0{l:Addr}{items:Array Value}{targets:List (Bool×(Value→Sem Unit))}{Q:Unit→Shared→Prop}(hh:A.handled=none)(ht:s.heap.IsList l items)
  (hn:targets.length=items.size) (hstar:targets.findIdx? (·.1)=none)
  (h:∀h',Heap.ExtBut s.heap.objs.size s.heap h'→wpAny (model prog w) A (assignInOrder (targets.map (·.2)) items.toList) Q E { s with heap:=h' }):
  wpAny (model prog w) A (unpack (.ref l) targets) Q E s:=by
 unfold unpack
 rw[hn,hstar]
 refine wpAny_bind (wpAny_holding ?_)
 have ae:l≠s.heap.objs.size:=by obtain⟨o,ho,_⟩:=ht;exact Nat.ne_of_lt (Heap.lt_size ho)
 have hT:s.TypeIs (.ref l) "list" := by obtain⟨o,ho,hc,_⟩:=ht;exact⟨o,ho,hc⟩
 unfold unpackItems
 refine wpAny_bind ?_
 unfold notIterableAtAll
 refine wpAny_bind (wpAny_specialOf hT F.slot_list_iter.lookup ?_)
 refine wpAny_pure ?_
 simp only[Bool.false_eq_true,if_false]
 refine wpAny_bind (wpAny_holding (wpAny_pyIter_list ht ?_))
 refine wpAny_bind (wpAny_holding (zl1 ae items.size 0 _ _ ⟨_,Heap.get?_push_size _ rfl,rfl,rfl⟩ (ht.push _) (by omega) fun h1 aa af=>?_))
 have ad:List.take items.size (List.drop 0 items.toList)=items.toList:=by
  rw[List.drop_zero];exact List.take_of_length_le (by simp)
 rw[ad]
 rw[if_neg (by simp)]
 have ah:h1.IsList l items:=(ht.push _).extBut af.extBut ae
 refine wpAny_bind (wpAny_holding (wpAny_pyNext_list_end hh aa ah (by simp) fun h2 ag=>?_))
 simp only[Option.isSome_none,Bool.false_eq_true,if_false]
 exact wpAny_pure (h h2 fun b o hb e=>ag b o hb (af.extBut b o hb (Heap.get?_push_of_some _ e)))
end
section
variable {X : Cx} {pos : Pos}
def zy7(K:PySem.W.Frag)(n:Nat)(t:TGs):TG:=fun v σ H Q=>∃a xs,v=.ref a∧SqL K H a xs∧xs.length=n∧t xs σ H Q
theorem zxg{K:PySem.W.Frag}{es:List Expr}{k:Nat}{t:TGs}{n:Nat}(hc:X.calm=true)(h:PGs X es t)
  (hn:(assignEach es X.env).length=n:=by rfl) (hst:(assignEach es X.env).findIdx? (·.1)=none:=by rfl) (hK:X.K=K:=by rfl):PG X (.Tuple es k pos) (zy7 K n t):=by
 subst hK
 intro pins s σ H v u Q I r hw
 obtain⟨a,xs,e1,hq,hl,hw⟩:=hw
 subst e1
 cases r
 obtain⟨aa,rv,ht,hz⟩:=I.list hq
 rw[assign_Tuple]
 refine wpAny_bind (wpAny_standAt (zo0 (I.ok.hd hc) ht.isList (by simp[hn,←hl,rv.length]) hst fun h' hx=>?_))
 have I1:Inv X pins σ H { s with heap:=h' }:=I.kept (t':=s.toks) fun b o e=>hx b o (Nat.ne_of_lt (Heap.lt_size e)) e
 exact h pins _ σ H xs _ Q I1 (by simpa using rv) hw
end
section
variable {X : Cx}
def zwf:V→List V→Hp→VK→Prop:=fun x vs H Q=>∃(l:Addr)(xs:List V)(i:Int)(y:V),x=.ref l∧vs=[.int i,y]∧H l=some (.lst xs)∧0≤i∧i≤xs.length∧xs.length<sizeLine∧Q .non (upd H l (.lst (xs.take i.toNat++y::xs.drop i.toNat)))
theorem zsk:MtM X "list.insert" zwf:=by
 intro pins s σ H x vs v us Q I rx rv h
 obtain⟨l,xs,i,y,rfl,rfl,hH,h0,hk,hz,q⟩:=h
 cases rx
 obtain⟨u1,ad,rfl,r1,rr⟩:∃u1 ad,us=u1::ad∧RelV (.int i) u1∧Vals [y] ad:=by
  cases rv with
  |cons a b=>exact⟨_,_,rfl,a,b⟩
 obtain⟨u2,rfl,ru⟩:=rr.one
 obtain⟨t,rfl⟩:=r1
 obtain⟨z,aa,n,r,hl,e⟩:=I.lstM hH
 have hsz:aa.toArray.size≤sizeLine:=by rw[List.size_toArray,←hl];exact z
 have b1 : -(2^63)≤i:=Int.le_trans (by decide) h0
 have b2:i<2^63:=by
  have ae:((xs.length:Nat):Int)<((2^63:Nat):Int):=Int.ofNat_lt.mpr (Nat.lt_of_le_of_lt z zky)
  exact Int.lt_of_le_of_lt hk ae
 have fit:¬(!Builtin.List.listFitsIndex i)=true:=by
  rw[fitsIndex_both b1 b2]
  exact Bool.false_ne_true
 refine call_meets F.slot_list_insert ⟨_,e,rfl⟩ F.entry_list_insert (F.args_list_insert_3 _ _ _) (AutoListH.list_insert_list_int_val_1 l aa.toArray n i t u2 fit hsz) ⟨e,?_⟩
 have r2:Vals (xs.take i.toNat++y::xs.drop i.toNat) (aa.take i.toNat++u2::aa.drop i.toNat):=(r.take i.toNat).append (.cons ru (r.drop i.toNat))
 refine⟨.non,_,I.lset (its':=aa.take i.toNat++u2::aa.drop i.toNat) hH e ?_ r2 ?_,rfl,q⟩
 ·have hn:¬(i<0):=Int.not_lt.mpr h0
  have hm:i.toNat≤aa.length:=by omega
  simp[hn,Nat.min_eq_left hm]
  exact List.take_of_length_le (by rw[List.length_drop];exact Nat.le_refl _)
 ·rw[List.length_append,List.length_cons,List.length_take,List.length_drop]
  omega
end
end L2
namespace Wd
open PySem L2 Ow
def zwb(l:List Stmt):List (Nat×Bool)→List Stmt
 |[]=>l
 |(i,e)::p=>match l[i]? with
  |some (Stmt.For _ _ b _ _)=>zwb b p
  |some (Stmt.If _ b o _)=>zwb (if e then o else b) p
  |_=>[]
def zsr(K:PySem.W.Frag):Sp:=fun vs H Q _=>∃(pen sp:Addr)(ns:List Int)(m:Nat)(k:Int),vs=[.ref pen,.int (m:Int)]∧Pen K H pen sp ns k∧0≤k∧k≤900000∧1≤m∧m≤9 ∧
 ∀(l:Addr)(bs:List PyData)(xs:List V)(k':Int)(H':Hp),SameX pen H H'→H' pen=some (.lst [.ref sp,.int k'])→k≤k'→k'≤k+80→H' l=some (.lst xs)→H l=none→DnL H' bs xs→zwn m bs→bs.length≤8→bs.all (zbs 3)=true→Q (.ref l) H'
def zp7(K:PySem.W.Frag):Sp:=fun vs H Q _=>∃(pen sp:Addr)(ns:List Int)(m:Nat)(most:Int)(k:Int),vs=[.ref pen,.int (m:Int),.int most]∧Pen K H pen sp ns k∧0≤k∧k≤900000∧1≤m∧m≤9∧0≤most∧most≤8 ∧
 ∀(l:Addr)(cs:List PyData)(xs:List V)(k':Int)(H':Hp),SameX pen H H'→H' pen=some (.lst [.ref sp,.int k'])→k≤k'→k'≤k+210→H' l=some (.lst xs)→H l=none→DnL H' cs xs→(∀c∈cs,zi3 m c=true)→(cs.length:Int)≤most→cs.all (zbs 3)=true→Q (.ref l) H'
theorem _root_.Ow.GAt.ins{H0 H:Hp}{g l t:Addr}{pre post:List Grp}{u k:Int}(G:GAt H0 H g (pre++post))(hf:H0 l=none)(hl:H l=none)(ht:upd H l (.lst [.int k]) t=none):
  GAt H0 (upd (upd (upd H l (.lst [.int k])) t (.tup [.int u,.ref l])) g (.lst ((pre.map fun x=>V.ref x.t)++V.ref t::(post.map fun x=>V.ref x.t)))) g (pre++⟨t,u,l,[k]⟩::post):=by
 have A:=GAt.add2 (u:=u) (k:=k) G hf hl ht
 have aa:∀x,x∈pre++⟨t,u,l,[k]⟩::post↔x∈(pre++post)++[⟨t,u,l,[k]⟩]:=fun x=>by
  simp only[List.mem_append,List.mem_cons,List.not_mem_nil,or_false]
  constructor
  ·rintro(h|h|h)
   ·exact .inl (.inl h)
   ·exact .inr h
   ·exact .inl (.inr h)
  ·rintro((h|h)|h)
   ·exact .inl h
   ·exact .inr (.inr h)
   ·exact .inr (.inl h)
 have other:∀(o o':HO)(b:Addr),b≠g→(upd (upd (upd H l (.lst [.int k])) t (.tup [.int u,.ref l])) g o) b=(upd (upd (upd H l (.lst [.int k])) t (.tup [.int u,.ref l])) g o') b:=fun o o' b n=>by rw[zal n,zal n]
 refine⟨?_,A.new,fun x hx=>?_,fun x hx=>?_,?_⟩
 ·rw[zab,List.map_append]
  rfl
 ·have h:=A.tup x ((aa x).mp hx)
  have n:x.t≠g:=fun z=>by rw[z,zab] at h;cases h
  rw[other _ _ _ n]
  exact h
 ·have h:=A.lst x ((aa x).mp hx)
  refine⟨?_,h.2⟩
  rw[other _ _ _ (Ne.symm h.2.2)]
  exact h.1
 ·have p:(pre++(⟨t,u,l,[k]⟩:Grp)::post).Perm ((pre++post)++[⟨t,u,l,[k]⟩]):=by
   rw[List.append_assoc]
   exact List.Perm.append_left _ (List.perm_append_singleton _ _).symm
  exact((p.map (·.l)).nodup_iff).mpr A.nd
theorem _root_.Ow.GOk.ins{k:Nat}{pre post:List Grp}{t l:Addr}{u:Int}(G:GOk ((k:Int)+1) (pre++post))(u0:0≤u)(u1:u<(k:Int)+1):GOk ((k:Int)+2) (pre++⟨t,u,l,[(k:Int)+1]⟩::post):=by
 have A:=GOk.new (t:=t) (l:=l) G u0 u1
 have p:(pre++(⟨t,u,l,[(k:Int)+1]⟩:Grp)::post).Perm ((pre++post)++[⟨t,u,l,[(k:Int)+1]⟩]):=by
  rw[List.append_assoc]
  exact List.Perm.append_left _ (List.perm_append_singleton _ _).symm
 exact⟨fun x hx=>A.each x (p.mem_iff.mp hx),(List.Perm.flatMap_right _ p).trans A.perm⟩
def zqq(x:Grp):PyData:=.tuple [.int x.up,.list (x.kids.map PyData.int)]
theorem zoo:∀ks:List Int,PyData.canLayAll0 (ks.map PyData.int)=true∧PyData.depthAll (ks.map PyData.int)≤1
 |[]=>⟨by simp[PyData.canLayAll0],by simp[PyData.depthAll]⟩
 |k::ks=>by
  have h:=zoo ks
  refine⟨by simp[PyData.canLayAll0,PyData.canLay0,h.1],?_⟩
  simp only[List.map_cons,PyData.depthAll,PyData.depth]
  omega
theorem zoc:∀gs:List Grp,PyData.canLayAll0 (gs.map zqq)=true∧PyData.depthAll (gs.map zqq)≤5
 |[]=>⟨by simp[PyData.canLayAll0],by simp[PyData.depthAll]⟩
 |x::gs=>by
  have h:=zoc gs
  have hx:=zoo x.kids
  refine⟨by simp[zqq,PyData.canLayAll0,PyData.canLay0,h.1,hx.1],?_⟩
  simp only[List.map_cons,zqq,PyData.depthAll,PyData.depth]
  omega
theorem zo1(gs:List Grp):SeqAt.shaped (.list (gs.map zqq))=true:=by
 have h:=zoc gs
 unfold SeqAt.shaped
 rw[Bool.and_eq_true]
 refine⟨by simp[PyData.canLay0,h.1],decide_eq_true ?_⟩
 simp only[PyData.depth]
 omega
theorem zdf:SeqAt.shaped (.list [])=true:=by decide
theorem zvd:∀ds:List PyData,PyData.eqv (.list ds) (.list [])=decide (ds=[])
 |[]=>by simp[PyData.eqv,PyData.eqvAll]
 |d::ds=>by simp[PyData.eqv,PyData.eqvAll]
theorem zrh{H:Hp}:∀ks:List Int,DnL H (ks.map PyData.int) (ks.map V.int)
 |[]=>rfl
 |k::ks=>⟨_,_,rfl,rfl,zrh ks⟩
theorem zrk{H0 H:Hp}{g:Addr}{gs:List Grp}(G:GAt H0 H g gs):∀l:List Grp,(∀x∈l,x∈gs)→DnL H (l.map zqq) (l.map fun x=>V.ref x.t)
 |[],_=>rfl
 |x::l,h=>by
  have hx:=h x List.mem_cons_self
  exact⟨_,_,rfl,⟨x.t,_,rfl,G.tup x hx,_,_,rfl,rfl,_,_,rfl,⟨x.l,_,rfl,(G.lst x hx).1,zrh x.kids⟩,rfl⟩,zrk G l fun y hy=>h y (List.mem_cons_of_mem _ hy)⟩
end Wd
namespace L2
open PySem PySem.Spec PyProof.Rows
section
variable {X : Cx} {e st : Expr} {te tst : TE} {pos p2 : Pos}
theorem zhg(hu:X.A.units+64<cLine):OpR X (compareOp .Eq) (fun x y H Q=>∃d e:PyData,Dn H d x∧Dn H e y∧SeqAt.shaped d=true∧SeqAt.shaped e=true∧Q (.bl (PyData.eqv d e)) H):=by
 intro pins s σ H x y v u Q I rx ry h
 obtain⟨d,e,hd,he,sd,se,q⟩:=h
 obtain⟨as,ra⟩:=Dn.reads I d x v hd (SeqAt.canLay_of_shaped sd) rx
 obtain⟨bs,rb⟩:=Dn.reads I e y u he (SeqAt.canLay_of_shaped se) ry
 exact SeqAt.compareEq_shaped ra rb sd se hu ⟨.bl _,H,I,rfl,q⟩
end
end L2
namespace Wd
open PySem L2 Ow
mutual
theorem zuj:∀(n:Nat)(d:PyData),zbs n d=true→PyData.canLay0 d=true∧PyData.depth d≤n+1
 |_,.int i,_=>⟨by simp[PyData.canLay0],by simp only[PyData.depth];omega⟩
 |n,.str s,h=>⟨by cases n<;>simpa [PyData.canLay0] using (show PyData.strOk s=true from h),by simp only[PyData.depth];omega⟩
 |n+1,.tuple ds,h=>by
  have z:(decide (ds.length≤1000)&&ds.all (zbs n))=true:=h
  rw[Bool.and_eq_true] at z
  obtain⟨a,b⟩:=ziy n ds z.2
  exact⟨by simpa [PyData.canLay0] using a,by simp only[PyData.depth];omega⟩
 |0,.tuple _,h=>by cases h
 |0,.none,h=>by cases h
 |n+1,.none,h=>by cases h
 |0,.bool _,h=>by cases h
 |n+1,.bool _,h=>by cases h
 |0,.list _,h=>by cases h
 |n+1,.list _,h=>by cases h
 |0,.dict _,h=>by cases h
 |n+1,.dict _,h=>by cases h
theorem ziy:∀(n:Nat)(ds:List PyData),ds.all (zbs n)=true→PyData.canLayAll0 ds=true∧PyData.depthAll ds≤n+1
 |_,[],_=>⟨by simp[PyData.canLayAll0],by simp only[PyData.depthAll];omega⟩
 |n,d::ds,h=>by
  rw[List.all_cons,Bool.and_eq_true] at h
  obtain⟨a1,b1⟩:=zuj n d h.1
  obtain⟨a2,b2⟩:=ziy n ds h.2
  exact⟨by simp[PyData.canLayAll0,a1,a2],by simp only[PyData.depthAll];omega⟩
end
theorem zwg(a b:Bool):decide ((if a=true then (1:Int) else 0)≤(if b=true then (1:Int) else 0))=(!a||b):=by
 cases a<;>cases b<;>rfl
theorem two_bits(n x y:Nat):decide (V.int (Builtin.bitAnd (Builtin.bitAnd ((n:Int)/2^((x:Nat):Int).toNat) ((n:Int)/2^((y:Nat):Int).toNat)) 1)=V.int 0)=(!n.testBit x||!n.testBit y):=by
 have e:∀k:Nat,(n:Int)/2^((k:Nat):Int).toNat=((n>>>k:Nat):Int):=fun k=>by
  rw[Int.toNat_natCast,Nat.shiftRight_eq_div_pow,Int.natCast_ediv,Int.natCast_pow]
  rfl
 rw[e,e,zew,show(1:Int)=((1:Nat):Int) from rfl,zew,Nat.and_one_is_mod]
 have b:((n>>>x&&&n>>>y)%2=1)↔(n.testBit x=true∧n.testBit y=true):=by
  have h:=Nat.testBit_zero (n>>>x&&&n>>>y)
  rw[Nat.testBit_and,Nat.testBit_shiftRight,Nat.testBit_shiftRight,Nat.add_zero,Nat.add_zero] at h
  constructor
  ·intro z
   rw[decide_eq_true z,Bool.and_eq_true] at h
   exact h
  ·intro z
   rw[z.1,z.2] at h
   exact of_decide_eq_true h.symm
 rcases Nat.mod_two_eq_zero_or_one (n>>>x&&&n>>>y) with z|z
 ·rw[z,decide_eq_true (by rfl)]
  symm
  rw[←Bool.not_and,Bool.not_eq_true']
  rw[Bool.eq_false_iff]
  intro w
  rw[Bool.and_eq_true] at w
  have:=b.mpr w
  omega
 ·rw[z,(b.mp z).1,(b.mp z).2]
  rfl
def brk(ts:List Tie)(s:Nat):Nat→Nat
 |0=>0
 |i+1=>brk ts s i|||(if (ts[i]?.map fun t=>t.keep s).getD true=true then 0 else 2^i)
theorem zjj(ts:List Tie)(s:Nat):∀(i k:Nat),(brk ts s i).testBit k=(decide (k<i)&&!((ts[k]?.map fun t=>t.keep s).getD true))
 |0,k=>by
  show(0:Nat).testBit k=_
  rw[Nat.zero_testBit]
  rfl
 |i+1,k=>by
  show(brk ts s i|||_).testBit k=_
  rw[Nat.testBit_or,zjj ts s i k]
  by_cases e:k=i
  ·subst e
   rw[decide_eq_false (Nat.lt_irrefl _),Bool.false_and,Bool.false_or,decide_eq_true (Nat.lt_succ_self _),Bool.true_and]
   cases(ts[k]?.map fun t=>t.keep s).getD true
   ·rw[if_neg (by decide),Nat.testBit_two_pow_self];rfl
   ·rw[if_pos rfl,Nat.zero_testBit];rfl
  ·have e2:(if (ts[i]?.map fun t=>t.keep s).getD true=true then 0 else 2^i:Nat).testBit k=false:=by
    split
    ·exact Nat.zero_testBit _
    ·rw[Nat.testBit_two_pow];exact decide_eq_false (Ne.symm e)
   rw[e2,Bool.or_false]
   congr 1
   by_cases z:k<i
   ·rw[decide_eq_true z,decide_eq_true (by omega)]
   ·rw[decide_eq_false z,decide_eq_false (by omega)]
theorem zok(ts:List Tie)(s:Nat):brk ts s ts.length=0↔∀t∈ts,t.keep s=true:=by
 constructor
 ·intro h t ht
  obtain⟨k,hk,e⟩:=List.getElem_of_mem ht
  have b:=zjj ts s ts.length k
  rw[h,Nat.zero_testBit,decide_eq_true hk,Bool.true_and,List.getElem?_eq_getElem hk,e] at b
  simpa using b.symm
 ·intro h
  refine Nat.eq_of_testBit_eq fun k=>?_
  rw[Nat.zero_testBit,zjj]
  by_cases hk:k<ts.length
  ·rw[List.getElem?_eq_getElem hk]
   show(_&&!(ts[k].keep s))=false
   rw[h _ (List.getElem_mem hk)]
   exact Bool.and_false _
  ·rw[decide_eq_false hk]
   rfl
def zsj:Sp:=fun vs H Q _=>∃(wd:Addr)(m:Nat)(ts:List Tie),vs=[.ref wd]∧WoodT H wd m ts∧m≤9∧ts.length≤60∧∀(l:Addr)(H':Hp),Same H H'→H l=none→H' l=some (.lst (zam ((List.range (2^m)).map fun s=>brk ts s ts.length)))→Q (.ref l) H'
end Wd
namespace L2
open PySem PySem.Spec
theorem zxy{X:Cx}{K:PySem.W.Frag}(h:X.K=K:=by rfl):OpR X (compareOp .NotIn) (rIn K true):=h▸zd1
@[irreducible] def PEi(X:Cx)(e:Expr)(t:TE):Prop:=PE X e t
@[irreducible] def PSi(X:Cx)(e:Stmt)(t:TS):Prop:=PS X e t
@[irreducible] def PLi(X:Cx)(l:List Stmt)(t:TS):Prop:=PSs X l t
end L2
namespace Wd
open PySem L2 Ow
theorem zrp{l:List Nat}{i s:Nat}(h:l[i]?=some s)(g:Nat→Bool):zam ((l.take (i+1)).filter g)=zam ((l.take i).filter g)++(if g s=true then [.int (s:Int)] else []):=by
 rw[List.take_add_one,h,Option.toList_some,List.filter_append]
 unfold zam
 rw[List.map_append]
 cases e:g s
 ·rw[List.filter_cons_of_neg (by rw[e];decide)];rfl
 ·rw[List.filter_cons_of_pos e];rfl
theorem zvy{K:PySem.W.Frag}{a:Addr}{l:List Nat}{σ0 σr:St}{H:Hp}{tc:TT}{Q:VK}(gB:Nat→Bool)(h0:σ0=none::σr)(ha:H a=some (.lst (zam l)))(few:l.length≤1000)
  (ht:∀s∈l,∀R:Bool→Hp→Prop,R (gB s) H→tc (some (.int (s:Int))::σr) H R)
  (hd:∀p,H p=none→Q (.ref p) (upd H p (.lst (zam (l.filter gB))))):
  zm5 (Itl K a) (zmd 0) tc (zwe 0) σ0 H Q:=by
 refine zbx (K:=K) (a:=a) (xs:=zam l) (fun i ys σ H2=>(∃v,σ=v::σr)∧H2=H∧ys=zam ((l.take i).filter gB)) ⟨⟨none,h0⟩,rfl,rfl⟩ (fun i ys σ H2 hi pv=>?_) (fun i ys σ H2 hi pv=>?_) (fun i x ys σ H2 hx pv=>?_) (fun ys σ H2 pv p hp=>?_)
 ·obtain⟨_,_,rfl⟩:=pv
  rw[List.length_map]
  refine zaq (Nat.le_trans (List.length_filter_le _ _) ?_)
  rw[List.length_take]
  omega
 ·rw[pv.2.1];exact SqL.of ha
 ·obtain⟨⟨v,rfl⟩,rfl,rfl⟩:=pv
  rw[List.getElem?_map] at hx
  obtain⟨s,hs,rfl⟩:=Option.map_eq_some_iff.mp hx
  refine ht s (List.mem_of_getElem? hs) _ ?_
  have e:=zrp hs gB
  cases c:gB s
  ·refine zgb ?_
   rw[c,if_neg (by decide),List.append_nil] at e
   exact⟨⟨_,rfl⟩,rfl,e.symm⟩
  ·refine zkg ?_
   rw[c,if_pos rfl] at e
   exact⟨_,rfl,⟨_,rfl⟩,rfl,e.symm⟩
 ·obtain⟨_,rfl,rfl⟩:=pv
  have e:l.take (zam l).length=l:=by rw[show(zam l).length=l.length from List.length_map _,List.take_length]
  rw[e]
  exact hd p hp
theorem zak{H H1 H2:Hp}(a:zcp H H1)(b:zcp H1 H2):zcp H H2:=fun c xs h=>b c xs (a c xs h)
end Wd
namespace Ow
open PySem
def zfp:Stmt→List Stmt
 |.ClassDef _ _ _ b _ _ _ _ _ _ _=>b
 |_=>[]
end Ow
namespace Wd
open PySem L2 Ow
def PickL(H:Hp):List (Nat×Bool)→List V→Prop
 |[],xs=>xs=[]
 |p::ps,xs=>∃t r,xs=.ref t::r∧H t=some (.tup [.int (p.1:Int),.bl p.2])∧PickL H ps r
theorem PickL.same{H H':Hp}(s:zcp H H'):∀{ps:List (Nat×Bool)} {xs:List V},PickL H ps xs→PickL H' ps xs
 |[],_,h=>h
 |_::_,_,⟨t,r,e,h,q⟩=>⟨t,r,e,s _ _ h,PickL.same s q⟩
theorem PickL.length{H:Hp}:∀{ps:List (Nat×Bool)} {xs:List V},PickL H ps xs→ps.length=xs.length
 |[],_,h=>by rw[show _=[] from h];rfl
 |_::_,_,⟨t,r,e,_,q⟩=>by rw[e,List.length_cons,List.length_cons,PickL.length q]
theorem PickL.get{H:Hp}:∀{ps:List (Nat×Bool)} {xs:List V} {i:Nat} {x:V},PickL H ps xs→xs[i]?=some x→∃p t,ps[i]?=some p∧x=.ref t∧H t=some (.tup [.int (p.1:Int),.bl p.2])
 |[],_,i,_,h,e=>by rw[show _=[] from h] at e;cases e
 |p::ps,_,0,x,⟨t,r,e',h,q⟩,e=>by rw[e'] at e;cases e;exact⟨p,t,rfl,rfl,h⟩
 |p::ps,_,i+1,x,⟨t,r,e',h,q⟩,e=>by rw[e'] at e;obtain⟨p',t',h1,h2⟩:=PickL.get (i:=i) q (show r[i]?=some x from e);exact⟨p',t',h1,h2⟩
theorem PickL.snoc{H:Hp}{p:Nat×Bool}{t:Addr}(ht:H t=some (.tup [.int (p.1:Int),.bl p.2])):∀{ps:List (Nat×Bool)} {xs:List V},PickL H ps xs→PickL H (ps++[p]) (xs++[.ref t])
 |[],_,h=>by rw[show _=[] from h];exact⟨t,[],rfl,ht,rfl⟩
 |_::_,_,⟨t',r,e,h,q⟩=>⟨t',r++[.ref t],by rw[e];rfl,h,PickL.snoc ht q⟩
def zaj(ps:List (Nat×Bool)):Nat:=ps.foldl (fun y p=>if p.2=true then y|||2^p.1 else y) 1
def zao(ps:List (Nat×Bool)):Nat:=ps.foldl (fun n p=>if p.2=true then n else n|||2^p.1) 0
theorem zf2(ps:List (Nat×Bool))(p:Nat×Bool):zaj (ps++[p])=if p.2=true then zaj ps|||2^p.1 else zaj ps:=by
 unfold zaj
 rw[List.foldl_append]
 rfl
theorem zhy(ps:List (Nat×Bool))(p:Nat×Bool):zao (ps++[p])=if p.2=true then zao ps else zao ps|||2^p.1:=by
 unfold zao
 rw[List.foldl_append]
 rfl
structure PicksAt(H:Hp)(pl:Addr)(ps:List (Nat×Bool)):Prop where
 ex:∃xs,H pl=some (.lst xs)∧PickL H ps xs
 few:ps.length≤20
 le:∀p∈ps,p.1≤20
theorem PicksAt.same{H H':Hp}{pl:Addr}{ps:List (Nat×Bool)}(s:Same H H')(h:PicksAt H pl ps):PicksAt H' pl ps:=by
 obtain⟨xs,h1,h2⟩:=h.ex
 exact⟨⟨xs,s _ _ h1,h2.same (Same.tup s)⟩,h.few,h.le⟩
def zmb:Sp:=fun vs H Q _=>∃(pl:Addr)(ps:List (Nat×Bool)),vs=[.ref pl]∧PicksAt H pl ps∧∀(t:Addr)(H':Hp),Same H H'→H' t=some (.tup [.int (zaj ps:Int),.int (zao ps:Int)])→Q (.ref t) H'
def ztz:Sp:=fun vs H Q _=>∃(wd pl:Addr)(m:Nat)(xs ys:List V)(ps:List (Nat×Bool)),vs=[.ref wd,.ref pl]∧WoodAt H wd m xs ys∧m≤900∧PicksAt H pl ps∧∀(l:Addr)(H':Hp),Same H H'→H l=none→H' l=some (.lst (zam (zaz m (zaj ps) (zao ps))))→Q (.ref l) H'
def zm7(ts:List Tie)(m y n:Nat):Option Nat→Prop
 |none=>∀s,s<2^m→InS y n s→zbh ts s=false
 |some s=>s<2^m∧InS y n s∧zbh ts s=true∧∀s',s'<2^m→InS y n s'→zbh ts s'=true→s≤s'
def zsf:Sp:=fun vs H Q _=>∃(wd pl:Addr)(m:Nat)(ts:List Tie)(ps:List (Nat×Bool)),vs=[.ref wd,.ref pl]∧WoodT H wd m ts∧m≤9∧1≤m∧PicksAt H pl ps∧Stand m (zaj ps) (zao ps)∧∀H' o,Same H H'→zm7 ts m (zaj ps) (zao ps) o→Q (zhx o) H'
def zvm:Sp:=fun vs H Q _=>∃(wd pl tp:Addr)(m:Nat)(ts:List Tie)(ps:List (Nat×Bool))(p:Nat×Bool),vs=[.ref wd,.ref pl,.ref tp]∧WoodT H wd m ts∧m≤9∧1≤m∧PicksAt H pl ps∧ps.length≤19∧p.1≤20∧H tp=some (.tup [.int (p.1:Int),.bl p.2])∧Stand m (zaj (ps++[p])) (zao (ps++[p]))∧∀H' o,Same H H'→zm7 ts m (zaj (ps++[p])) (zao (ps++[p])) o→Q (.bl (o.isSome)) H'
abbrev chF(wd pl:Addr):List (Str×V):=[(("wood" : Str),.ref wd),(("picks" : Str),.ref pl)]
theorem zd4(H:Hp):zcp H H:=fun _ _ h=>h
theorem zd7{H:Hp}{a:Addr}{o o':HO}(h:H a=some o)(no:∀xs,o≠.tup xs):zcp H (upd H a o'):=fun b xs hb=>by
 have n:b≠a:=fun z=>by
  rw[z,h] at hb
  exact no xs (Option.some.inj hb)
 rw[zal n]
 exact hb
structure LstS(H H':Hp):Prop where
 lst:∀b xs,H b=some (.lst xs)→H' b=some (.lst xs)
 frz:∀b o u,H b=some (.frz o u)→H' b=some (.frz o u)
instance {H H':Hp}:CoeFun (LstS H H') (fun _=>∀b xs,H b=some (.lst xs)→H' b=some (.lst xs)):=⟨LstS.lst⟩
theorem zmp{H H':Hp}(s:Same H H'):LstS H H':=⟨fun b xs h=>s _ _ h,fun b o u h=>s _ _ h⟩
theorem zff{H H1 H2:Hp}(a:LstS H H1)(b:LstS H1 H2):LstS H H2:=⟨fun c xs h=>b c xs (a c xs h),fun c o u h=>b.frz c o u (a.frz c o u h)⟩
theorem zke{H:Hp}{a:Addr}{o o':HO}(h:H a=some o)(no:∀xs,o≠.lst xs)(nf:∀u v,o≠.frz u v:=by intro _ _ z;cases z):LstS H (upd H a o'):=⟨fun b xs hb=>by
 have n:b≠a:=fun z=>by
  rw[z,h] at hb
  exact no xs (Option.some.inj hb)
 rw[zal n]
 exact hb,fun b u v hb=>by
 have n:b≠a:=fun z=>by
  rw[z,h] at hb
  exact nf u v (Option.some.inj hb)
 rw[zal n]
 exact hb⟩
structure ChS(c:Addr)(H H':Hp):Prop where
 keep:∀b o,b≠c→(∀ps,o≠.tbl ps)→H b=some o→H' b=some o
 tab:∀P,zcm H P→zcm H' P
 dom:∀b,H' b=none→H b=none
theorem ChS.lst{c:Addr}{H H':Hp}(s:ChS c H H'){b:Addr}{xs:List V}(n:b≠c)(h:H b=some (.lst xs)):H' b=some (.lst xs):=s.keep b _ n (fun _ z=>nomatch z) h
theorem ChS.ins{c:Addr}{H H':Hp}(s:ChS c H H'){b C dx:Addr}{fs:List (Str×V)}(n:b≠c)(h:H b=some (.ins C dx fs)):H' b=some (.ins C dx fs):=s.keep b _ n (fun _ z=>nomatch z) h
theorem zka{c:Addr}{H H':Hp}(s:Same H H'):ChS c H H':=⟨fun b o _ n h=>by
 have z:=s b o h
 cases o
 case tbl ps=>exact absurd rfl (n ps)
 all_goals exact z,fun _ t=>s.tab t,fun _ h=>s.free h⟩
theorem ze5{c:Addr}{H H1 H2:Hp}(a:ChS c H H1)(b:ChS c H1 H2):ChS c H H2:=⟨fun p o n t h=>b.keep p o n t (a.keep p o n t h),fun P t=>b.tab P (a.tab P t),fun p h=>a.dom p (b.dom p h)⟩
theorem zgq{H:Hp}{c:Addr}{o o':HO}(h:H c=some o)(nt:∀ps,o≠.tbl ps:=by intro _ z;cases z)(ne:∀φ,o≠.ext φ:=by intro _ z;cases z):ChS c H (upd H c o'):=⟨fun b u n _ hb=>by rw[zal n];exact hb,fun P ⟨ps,hP,tr,hp⟩=>by
 have n:P≠c:=fun z=>by
  rw[z,h] at hP
  exact nt ps (Option.some.inj hP)
 refine⟨ps,by rw[zal n];exact hP,tr,fun pos=>(hp pos).imp id fun⟨q,z1,z2⟩=>⟨q,z1,?_⟩⟩
 have n2:q≠c:=fun z=>by
  rw[z,h] at z2
  exact ne _ (Option.some.inj z2)
 rw[zal n2]
 exact z2,fun b hb=>by
 by_cases z:b=c
 ·rw[z,zab] at hb
  cases hb
 ·rwa [zal z] at hb⟩
def zx4(C:Addr):Sp:=fun vs H Q _=>∃(c dx wd:Addr)(m:Nat)(ts:List Tie),vs=[.ref c,.ref wd]∧H c=some (.ins C dx [])∧WoodT H wd m ts∧m≤9∧1≤m∧(∃s,s<2^m∧zbh ts s=true)∧∀(pl:Addr)(H':Hp),zcp H H'→LstS H H'→ChS c H H'→H pl=none→H' c=some (.ins C dx (chF wd pl))→PicksAt H' pl []→Q .non H'
def zum(C:Addr):Sp:=fun vs H Q _=>∃(c dx wd pl:Addr)(m:Nat)(ts:List Tie)(ps:List (Nat×Bool))(k:Nat)(b:Bool),vs=[.ref c,.int (k:Int),.bl b]∧H c=some (.ins C dx (chF wd pl))∧PicksAt H pl ps∧WoodT H wd m ts∧m≤9∧1≤m∧ps.length≤18∧k≤20 ∧
 k∈zaz m (zaj ps) (zao ps)∧Stand m (zaj (ps++[(k,b)])) (zao (ps++[(k,b)]))∧(∃s,s<2^m∧InS (zaj (ps++[(k,b)])) (zao (ps++[(k,b)])) s∧zbh ts s=true) ∧
 ∀(H':Hp),zcp H H'→ChS pl H H'→H' c=some (.ins C dx (chF wd pl))→PicksAt H' pl (ps++[(k,b)])→Q .non H'
theorem zj4{ts:List Tie}{m y n:Nat}{o:Option Nat}(h:zm7 ts m y n o)(w:∃s,s<2^m∧InS y n s∧zbh ts s=true):∃s,o=some s:=by
 obtain⟨s,h1,h2,h3⟩:=w
 cases o with
 |none=>
  have:=h s h1 h2
  rw[h3] at this
  cases this
 |some s'=>exact⟨s',rfl⟩
theorem zq8{m:Nat}(h:1≤m):Stand m (zaj []) (zao []):=⟨fun k _=>Nat.zero_testBit k,(by show 1<2^m;exact Nat.one_lt_two_pow (by omega)),(by show 0<2^m;exact Nat.pow_pos (by decide))⟩
theorem zuo{ts:List Tie}{s:Nat}(h:zbh ts s=true):InS (zaj []) (zao []) s:=⟨fun k hk=>by
 have hk':Nat.testBit 1 k=true:=hk
 rw[Nat.testBit_one_eq_true_iff_self_eq_zero] at hk'
 subst hk'
 unfold zbh at h
 exact(Bool.and_eq_true_iff.mp h).1,fun k hk=>by
 have hk':Nat.testBit 0 k=true:=hk
 rw[Nat.zero_testBit] at hk'
 cases hk'⟩
end Wd
namespace L2
open PySem PySem.Spec PyProof.Rows
theorem zrf{K:PySem.W.Frag}{X:Cx}{e:Expr}{f:Str}{pos:Pos}{ta:TE}(he:PE X e ta)(hb:attributeBase e f X.env (eval e X.env)=eval e X.env)(hK:X.K=K:=by rfl):PE X (.Attribute e f pos) (zyz K ta f):=hK▸zb8 he hb
end L2
namespace Wd
open PySem L2 Ow
def zty(C:Addr):Sp:=fun vs H Q _=>∃(c dx wd pl:Addr)(ps:List (Nat×Bool)),vs=[.ref c]∧H c=some (.ins C dx (chF wd pl))∧PicksAt H pl ps∧∀(t:Addr)(H':Hp),Same H H'→H' t=some (.tup [.int (zaj ps:Int),.int (zao ps:Int)])→Q (.ref t) H'
def zs3(C:Addr):Sp:=fun vs H Q _=>∃(c dx wd pl:Addr)(ps:List (Nat×Bool)),vs=[.ref c]∧H c=some (.ins C dx (chF wd pl))∧PicksAt H pl ps∧∀(l:Addr)(H':Hp),Same H H'→H l=none→PicksAt H' l ps→Q (.ref l) H'
def zvu(K:PySem.W.Frag):Sp:=fun vs H Q _=>∃(pen sp:Addr)(ns:List Int)(most k:Int),vs=[.ref pen,.int most]∧Pen K H pen sp ns k∧0≤k∧k≤700000∧0≤most∧most≤8 ∧
 ∀(wd:Addr)(m:Nat)(bs cs:List PyData)(k':Int)(H':Hp),SameX pen H H'→H' pen=some (.lst [.ref sp,.int k'])→k≤k'→k'≤k+400→1≤m→m≤9→WoodX H' wd m bs cs→(cs.length:Int)≤most→Q (.ref wd) H'
noncomputable def zch(ts:List Tie)(m y n:Nat):Bool:=@decide (∃s,s<2^m∧InS y n s∧zbh ts s=true) (Classical.propDecidable _)
theorem leadP_iff{ts:List Tie}{m y n:Nat}:zch ts m y n=true↔∃s,s<2^m∧InS y n s∧zbh ts s=true:=by
 unfold zch
 exact @decide_eq_true_iff _ (Classical.propDecidable _)
theorem zjx{ts:List Tie}{m y n:Nat}{o:Option Nat}(h:zm7 ts m y n o):o.isSome=zch ts m y n:=by
 rw[Bool.eq_iff_iff,leadP_iff]
 cases o with
 |none=>
  refine⟨(fun z=>nomatch z),fun⟨s,h1,h2,h3⟩=>?_⟩
  rw[h s h1 h2] at h3
  cases h3
 |some s=>exact⟨fun _=>⟨s,h.1,h.2.1,h.2.2.1⟩,fun _=>rfl⟩
def ze4(l:List Nat):List (Nat×Bool):=l.flatMap fun k=>[(k,false),(k,true)]
theorem zr5(l:List Nat)(k:Nat):ze4 (l++[k])=ze4 l++[(k,false),(k,true)]:=by
 unfold ze4
 rw[List.flatMap_append]
 rfl
theorem zoj(l:List Nat):(ze4 l).length=2*l.length:=by
 induction l with
 |nil=>rfl
 |cons x l ih=>
  show([(x,false),(x,true)]++ze4 l).length=2*(l.length+1)
  rw[List.length_append,ih]
  show 2+2*l.length=_
  omega
theorem zo3{l:List Nat}{p:Nat×Bool}(h:p∈ze4 l):p.1∈l:=by
 unfold ze4 at h
 obtain⟨k,hk,hp⟩:=List.mem_flatMap.mp h
 simp only[List.mem_cons,List.not_mem_nil,or_false] at hp
 rcases hp with rfl|rfl<;>exact hk
noncomputable def zi8(ts:List Tie)(m:Nat)(ps:List (Nat×Bool)):List (Nat×Bool):=(ze4 (zaz m (zaj ps) (zao ps))).filter fun p=>zch ts m (zaj (ps++[p])) (zao (ps++[p]))
theorem zs0{m y n k:Nat}(S:Stand m y n)(h:k∈zaz m y n):Stand m y (n|||2^k):=by
 obtain⟨km,ky,kn⟩:=mem_open.mp h
 refine⟨fun j hj=>?_,S.ym,zm0 S.nm km⟩
 have e:¬k=j:=fun z=>by rw[z,hj] at ky;cases ky
 rw[Nat.testBit_or,S.dj j hj,Nat.testBit_two_pow,decide_eq_false e]
 rfl
theorem zqe{m:Nat}{ps:List (Nat×Bool)}{p:Nat×Bool}(S:Stand m (zaj ps) (zao ps))(h:p.1∈zaz m (zaj ps) (zao ps)):Stand m (zaj (ps++[p])) (zao (ps++[p])):=by
 rw[zf2,zhy]
 cases e:p.2
 ·rw[if_neg Bool.false_ne_true,if_neg Bool.false_ne_true]
  exact zs0 S h
 ·rw[if_pos rfl,if_pos rfl]
  exact S.one h
noncomputable def zu1(C:Addr):Sp:=fun vs H Q _=>∃(c dx wd pl:Addr)(m:Nat)(ts:List Tie)(ps:List (Nat×Bool)),vs=[.ref c]∧H c=some (.ins C dx (chF wd pl))∧PicksAt H pl ps∧WoodT H wd m ts∧m≤9∧1≤m∧ps.length≤18∧Stand m (zaj ps) (zao ps)∧∀(l:Addr)(xs:List V)(H':Hp),Same H H'→H l=none→H' l=some (.lst xs)→PickL H' (zi8 ts m ps) xs→Q (.ref l) H'
def za9(p:Nat×Bool):PyData:=.tuple [.int (p.1:Int),.bool p.2]
theorem PickL.dn{H:Hp}:∀{ps:List (Nat×Bool)} {xs:List V},PickL H ps xs→DnL H (ps.map za9) xs
 |[],_,h=>h
 |_::_,_,⟨t,r,e,h,q⟩=>⟨_,_,e,⟨t,_,rfl,h,_,_,rfl,rfl,_,_,rfl,rfl,rfl⟩,PickL.dn q⟩
theorem zl4:∀(ps:List (Nat×Bool)),PyData.canLayAll0 (ps.map za9)=true∧PyData.depthAll (ps.map za9)≤3
 |[]=>⟨by decide,by decide⟩
 |p::ps=>by
  obtain⟨a,b⟩:=zl4 ps
  refine⟨?_,?_⟩
  ·simp only[List.map_cons,PyData.canLayAll0,a,Bool.and_true]
   simp[za9,PyData.canLay0,PyData.canLayAll0]
  ·simp only[List.map_cons,PyData.depthAll]
   have:PyData.depth (za9 p)≤3:=by simp only[za9,PyData.depth,PyData.depthAll];omega
   omega
theorem zbf(ps:List (Nat×Bool)):SeqAt.shaped (.list (ps.map za9))=true:=by
 obtain⟨a,b⟩:=zl4 ps
 unfold SeqAt.shaped
 rw[Bool.and_eq_true]
 refine⟨by simp[PyData.canLay0,a],decide_eq_true ?_⟩
 simp only[PyData.depth]
 omega
def woP(ps:List (Nat×Bool))(k:Nat):List (Nat×Bool):=ps.filter fun p=>!decide (p.1=k)
def zw5(C:Addr):Sp:=fun vs H Q _=>∃(c dx wd pl:Addr)(ps:List (Nat×Bool))(k:Nat),vs=[.ref c,.int (k:Int)]∧H c=some (.ins C dx (chF wd pl))∧PicksAt H pl ps∧k∈ps.map (·.1)∧∀(pl':Addr)(H':Hp),zcp H H'→LstS H H'→ChS c H H'→H pl'=none→H' c=some (.ins C dx (chF wd pl'))→PicksAt H' pl' (woP ps k)→Q .non H'
def zqc:Sp:=zmb
end Wd
namespace L2
open PySem PySem.Spec PyProof.Rows
theorem zdh{X:Cx}(hu:X.A.units+65<cLine):OpR X (compareOp .NotIn) (fun x y H Q=>∃(d:PyData)(ds:List PyData),Dn H d x∧Dn H (.list ds) y∧SeqAt.shaped d=true∧SeqAt.shaped (.list ds)=true∧Q (.bl (!ds.any fun e=>PyData.eqv e d)) H):=by
 intro pins s σ H x y v u Q I rx ry h
 obtain⟨d,ds,hd,he,sd,se,q⟩:=h
 obtain⟨as,ra⟩:=Dn.reads I d x v hd (SeqAt.canLay_of_shaped sd) rx
 obtain⟨bs,rb⟩:=Dn.reads I (.list ds) y u he (SeqAt.canLay_of_shaped se) ry
 exact SeqAt.notIn_list_reads rb ra (SeqAt.canLay_of_shaped se) (SeqAt.canLay_of_shaped sd) (room_in_shaped sd hu) ⟨.bl _,H,I,rfl,q⟩
theorem zpz{X:Cx}(hu:X.A.units+65<cLine):OpR X (compareOp .In) (fun x y H Q=>∃(d:PyData)(ds:List PyData),Dn H d x∧Dn H (.list ds) y∧SeqAt.shaped d=true∧SeqAt.shaped (.list ds)=true∧Q (.bl (ds.any fun e=>PyData.eqv e d)) H):=by
 intro pins s σ H x y v u Q I rx ry h
 obtain⟨d,ds,hd,he,sd,se,q⟩:=h
 obtain⟨as,ra⟩:=Dn.reads I d x v hd (SeqAt.canLay_of_shaped sd) rx
 obtain⟨bs,rb⟩:=Dn.reads I (.list ds) y u he (SeqAt.canLay_of_shaped se) ry
 exact SeqAt.in_list_reads rb ra (SeqAt.canLay_of_shaped se) (SeqAt.canLay_of_shaped sd) (room_in_shaped sd hu) ⟨.bl _,H,I,rfl,q⟩
theorem Room.units65{k:Nat}{A:Around}(r:Room k A):A.units+65<cLine:=by have:=r.un;omega
end L2
namespace Wd
open PySem L2 Ow
structure KeepA(ex:List Addr)(H H':Hp):Prop where
 keep:∀b o,b∉ex→(∀ps,o≠.tbl ps)→H b=some o→H' b=some o
 tab:∀P,zcm H P→zcm H' P
 dom:∀b,H' b=none→H b=none
theorem KeepA.refl(ex:List Addr)(H:Hp):KeepA ex H H:=⟨fun _ _ _ _ h=>h,fun _ h=>h,fun _ h=>h⟩
theorem KeepA.same{ex:List Addr}{H H1 H2:Hp}(k:KeepA ex H H1)(s:Same H1 H2):KeepA ex H H2:=⟨fun b o n t h=>(zka (c:=b+1) s).keep b o (Nat.ne_of_lt (Nat.lt_succ_self b)) t (k.keep b o n t h),fun P t=>s.tab (k.tab P t),fun b h=>k.dom b (s.free h)⟩
theorem KeepA.ch{ex:List Addr}{c:Addr}{H H1 H2:Hp}(k:KeepA ex H H1)(s:ChS c H1 H2)(hc:c∈ex∨H c=none):KeepA ex H H2:=⟨fun b o n t h=>s.keep b o (fun z=>by
 rcases hc with hc|hc
 ·rw[z] at n;exact n hc
 ·rw[z,hc] at h;cases h) t (k.keep b o n t h),fun P t=>s.tab P (k.tab P t),fun b h=>k.dom b (s.dom b h)⟩
theorem KeepA.pen{ex:List Addr}{pen:Addr}{ys ys':List V}{H H1 H2:Hp}(k:KeepA ex H H1)(s:SameX pen H1 H2)(hp:pen∈ex∨H pen=none)(h1:H1 pen=some (.lst ys))(h2:H2 pen=some (.lst ys')):KeepA ex H H2:=⟨fun b o n t h=>by
 have z:=s b o (fun y=>by
  rcases hp with hp|hp
  ·rw[y] at n;exact n hp
  ·rw[y,hp] at h;cases h) (k.keep b o n t h)
 cases o
 case tbl ps=>exact absurd rfl (t ps)
 all_goals exact z,fun P t=>SameX.tab s h1 (k.tab P t),fun b h=>k.dom b (s.free ⟨_,h2⟩ h)⟩
theorem KeepA.lst{ex:List Addr}{H H':Hp}(k:KeepA ex H H'){b:Addr}{xs:List V}(n:b∉ex)(h:H b=some (.lst xs)):H' b=some (.lst xs):=k.keep b _ n (fun _ z=>nomatch z) h
theorem zps{K:PySem.W.Frag}{H H':Hp}{pen sp:Addr}{ns:List Int}{k:Int}(hS:SqL K H sp (ns.map V.int))(hl:ns.length≤63)(kp:KeepA [] H H')(hp:H pen=none)(e:H' pen=some (.lst [.ref sp,.int k])):Pen K H' pen sp ns k:=by
 refine⟨e,hl,fun H2 s2=>?_⟩
 have n:∀o,H sp=some o→sp≠pen:=fun o h z=>by rw[z,hp] at h;cases h
 rcases hS with(h|⟨o,h⟩)|h
 ·exact .inl (.inl (s2 _ _ (n _ h) (kp.keep _ _ (fun z=>nomatch z) (by intro _ z;cases z) h)))
 ·exact .inl (.inr ⟨o,s2 _ _ (n _ h) (kp.keep _ _ (fun z=>nomatch z) (by intro _ z;cases z) h)⟩)
 ·exact .inr h
def zfx(B:List Nat)(ti:Int)(y n s:Nat):Bool:=decide (s&&&y=y)&&(decide (s&&&n=0)&&decide (Builtin.bitAnd (((B[s]?).getD 0:Nat):Int) ti=0))
def zg2(B:List Nat)(ti:Int)(y n:Nat):List Nat:=(List.range B.length).filter (zfx B ti y n)
def zv1:Sp:=fun vs H Q _=>∃(bl pl:Addr)(B:List Nat)(ti:Int)(ps:List (Nat×Bool)),vs=[.ref bl,.int ti,.ref pl]∧H bl=some (.lst (zam B))∧B.length≤512∧PicksAt H pl ps∧∀(l:Addr)(H':Hp),Same H H'→H l=none→H' l=some (.lst (zam (zg2 B ti (zaj ps) (zao ps))))→Q (.ref l) H'
theorem zu0(x:Nat):Builtin.bitAnd (x:Int) (-1)=(x:Int):=by
 unfold Builtin.bitAnd
 rw[decide_eq_true (show(0:Int)≤(x:Int) by omega),decide_eq_false (show ¬(0:Int)≤-1 by omega)]
 show(x:Int)-((x:Int).toNat&&&(Builtin.bitNot (-1)).toNat:Nat)=_
 rw[show(Builtin.bitNot (-1)).toNat=0 by decide,Nat.and_zero]
 omega
theorem in_iff{y n s:Nat}:InS y n s↔s&&&y=y∧s&&&n=0:=⟨fun h=>⟨land_yes.mpr h.1,land_no.mpr h.2⟩,fun h=>⟨land_yes.mp h.1,land_no.mp h.2⟩⟩
def brN(m:Nat)(ts:List Tie):List Nat:=(List.range (2^m)).map fun s=>brk ts s ts.length
theorem zh4(m:Nat)(ts:List Tie):(brN m ts).length=2^m:=by
 unfold brN
 rw[List.length_map,List.length_range]
theorem zt0{m s:Nat}{ts:List Tie}(h:s<2^m):(brN m ts)[s]?=some (brk ts s ts.length):=by
 unfold brN
 rw[List.getElem?_map,List.getElem?_range h]
 rfl
theorem zkj{m s y n:Nat}{ts:List Tie}(y0:y.testBit 0=true):s∈zg2 (brN m ts) (-1) y n↔s<2^m∧InS y n s∧zbh ts s=true:=by
 unfold zg2
 rw[List.mem_filter,List.mem_range,zh4]
 constructor
 ·rintro⟨h1,h2⟩
  unfold zfx at h2
  rw[zt0 h1,Option.getD_some,zu0] at h2
  simp only[Bool.and_eq_true,decide_eq_true_eq] at h2
  have i:=in_iff.mpr ⟨h2.1,h2.2.1⟩
  refine⟨h1,i,?_⟩
  unfold zbh
  rw[i.1 0 y0,Bool.true_and,List.all_eq_true]
  exact(zok ts s).mp (by omega)
 ·rintro⟨h1,i,h3⟩
  refine⟨h1,?_⟩
  unfold zfx
  rw[zt0 h1,Option.getD_some,zu0]
  simp only[Bool.and_eq_true,decide_eq_true_eq]
  unfold zbh at h3
  rw[Bool.and_eq_true,List.all_eq_true] at h3
  have:=(zok ts s).mpr h3.2
  exact⟨(in_iff.mp i).1,(in_iff.mp i).2,by omega⟩
theorem zex(ps:List (Nat×Bool)):(zaj ps).testBit 0=true:=by
 have:∀(ps:List (Nat×Bool))(y:Nat),y.testBit 0=true→(ps.foldl (fun y p=>if p.2=true then y|||2^p.1 else y) y).testBit 0=true:=by
  intro ps
  induction ps with
  |nil=>intro y h;exact h
  |cons p ps ih=>
   intro y h
   rw[List.foldl_cons]
   refine ih _ ?_
   split
   ·rw[Nat.testBit_or,h];rfl
   ·exact h
 exact this ps 1 (by decide)
theorem zsd{m:Nat}{ts:List Tie}:zg2 (brN m ts) (-1) (zaj []) (zao [])=zhm m ts:=by
 unfold zg2 zhm
 rw[zh4]
 refine List.filter_congr fun s hs=>?_
 have h1:=List.mem_range.mp hs
 rw[Bool.eq_iff_iff]
 have e:s∈zg2 (brN m ts) (-1) (zaj []) (zao [])↔zfx (brN m ts) (-1) (zaj []) (zao []) s=true:=by
  unfold zg2
  rw[List.mem_filter,List.mem_range,zh4]
  exact⟨fun z=>z.2,fun z=>⟨h1,z⟩⟩
 rw[←e,zkj (zex [])]
 exact⟨fun z=>z.2.2,fun z=>⟨h1,zuo z,z⟩⟩
theorem zbn:∀(ps:List (Nat×Bool))(k:Nat),(zaj ps).testBit k=true↔k=0∨(k,true)∈ps:=by
 have aa:∀(ps:List (Nat×Bool))(y k:Nat),(ps.foldl (fun y p=>if p.2=true then y|||2^p.1 else y) y).testBit k=true↔y.testBit k=true∨(k,true)∈ps:=by
  intro ps
  induction ps with
  |nil=>intro y k;simp
  |cons p ps ih=>
   intro y k
   rw[List.foldl_cons,ih,List.mem_cons]
   obtain⟨j,b⟩:=p
   cases b
   ·simp
   ·rw[if_pos rfl,Nat.testBit_or,Nat.testBit_two_pow,Bool.or_eq_true,decide_eq_true_iff,Prod.mk.injEq]
    constructor
    ·rintro((z|z)|z)
     ·exact .inl z
     ·exact .inr (.inl ⟨z.symm,rfl⟩)
     ·exact .inr (.inr z)
    ·rintro(z|⟨z,_⟩|z)
     ·exact .inl (.inl z)
     ·exact .inl (.inr z.symm)
     ·exact .inr z
 intro ps k
 rw[show zaj ps=ps.foldl (fun y p=>if p.2=true then y|||2^p.1 else y) 1 from rfl,aa,Nat.testBit_one_eq_true_iff_self_eq_zero]
theorem zco:∀(ps:List (Nat×Bool))(k:Nat),(zao ps).testBit k=true↔(k,false)∈ps:=by
 have aa:∀(ps:List (Nat×Bool))(y k:Nat),(ps.foldl (fun n p=>if p.2=true then n else n|||2^p.1) y).testBit k=true↔y.testBit k=true∨(k,false)∈ps:=by
  intro ps
  induction ps with
  |nil=>intro y k;simp
  |cons p ps ih=>
   intro y k
   rw[List.foldl_cons,ih,List.mem_cons]
   obtain⟨j,b⟩:=p
   cases b
   ·rw[if_neg Bool.false_ne_true,Nat.testBit_or,Nat.testBit_two_pow,Bool.or_eq_true,decide_eq_true_iff,Prod.mk.injEq]
    constructor
    ·rintro((z|z)|z)
     ·exact .inl z
     ·exact .inr (.inl ⟨z.symm,rfl⟩)
     ·exact .inr (.inr z)
    ·rintro(z|⟨z,_⟩|z)
     ·exact .inl (.inl z)
     ·exact .inl (.inr z.symm)
     ·exact .inr z
   ·simp
 intro ps k
 rw[show zao ps=ps.foldl (fun n p=>if p.2=true then n else n|||2^p.1) 0 from rfl,aa,Nat.zero_testBit]
 simp
theorem zkt(p q:Nat×Bool):PyData.eqv (za9 p) (za9 q)=decide (p=q):=by
 obtain⟨a,b⟩:=p
 obtain⟨c,d⟩:=q
 rw[Bool.eq_iff_iff,decide_eq_true_iff,Prod.mk.injEq]
 cases b<;>cases d<;>simp[za9,PyData.eqv,PyData.eqvAll]<;>omega
theorem zju(p:Nat×Bool)(l:List (Nat×Bool)):((l.map za9).any fun e=>PyData.eqv e (za9 p))=decide (p∈l):=by
 rw[List.any_map,Bool.eq_iff_iff,decide_eq_true_iff,List.any_eq_true]
 constructor
 ·rintro⟨x,hx,e⟩
  rw[Function.comp_apply,zkt,decide_eq_true_iff] at e
  rw[←e]
  exact hx
 ·intro h
  exact⟨p,h,by rw[Function.comp_apply,zkt];exact decide_eq_true rfl⟩
theorem zei(p:Nat×Bool):SeqAt.shaped (za9 p)=true:=by
 unfold SeqAt.shaped
 rw[Bool.and_eq_true]
 exact⟨by simp[za9,PyData.canLay0,PyData.canLayAll0],decide_eq_true (by simp only[za9,PyData.depth,PyData.depthAll];omega)⟩
theorem zm6{w:Nat→Nat}(h:∀k,1≤w k):∀(ks:List Nat)(j:Nat)(g:Nat→Nat),j≤ks.length→1≤g j→1≤zi7 w ks g
 |[],0,g,_,h1=>h1
 |[],_+1,_,hj,_=>absurd hj (Nat.not_succ_le_zero _)
 |c::cs,j,g,hj,h1=>by
  show 1≤zi7 w cs g+w c*zi7 w cs fun j=>g (j+1)
  by_cases z:j≤cs.length
  ·have:=zm6 h cs j g z h1
   omega
  ·obtain⟨i,rfl⟩:∃i,j=i+1:=⟨j-1,by omega⟩
   have:=zm6 h cs i (fun j=>g (j+1)) (by rw[List.length_cons] at hj;omega) h1
   have:=Nat.mul_le_mul (h c) this
   omega
theorem zy5{m:Nat}{b:Bg}(ok:Tie.BoughOk m b.u b.lo b.hi b.ks){w:Nat→Nat}(h:∀k,1≤w k):1≤b.F w:=by
 have h1:=ok.lo0
 have h2:=ok.lohi
 have h3:=ok.hik
 refine zm6 h b.ks b.lo.toNat b.ind (by omega) ?_
 unfold Bg.ind
 rw[decide_eq_true (by omega),decide_eq_true (by omega)]
 exact Nat.le_refl 1
theorem zo9{m:Nat}:∀(L:List Bg)(w:Nat→Nat),(∀b∈L,Tie.BoughOk m b.u b.lo b.hi b.ks)→(∀k,1≤w k)→∀k,1≤L.foldl zgc w k
 |[],_,_,h,k=>h k
 |b::L,w,ok,h,k=>by
  rw[List.foldl_cons]
  refine zo9 L _ (fun x hx=>ok x (List.mem_cons_of_mem _ hx)) (fun j=>?_) k
  unfold zgc
  split
  ·exact Nat.mul_le_mul (h j) (zy5 (ok b List.mem_cons_self) h)
  ·exact h j
theorem zsg{m:Nat}{L:List Bg}(T:TreeB m L):∃s,s<2^m∧zbh (L.map Bg.tie) s=true:=by
 have p:1≤ztx m L 0:=zo9 (m:=m) _ _ (fun b hb=>T.ok b ((zgj T.lt).mp hb)) (fun _=>Nat.le_refl 1) 0
 rw[←zqn T] at p
 cases e:zhm m (L.map Bg.tie) with
 |nil=>rw[e] at p;exact absurd p (by decide)
 |cons s r=>exact⟨s,mem_wareL.mp (by rw[e];exact List.mem_cons_self)⟩
theorem WoodX.bare{H:Hp}{wd:Addr}{m:Nat}{bs:List PyData}(h:WoodX H wd m bs []):∃ts:List Tie,(∃s,s<2^m∧zbh ts s=true)∧(∀t∈ts,t.Ok m)∧ts.length≤29∧∀H',zcp H H'→WoodT H' wd m ts:=by
 obtain⟨L,e,f⟩:=zt7 h rfl
 have B:=f H (zd4 H)
 exact⟨L.map Bg.tie,zsg B.T,B.woodT.ok,by rw[List.length_map];have:=B.few;omega,fun H' t=>(f H' t).woodT⟩
theorem WoodX.cut{H H':Hp}{wd wd' tb tc te:Addr}{m:Nat}{bs cs:List PyData}(h:WoodX H wd m bs cs)(hw:H wd=some (.tup [.int (m:Int),.ref tb,.ref tc]))(t:zcp H H')(h1:H' wd'=some (.tup [.int (m:Int),.ref tb,.ref te]))(h2:H' te=some (.tup [])):WoodX H' wd' m bs []:=by
 obtain⟨xs,ys,⟨aa,ad,w1,w2,w3⟩,db,dc⟩:=h.ex
 rw[hw] at w1
 have e:tb=aa:=by
  injection w1 with w1
  injection w1 with w1
  injection w1 with _ w1
  injection w1 with w1 _
  injection w1
 subst e
 exact⟨⟨xs,[],⟨tb,te,h1,t _ _ w2,h2⟩,DnL.tupS t h.fb db,rfl⟩,h.gb,(fun _ z=>nomatch z),h.b8,Nat.zero_le _,h.fb,rfl,h.m1,h.m9⟩
structure PickOk(m:Nat)(ps:List (Nat×Bool)):Prop where
 in_:∀p∈ps,1≤p.1∧p.1<m
 nd:(ps.map (·.1)).Nodup
theorem PickOk.nil(m:Nat):PickOk m []:=⟨fun _ z=>(nomatch z),List.nodup_nil⟩
theorem zn7:∀{m:Nat} {l:List Nat},l.Nodup→(∀k∈l,k<m)→l.length≤m
 |0,[],_,_=>Nat.le_refl _
 |0,k::l,_,h=>absurd (h k List.mem_cons_self) (Nat.not_lt_zero _)
 |m+1,l,nd,h=>by
  have h1:(l.filter (·≠m)).length≤m:=zn7 (nd.filter _) fun k hk=>by
   obtain⟨a,b⟩:=List.mem_filter.mp hk
   have:=h k a
   have:k≠m:=by simpa using b
   omega
  have h2:l.length≤(l.filter (·≠m)).length+1:=by
   clear h1 h
   induction l with
   |nil=>exact Nat.zero_le _
   |cons x l ih=>
    obtain⟨hx,aa⟩:=List.nodup_cons.mp nd
    by_cases e:x=m
    ·have:l.filter (·≠m)=l:=List.filter_eq_self.mpr fun k hk=>by
      have:k≠m:=fun z=>hx (by rw[e,←z];exact hk)
      simpa using this
     rw[List.filter_cons_of_neg (by simpa using e),this]
     exact Nat.le_refl _
    ·rw[List.filter_cons_of_pos (by simpa using e)]
     have:=ih aa
     simp only[List.length_cons]
     omega
  omega
theorem PickOk.len{m:Nat}{ps:List (Nat×Bool)}(h:PickOk m ps):ps.length≤m:=by
 have:=zn7 h.nd fun k hk=>by
  obtain⟨p,hp,rfl⟩:=List.mem_map.mp hk
  exact(h.in_ p hp).2
 rwa [List.length_map] at this
theorem PickOk.one{m:Nat}{ps:List (Nat×Bool)}(h:PickOk m ps){k:Nat}(h1:(k,true)∈ps)(h2:(k,false)∈ps):False:=by
 have nd:=h.nd
 clear h
 induction ps with
 |nil=>cases h1
 |cons p ps ih=>
  rw[List.map_cons,List.nodup_cons] at nd
  rcases List.mem_cons.mp h1 with e|e<;>rcases List.mem_cons.mp h2 with e'|e'
  ·rw[←e] at e';cases e'
  ·exact nd.1 (by rw[←e];exact List.mem_map.mpr ⟨_,e',rfl⟩)
  ·exact nd.1 (by rw[←e'];exact List.mem_map.mpr ⟨_,e,rfl⟩)
  ·exact ih e e' nd.2
theorem PickOk.stand{m:Nat}{ps:List (Nat×Bool)}(m1:1≤m)(h:PickOk m ps):Stand m (zaj ps) (zao ps):=by
 refine⟨fun k hk=>?_,Nat.lt_pow_two_of_testBit _ fun k hk=>?_,Nat.lt_pow_two_of_testBit _ fun k hk=>?_⟩
 ·rw[Bool.eq_false_iff]
  intro z
  have z:=(zco ps k).mp z
  rcases(zbn ps k).mp hk with y|y
  ·have:=(h.in_ _ z).1
   simp only at this
   omega
  ·exact h.one y z
 ·rw[Bool.eq_false_iff]
  intro z
  rcases(zbn ps k).mp z with y|y
  ·omega
  ·have:=(h.in_ _ y).2
   simp only at this
   omega
 ·rw[Bool.eq_false_iff]
  intro z
  have:=(h.in_ _ ((zco ps k).mp z)).2
  simp only at this
  omega
theorem mem_openP{m k:Nat}{ps:List (Nat×Bool)}:k∈zaz m (zaj ps) (zao ps)↔k<m∧1≤k∧k∉ps.map (·.1):=by
 rw[mem_open]
 constructor
 ·rintro⟨h1,h2,h3⟩
  refine⟨h1,?_,fun z=>?_⟩
  ·by_cases e:k=0
   ·rw[e,zex] at h2
    cases h2
   ·omega
  ·obtain⟨⟨j,b⟩,hp,e⟩:=List.mem_map.mp z
   cases(show j=k from e)
   cases b
   ·rw[(zco ps k).mpr hp] at h3
    cases h3
   ·rw[(zbn ps k).mpr (.inr hp)] at h2
    cases h2
 ·rintro⟨h1,h2,h3⟩
  refine⟨h1,?_,?_⟩<;>rw[Bool.eq_false_iff]<;>intro z
  ·rcases(zbn ps k).mp z with y|y
   ·omega
   ·exact h3 (List.mem_map.mpr ⟨_,y,rfl⟩)
  ·exact h3 (List.mem_map.mpr ⟨_,(zco ps k).mp z,rfl⟩)
theorem PickOk.snoc{m k:Nat}{b:Bool}{ps:List (Nat×Bool)}(h:PickOk m ps)(ho:k∈zaz m (zaj ps) (zao ps)):PickOk m (ps++[(k,b)]):=by
 obtain⟨h1,h2,h3⟩:=mem_openP.mp ho
 refine⟨fun p hp=>?_,?_⟩
 ·rcases List.mem_append.mp hp with z|z
  ·exact h.in_ p z
  ·rw[List.mem_singleton.mp z]
   exact⟨h2,h1⟩
 ·rw[List.map_append,List.nodup_append]
  refine⟨h.nd,by simp,fun x hx y hy=>?_⟩
  rw[List.map_cons,List.map_nil] at hy
  rw[List.mem_singleton.mp hy]
  intro z
  rw[z] at hx
  exact h3 hx
theorem PickOk.wo{m k:Nat}{ps:List (Nat×Bool)}(h:PickOk m ps):PickOk m (woP ps k):=
 ⟨fun p hp=>h.in_ p (List.mem_filter.mp hp).1,h.nd.sublist (List.Sublist.map _ List.filter_sublist)⟩
theorem sets_lead{ts:List Tie}{m:Nat}{ps:List (Nat×Bool)}:(zg2 (brN m ts) (-1) (zaj ps) (zao ps)=[])↔zch ts m (zaj ps) (zao ps)=false:=by
 rw[Bool.eq_false_iff]
 constructor
 ·intro h z
  obtain⟨s,hs⟩:=leadP_iff.mp z
  have:=(zkj (zex ps)).mpr hs
  rw[h] at this
  cases this
 ·intro h
  rw[List.eq_nil_iff_forall_not_mem]
  intro s hs
  exact h (leadP_iff.mpr ⟨s,(zkj (zex ps)).mp hs⟩)
theorem PickL.append{H:Hp}:∀{ps qs:List (Nat×Bool)} {xs ys:List V},PickL H ps xs→PickL H qs ys→PickL H (ps++qs) (xs++ys)
 |[],_,_,_,h,q=>by rw[show _=[] from h];exact q
 |_::_,_,_,_,⟨t,r,e,h,p⟩,q=>⟨t,r++_,by rw[e];rfl,h,PickL.append p q⟩
theorem zbz{H:Hp}{p pen sp:Addr}{k:Int}{ps:List (Nat×Bool)}(h:PicksAt H p ps)(hp:H pen=some (.lst [.ref sp,.int k])):p≠pen:=fun z=>by
 obtain⟨xs,h1,h2⟩:=h.ex
 rw[z,hp] at h1
 cases h1
 cases ps with
 |nil=>cases h2
 |cons q ps=>
  obtain⟨t,r,e,_,h3⟩:=h2
  cases e
  cases ps with
  |nil=>cases h3
  |cons q' ps=>
   obtain⟨t,r,e,_⟩:=h3
   cases e
theorem PicksAt.x{H H':Hp}{p pen:Addr}{ys:List V}{ps:List (Nat×Bool)}(h:PicksAt H p ps)(hp:H pen=some (.lst ys))(n:p≠pen)(s:SameX pen H H'):PicksAt H' p ps:=by
 obtain⟨xs,h1,h2⟩:=h.ex
 exact⟨⟨xs,s _ _ n h1,h2.same (SameX.tup hp s)⟩,h.few,h.le⟩
theorem PicksAt.ch{H H':Hp}{p c:Addr}{ps:List (Nat×Bool)}(h:PicksAt H p ps)(n:p≠c)(t:zcp H H')(s:ChS c H H'):PicksAt H' p ps:=by
 obtain⟨xs,h1,h2⟩:=h.ex
 exact⟨⟨xs,s.lst n h1,h2.same t⟩,h.few,h.le⟩
def woI(ps:List (Nat×Bool))(k:Int):List (Nat×Bool):=ps.filter fun p=>!decide ((p.1:Int)=k)
theorem zvg(ps:List (Nat×Bool))(k:Nat):woI ps (k:Int)=woP ps k:=by
 unfold woI woP
 refine List.filter_congr fun p _=>?_
 congr 1
 rw[Bool.eq_iff_iff,decide_eq_true_iff,decide_eq_true_iff]
 omega
theorem zux{ps:List (Nat×Bool)}{k:Int}(h:∀kn:Nat,k=kn→kn∉ps.map (·.1)):woI ps k=ps:=by
 unfold woI
 refine List.filter_eq_self.mpr fun p hp=>?_
 rw[Bool.not_eq_true',decide_eq_false_iff_not]
 intro z
 exact h p.1 z.symm (List.mem_map.mpr ⟨p,hp,rfl⟩)
theorem zuv{ps:List (Nat×Bool)}{k:Nat}(h:k∈ps.map (·.1)):(woP ps k).length<ps.length:=by
 obtain⟨p,hp,rfl⟩:=List.mem_map.mp h
 unfold woP
 refine List.length_filter_lt_length_iff_exists.mpr ⟨p,hp,by simp⟩
theorem zil(k:Int)(b:Bool)(l:List (Nat×Bool)):((l.map za9).any fun e=>PyData.eqv e (.tuple [.int k,.bool b]))=true↔∃kn:Nat,k=kn∧(kn,b)∈l:=by
 by_cases z:0≤k
 ·obtain⟨kn,rfl⟩:∃kn:Nat,k=(kn:Int):=⟨k.toNat,by omega⟩
  rw[show PyData.tuple [.int (kn:Int),.bool b]=za9 (kn,b) from rfl,zju,decide_eq_true_iff]
  exact⟨fun h=>⟨kn,rfl,h⟩,fun⟨j,e,h⟩=>by
   cases Int.ofNat.inj e
   exact h⟩
 ·constructor
  ·intro h
   rw[List.any_map,List.any_eq_true] at h
   obtain⟨x,hx,e⟩:=h
   obtain⟨j,d⟩:=x
   rw[Function.comp_apply] at e
   cases b<;>cases d<;>simp[za9,PyData.eqv,PyData.eqvAll] at e<;>omega
  ·rintro⟨kn,e,_⟩
   omega
theorem mem_offL{ts:List Tie}{m:Nat}{ps:List (Nat×Bool)}{k:Nat}{b:Bool}:(k,b)∈zi8 ts m ps↔k∈zaz m (zaj ps) (zao ps)∧zch ts m (zaj (ps++[(k,b)])) (zao (ps++[(k,b)]))=true:=by
 unfold zi8
 rw[List.mem_filter]
 constructor
 ·rintro⟨h1,h2⟩
  exact⟨zo3 h1,h2⟩
 ·rintro⟨h1,h2⟩
  refine⟨?_,h2⟩
  unfold ze4
  refine List.mem_flatMap.mpr ⟨k,h1,?_⟩
  cases b<;>simp
theorem zxt{ps:List (Nat×Bool)}{k s:Nat}(h:InS (zaj ps) (zao ps) s):InS (zaj (woP ps k)) (zao (woP ps k)) s:=by
 refine⟨fun j hj=>h.1 j ?_,fun j hj=>h.2 j ?_⟩
 ·rcases(zbn _ j).mp hj with z|z
  ·exact(zbn _ j).mpr (.inl z)
  ·exact(zbn _ j).mpr (.inr (List.mem_filter.mp z).1)
 ·exact(zco _ j).mpr (List.mem_filter.mp ((zco _ j).mp hj)).1
theorem zfi(k:Int)(b:Bool):SeqAt.shaped (.tuple [.int k,.bool b])=true:=by
 unfold SeqAt.shaped
 rw[Bool.and_eq_true]
 exact⟨by simp[PyData.canLay0,PyData.canLayAll0],decide_eq_true (by simp only[PyData.depth,PyData.depthAll];omega)⟩
theorem KeepA.comp{ex ex':List Addr}{H H1 H2:Hp}(k:KeepA ex H H1)(k':KeepA ex' H1 H2)(h:∀c∈ex',c∈ex∨H c=none):KeepA ex H H2:=⟨fun b o n t e=>k'.keep b o (fun z=>by
 rcases h b z with y|y
 ·exact n y
 ·rw[y] at e;cases e) t (k.keep b o n t e),fun P t=>k'.tab P (k.tab P t),fun b e=>k.dom b (k'.dom b e)⟩
theorem zn9{a b c d:Addr}(h1:d≠a)(h2:d≠b)(h3:d≠c):d∉[a,b,c]:=fun z=>by
 simp only[List.mem_cons,List.not_mem_nil,or_false] at z
 rcases z with z|z|z
 ·exact h1 z
 ·exact h2 z
 ·exact h3 z
theorem zyg{a b c:Addr}{P:Addr→Prop}(h1:P a)(h2:P b)(h3:P c):∀d∈[a,b,c],P d:=fun d z=>by
 simp only[List.mem_cons,List.not_mem_nil,or_false] at z
 rcases z with rfl|rfl|rfl<;>assumption
end Wd
namespace Kst
open PySem PySem.W PyProof.Rows
def ev{α:Type}(lt:Nat→Nat→Bool):KasT α→α
 |.ret a=>a
 |.ask i j k=>ev lt (k (lt i j))
theorem zgn{α β:Type}{lt:Nat→Nat→Bool}{f:α→KasT β}:∀t:KasT α,ev lt (t.bind f)=ev lt (f (ev lt t))
 |.ret _=>rfl
 |.ask i j k=>zgn (k (lt i j))
def zgg{α:Type}(lt:Nat→Nat→Bool)(ok:Nat→Nat→Prop):KasT α→Prop
 |.ret _=>True
 |.ask i j k=>ok i j∧zgg lt ok (k (lt i j))
theorem zd5{α β:Type}{lt:Nat→Nat→Bool}{ok:Nat→Nat→Prop}{f:α→KasT β}:∀t:KasT α,zgg lt ok t→zgg lt ok (f (ev lt t))→zgg lt ok (t.bind f)
 |.ret _,_,h=>h
 |.ask i j k,h1,h2=>⟨h1.1,zd5 (k (lt i j)) h1.2 h2⟩
theorem zwo{α:Type}{lt:Nat→Nat→Bool}{ok:Nat→Nat→Prop}{cmp:Nat→Nat→(Bool→Shared→Prop)→Shared→Prop}{Q:α→Shared→Prop}{s:Shared}(hc:∀i j C,ok i j→C (lt i j) s→cmp i j C s):∀t:KasT α,zgg lt ok t→Q (ev lt t) s→t.kasWp cmp Q s
 |.ret a,_,q=>q
 |.ask i j k,h,q=>hc i j _ h.1 (zwo hc (k (lt i j)) h.2 q)
variable {key : Nat → Int}
def g(p:Array Nat)(i:Nat):Nat:=p.getD i 0
def Up(key:Nat→Int)(p:Array Nat)(b:Nat):Prop:=∀i j,i<j→j<b→key (g p i)≤key (g p j)
def Dw(key:Nat→Int)(p:Array Nat)(b:Nat):Prop:=∀i j,i<j→j<b→key (g p j)<key (g p i)
def ltk(key:Nat→Int)(i j:Nat):Bool:=decide (key i<key j)
theorem Up.step{p:Array Nat}{n:Nat}(h:Up key p n)(h1:1≤n)(c:key (g p (n-1))≤key (g p n)):Up key p (n+1):=fun i j ij jn=>by
 rcases Nat.lt_or_eq_of_le (Nat.le_of_lt_succ jn) with z|z
 ·exact h i j ij z
 ·subst z
  rcases Nat.lt_or_eq_of_le (show i≤j-1 by omega) with y|y
  ·exact Int.le_trans (h i (j-1) y (by omega)) c
  ·rw[y];exact c
theorem Dw.step{p:Array Nat}{n:Nat}(h:Dw key p n)(h1:1≤n)(c:key (g p n)<key (g p (n-1))):Dw key p (n+1):=fun i j ij jn=>by
 rcases Nat.lt_or_eq_of_le (Nat.le_of_lt_succ jn) with z|z
 ·exact h i j ij z
 ·subst z
  rcases Nat.lt_or_eq_of_le (show i≤j-1 by omega) with y|y
  ·exact Int.lt_trans c (h i (j-1) y (by omega))
  ·rw[y];exact c
theorem zm9{p:Array Nat}:∀(f n:Nat),1≤n→Up key p n→n≤ev (ltk key) (kas_asc p f n)∧ev (ltk key) (kas_asc p f n)≤n+f∧Up key p (ev (ltk key) (kas_asc p f n))∧(ev (ltk key) (kas_asc p f n)<n+f→key (g p (ev (ltk key) (kas_asc p f n)))<key (g p (ev (ltk key) (kas_asc p f n)-1)))
 |0,n,_,h=>⟨Nat.le_refl _,Nat.le_refl _,h,fun z=>absurd z (Nat.lt_irrefl _)⟩
 |f+1,n,h1,h=>by
  unfold kas_asc
  show n≤ev _ (if ltk key (g p n) (g p (n-1))=true then _ else _)∧ev _ (if ltk key (g p n) (g p (n-1))=true then _ else _)≤_∧Up key p (ev _ (if ltk key (g p n) (g p (n-1))=true then _ else _))∧(ev _ (if ltk key (g p n) (g p (n-1))=true then _ else _)<_→key (g p (ev _ (if ltk key (g p n) (g p (n-1))=true then _ else _)))<key (g p (ev _ (if ltk key (g p n) (g p (n-1))=true then _ else _)-1)))
  by_cases c:key (g p n)<key (g p (n-1))
  ·rw[show ltk key (g p n) (g p (n-1))=true from decide_eq_true c,if_pos rfl]
   exact⟨Nat.le_refl _,Nat.le_add_right _ _,h,fun _=>c⟩
  ·rw[show ltk key (g p n) (g p (n-1))=false from decide_eq_false c,if_neg Bool.false_ne_true]
   obtain⟨a,b,u,d⟩:=zm9 f (n+1) (by omega) (h.step h1 (Int.not_lt.mp c))
   exact⟨by omega,by omega,u,fun z=>d (by omega)⟩
def Inj(key:Nat→Int)(p:Array Nat):Prop:=∀i j,i<p.size→j<p.size→i≠j→key (g p i)≠key (g p j)
theorem zmt{p:Array Nat}(hI:Inj key p):∀(f n:Nat),1≤n→n+f≤p.size→Dw key p n→∃m,ev (ltk key) (kas_desc f p n 0)=(p,m,0)∧n≤m∧m≤n+f∧Dw key p m
 |0,n,_,_,h=>⟨n,rfl,Nat.le_refl _,Nat.le_refl _,h⟩
 |f+1,n,h1,hz,h=>by
  unfold kas_desc
  show ∃m,ev _ (if ltk key (g p n) (g p (n-1))=true then _ else _)=_∧_
  by_cases c:key (g p n)<key (g p (n-1))
  ·rw[show ltk key (g p n) (g p (n-1))=true from decide_eq_true c,if_pos rfl,if_neg (Nat.lt_irrefl _)]
   obtain⟨m,e,a,b,d⟩:=zmt hI f (n+1) (by omega) (by omega) (h.step h1 c)
   exact⟨m,e,by omega,by omega,d⟩
  ·rw[show ltk key (g p n) (g p (n-1))=false from decide_eq_false c,if_neg Bool.false_ne_true]
   have ne:=hI (n-1) n (by omega) (by omega) (by omega)
   show ∃m,ev _ (if ltk key (g p (n-1)) (g p n)=true then _ else _)=_∧_
   rw[show ltk key (g p (n-1)) (g p n)=true from decide_eq_true (by omega),if_pos rfl]
   exact⟨n,rfl,Nat.le_refl _,Nat.le_add_right _ _,h⟩
theorem g_get(p:Array Nat)(i:Nat):g p i=(p[i]?).getD 0:=by
 unfold g
 rw[Array.getD_eq_getD_getElem?]
theorem zwt{p:Array Nat}{n:Nat}(hn:n≤p.size)(k:Nat):g (kas_rev p 0 n) k=if k<n then g p (n-1-k) else g p k:=by
 unfold kas_rev
 rw[g_get,getElem?_mirror_all hn]
 by_cases c:k<n
 ·rw[if_pos ⟨Nat.zero_le _,c⟩,if_pos c,g_get,Nat.zero_add]
 ·rw[if_neg (fun z=>c z.2),if_neg c,g_get]
theorem zxm{p:Array Nat}{n:Nat}(hn:n≤p.size)(h:Dw key p n):Up key (kas_rev p 0 n) n:=fun i j ij jn=>by
 rw[zwt hn,zwt hn,if_pos (by omega),if_pos jn]
 exact Int.le_of_lt (h (n-1-j) (n-1-i) (by omega) (by omega))
theorem zwv{p:Array Nat}{k l:Nat}(hk:k<p.size)(hl:l≤k)(i:Nat):g (bubble p k (k-l)) i=if i=l then g p k else if l<i∧i≤k then g p (i-1) else g p i:=by
 rw[g_get,getElem?_bubble hk _ (Nat.sub_le _ _),show k-(k-l)=l by omega]
 split
 ·rw[g_get]
 ·split
  ·rw[g_get]
  ·rw[g_get]
theorem zkn{p:Array Nat}{k:Nat}(hu:Up key p k):∀(f l r:Nat),r-l≤f→l≤r→r≤k→(∀i,i<l→key (g p i)≤key (g p k))→(∀i,r≤i→i<k→key (g p k)<key (g p i))→∃m,ev (ltk key) (kas_place p k f l r)=m∧m≤k∧(∀i,i<m→key (g p i)≤key (g p k))∧∀i,m≤i→i<k→key (g p k)<key (g p i)
 |0,l,r,hf,lr,rk,h1,h2=>⟨l,rfl,by omega,h1,fun i hi=>h2 i (by omega)⟩
 |f+1,l,r,hf,lr,rk,h1,h2=>by
  unfold kas_place
  by_cases c:l≥r
  ·rw[if_pos c]
   exact⟨l,rfl,by omega,h1,fun i hi=>h2 i (by omega)⟩
  ·rw[if_neg c]
   show ∃m,ev _ (if ltk key (g p k) (g p ((l+r)/2))=true then _ else _)=m∧_
   by_cases d:key (g p k)<key (g p ((l+r)/2))
   ·rw[show ltk key (g p k) (g p ((l+r)/2))=true from decide_eq_true d,if_pos rfl]
    refine zkn hu f l ((l+r)/2) (by omega) (by omega) (by omega) h1 fun i hi ik=>?_
    rcases Nat.lt_or_eq_of_le hi with z|z
    ·exact Int.lt_of_lt_of_le d (hu _ i z ik)
    ·rw[←z];exact d
   ·rw[show ltk key (g p k) (g p ((l+r)/2))=false from decide_eq_false d,if_neg Bool.false_ne_true]
    refine zkn hu f ((l+r)/2+1) r (by omega) (by omega) rk (fun i hi=>?_) h2
    rcases Nat.lt_or_eq_of_le (Nat.le_of_lt_succ hi) with z|z
    ·exact Int.le_trans (hu i _ z (by omega)) (Int.not_lt.mp d)
    ·rw[z];exact Int.not_lt.mp d
theorem zuh:∀(f:Nat)(p:Array Nat)(k:Nat),k+f=p.size→Up key p k→(ev (ltk key) (kas_bin f p k)).Perm p∧Up key (ev (ltk key) (kas_bin f p k)) p.size
 |0,p,k,hk,hu=>by
  have e:k=p.size:=by omega
  subst e
  exact⟨Array.Perm.refl _,hu⟩
 |f+1,p,k,hk,hu=>by
  unfold kas_bin
  rw[zgn]
  obtain⟨l,e,lk,h1,h2⟩:=zkn hu k 0 k (by omega) (Nat.zero_le _) (Nat.le_refl _) (fun i hi=>absurd hi (Nat.not_lt_zero _)) (fun i a b=>absurd b (by omega))
  rw[e]
  have kz:k<p.size:=by omega
  have up:Up key (bubble p k (k-l)) (k+1):=fun i j ij jn=>by
   rw[zwv kz lk,zwv kz lk]
   repeat' split
   all_goals first
    |omega
    |exact Int.le_refl _
    |(exact h1 _ (by omega))
    |(exact Int.le_of_lt (h2 _ (by omega) (by omega)))
    |(exact hu _ _ (by omega) (by omega))
  obtain⟨a,b⟩:=zuh f (bubble p k (k-l)) (k+1) (by rw[bubble_size];omega) up
  rw[bubble_size] at b
  exact⟨a.trans (bubble_perm _ _ _),b⟩
theorem zow{p:Array Nat}{n:Nat}(hn:p.size=n)(h1:1≤n)(hI:Inj key p):∃m p',ev (ltk key) (kas_count n p)=(m,p')∧1≤m∧m≤n∧p'.Perm p∧p'.size=n∧Up key p' m:=by
 unfold kas_count
 rw[zgn]
 obtain⟨a1,b1,u1,d1⟩:=zm9 (key:=key) (p:=p) (n-1) 1 (Nat.le_refl _) (fun i j ij jn=>by omega)
 generalize ev (ltk key) (kas_asc p (n-1) 1)=m at a1 b1 u1 d1
 by_cases c:m=n
 ·rw[if_pos (beq_iff_eq.mpr c)]
  exact⟨m,p,rfl,by omega,by omega,Array.Perm.refl _,hn,u1⟩
 ·rw[if_neg (fun z=>c (beq_iff_eq.mp z))]
  by_cases c1:m>1
  ·rw[if_pos c1]
   have ne:=hI 0 (m-1) (by omega) (by omega) (by omega)
   have le:=u1 0 (m-1) (by omega) (by omega)
   show ∃m' p',ev _ (if ltk key (g p 0) (g p (m-1))=true then _ else _)=_∧_
   rw[show ltk key (g p 0) (g p (m-1))=true from decide_eq_true (by omega),if_pos rfl]
   exact⟨m,p,rfl,by omega,by omega,Array.Perm.refl _,hn,u1⟩
  ·rw[if_neg c1]
   have e1:m=1:=by omega
   subst e1
   have d:=d1 (by omega)
   unfold kas_descPart
   rw[zgn]
   obtain⟨m2,e2,a2,b2,w2⟩:=zmt hI (n-(1+1)) (1+1) (by omega) (by omega) (fun i j ij jn=>by
    have hi:i=0:=by omega
    have hj:j=1:=by omega
    rw[hi,hj]
    exact d)
   rw[e2]
   show ∃m p',ev _ (if 0>0 then _ else kas_tail3 m2 n p)=_∧_
   rw[if_neg (Nat.lt_irrefl _)]
   unfold kas_tail3
   rw[zgn]
   have aa:m2≤p.size:=by omega
   obtain⟨a3,b3,u3,_⟩:=zm9 (key:=key) (p:=kas_rev p 0 m2) (n-m2) m2 (by omega) (zxm aa w2)
   exact⟨_,_,rfl,by omega,by omega,mirror_perm _ _ _ _,by rw[kas_rev_size];exact hn,u3⟩
theorem zv5{n:Nat}(h1:1≤n)(hI:∀i j,i<n→j<n→i≠j→key i≠key j):(ev (ltk key) (kas_sort n)).Perm (List.range n).toArray∧Up key (ev (ltk key) (kas_sort n)) n:=by
 have gr:∀i,i<n→g (List.range n).toArray i=i:=fun i hi=>by
  rw[g_get,List.getElem?_toArray,List.getElem?_range hi]
  rfl
 have sz:(List.range n).toArray.size=n:=by simp
 unfold kas_sort
 rw[zgn]
 obtain⟨m,p,e,a,b,pm,z,u⟩:=zow (key:=key) (p:=(List.range n).toArray) sz h1 (fun i j hi hj ij=>by
  rw[sz] at hi hj
  rw[gr i hi,gr j hj]
  exact hI i j hi hj ij)
 rw[e]
 show Array.Perm (ev _ (if m<n then _ else _)) _∧Up key (ev _ (if m<n then _ else _)) n
 by_cases c:m<n
 ·rw[if_pos c,show max m 1=m by omega]
  obtain⟨x,y⟩:=zuh (n-m) p m (by omega) u
  rw[z] at y
  exact⟨x.trans pm,y⟩
 ·rw[if_neg c]
  have e:m=n:=by omega
  subst e
  exact⟨pm,u⟩
def okN(n i j:Nat):Prop:=i<n∧j<n∧i≠j
def PR(n:Nat)(p:Array Nat):Prop:=p.Perm (List.range n).toArray
theorem PR.size{n:Nat}{p:Array Nat}(h:PR n p):p.size=n:=by
 have:=h.size_eq
 simpa using this
theorem PR.ok{n:Nat}{p:Array Nat}(h:PR n p){i j:Nat}(hi:i<n)(hj:j<n)(ij:i≠j):okN n (g p i) (g p j):=by
 have pl:p.toList.Perm (List.range n):=h.toList
 have sz:=h.size
 have at_:∀k,k<n→p.toList[k]?=some (g p k):=fun k hk=>by
  rw[g_get,Array.getElem?_toList,Array.getElem?_eq_getElem (by omega)]
  rfl
 have aa:∀k,k<n→g p k<n:=fun k hk=>List.mem_range.mp (pl.mem_iff.mp (List.mem_of_getElem? (at_ k hk)))
 refine⟨aa i hi,aa j hj,fun z=>ij ?_⟩
 have nd:p.toList.Nodup:=pl.nodup_iff.mpr List.nodup_range
 have l1:i<p.toList.length:=by rw[Array.length_toList];omega
 have l2:j<p.toList.length:=by rw[Array.length_toList];omega
 have e1:=at_ i hi
 have e2:=at_ j hj
 rw[List.getElem?_eq_getElem l1] at e1
 rw[List.getElem?_eq_getElem l2] at e2
 rw[←z] at e2
 exact(List.getElem_inj nd).mp (Option.some.inj (e1.trans e2.symm))
theorem PR.inj{n:Nat}{p:Array Nat}(h:PR n p)(hk:∀i j,i<n→j<n→i≠j→key i≠key j):Inj key p:=fun i j hi hj ij=>by
 rw[h.size] at hi hj
 obtain⟨a,b,c⟩:=h.ok hi hj ij
 exact hk _ _ a b c
theorem zjn{n:Nat}{p:Array Nat}(h:PR n p):∀(f m:Nat),1≤m→m+f≤n→zgg (ltk key) (okN n) (kas_asc p f m)
 |0,m,_,_=>trivial
 |f+1,m,h1,hz=>by
  unfold kas_asc
  refine⟨h.ok (by omega) (by omega) (by omega),?_⟩
  show zgg _ _ (if ltk key (g p m) (g p (m-1))=true then _ else _)
  cases ltk key (g p m) (g p (m-1)) with
  |true=>exact trivial
  |false=>exact zjn h f (m+1) (by omega) (by omega)
theorem zlt{n:Nat}{p:Array Nat}(h:PR n p)(hI:Inj key p):∀(f m:Nat),1≤m→m+f≤n→zgg (ltk key) (okN n) (kas_desc f p m 0)
 |0,m,_,_=>trivial
 |f+1,m,h1,hz=>by
  unfold kas_desc
  refine⟨h.ok (by omega) (by omega) (by omega),?_⟩
  show zgg _ _ (if ltk key (g p m) (g p (m-1))=true then _ else _)
  by_cases c:key (g p m)<key (g p (m-1))
  ·rw[show ltk key (g p m) (g p (m-1))=true from decide_eq_true c,if_pos rfl,if_neg (Nat.lt_irrefl _)]
   exact zlt h hI f (m+1) (by omega) (by omega)
  ·rw[show ltk key (g p m) (g p (m-1))=false from decide_eq_false c,if_neg Bool.false_ne_true]
   have ne:=hI (m-1) m (by rw[h.size];omega) (by rw[h.size];omega) (by omega)
   refine⟨h.ok (by omega) (by omega) (by omega),?_⟩
   show zgg _ _ (if ltk key (g p (m-1)) (g p m)=true then _ else _)
   rw[show ltk key (g p (m-1)) (g p m)=true from decide_eq_true (by omega),if_pos rfl]
   trivial
theorem zhc{n:Nat}{p:Array Nat}{k:Nat}(h:PR n p)(kn:k<n):∀(f l r:Nat),r≤k→zgg (ltk key) (okN n) (kas_place p k f l r)
 |0,l,r,_=>trivial
 |f+1,l,r,rk=>by
  unfold kas_place
  by_cases c:l≥r
  ·rw[if_pos c]
   trivial
  ·rw[if_neg c]
   refine⟨h.ok kn (by omega) (by omega),?_⟩
   show zgg _ _ (if ltk key (g p k) (g p ((l+r)/2))=true then _ else _)
   cases ltk key (g p k) (g p ((l+r)/2)) with
   |true=>exact zhc h kn f l _ (by omega)
   |false=>exact zhc h kn f _ r rk
theorem zn8{n:Nat}:∀(f:Nat)(p:Array Nat)(k:Nat),PR n p→k+f=n→zgg (ltk key) (okN n) (kas_bin f p k)
 |0,p,k,_,_=>trivial
 |f+1,p,k,h,hk=>by
  unfold kas_bin
  exact zd5 _ (zhc h (by omega) k 0 k (Nat.le_refl _)) (zn8 f _ (k+1) (Array.Perm.trans (bubble_perm _ _ _) h) (by omega))
theorem zsh{n:Nat}(h1:1≤n)(hk:∀i j,i<n→j<n→i≠j→key i≠key j):zgg (ltk key) (okN n) (kas_sort n):=by
 have P0:PR n (List.range n).toArray:=Array.Perm.refl _
 have hI:=P0.inj hk
 have sz:=P0.size
 unfold kas_sort
 obtain⟨m,p,e,a,b,pm,z,u⟩:=zow (key:=key) sz h1 hI
 refine zd5 _ ?_ ?_
 ·unfold kas_count
  refine zd5 _ (zjn P0 (n-1) 1 (Nat.le_refl _) (by omega)) ?_
  obtain⟨a1,b1,u1,d1⟩:=zm9 (key:=key) (p:=(List.range n).toArray) (n-1) 1 (Nat.le_refl _) (fun i j ij jn=>by omega)
  generalize ev (ltk key) (kas_asc (List.range n).toArray (n-1) 1)=m at a1 b1 u1 d1
  by_cases c:m=n
  ·rw[if_pos (beq_iff_eq.mpr c)]
   trivial
  ·rw[if_neg (fun z=>c (beq_iff_eq.mp z))]
   by_cases c1:m>1
   ·rw[if_pos c1]
    refine⟨P0.ok (by omega) (by omega) (by omega),?_⟩
    have ne:=hI 0 (m-1) (by omega) (by omega) (by omega)
    have le:=u1 0 (m-1) (by omega) (by omega)
    show zgg _ _ (if ltk key (g (List.range n).toArray 0) (g (List.range n).toArray (m-1))=true then _ else _)
    rw[show ltk key (g (List.range n).toArray 0) (g (List.range n).toArray (m-1))=true from decide_eq_true (by omega),if_pos rfl]
    trivial
   ·rw[if_neg c1]
    have e1:m=1:=by omega
    subst e1
    have d:=d1 (by omega)
    unfold kas_descPart
    refine zd5 _ (zlt P0 hI _ _ (by omega) (by omega)) ?_
    obtain⟨m2,e2,a2,b2,w2⟩:=zmt hI (n-(1+1)) (1+1) (by omega) (by omega) (fun i j ij jn=>by
     have hi:i=0:=by omega
     have hj:j=1:=by omega
     rw[hi,hj]
     exact d)
    rw[e2]
    show zgg _ _ (if 0>0 then _ else kas_tail3 m2 n (List.range n).toArray)
    rw[if_neg (Nat.lt_irrefl _)]
    unfold kas_tail3
    exact zd5 _ (zjn (Array.Perm.trans (mirror_perm _ _ _ _) P0) _ _ (by omega) (by omega)) trivial
 ·rw[e]
  show zgg _ _ (if m<n then _ else _)
  by_cases c:m<n
  ·rw[if_pos c,show max m 1=m by omega]
   exact zn8 _ _ _ (Array.Perm.trans pm P0) (by omega)
  ·rw[if_neg c]
   trivial
end Kst
namespace Kst
open PySem PySem.W PyProof PyProof.Rows
section
variable {prog : Program} {w : World} {A : Around} {E : Value → Shared → Prop} {s : Shared}
def Tps(h:Heap)(rs:List Addr)(ks:List Int):Prop:=∀i r,rs[i]?=some r→∃o xs e t,h.get? r=some o∧o.cls=.type "tuple" ∧ o.data=.seq xs e∧xs[0]?=some (.int (ks.getD i 0) t)
theorem Tps.kat{h:Heap}:∀{rs:List Addr} {ks:List Int},rs.length=ks.length→Tps h rs ks→∃fs,KatTups h (rs.map Value.ref) fs∧fs.length=rs.length∧∀v∈fs,∃k t,v=Value.int k t
 |[],[],_,_=>⟨[],trivial,rfl,fun _ z=>nomatch z⟩
 |r::rs,k::ks,hl,ht=>by
  obtain⟨o,xs,e,t,h1,h2,h3,h4⟩:=ht 0 r rfl
  obtain⟨fs,a,b,c⟩:=Tps.kat (rs:=rs) (ks:=ks) (Nat.succ.inj hl) (fun i r' hr=>by
   obtain⟨o,xs,e,t,q⟩:=ht (i+1) r' hr
   exact⟨o,xs,e,t,q⟩)
  refine⟨_::fs,⟨⟨r,o,xs,e,rfl,h1,h2,h3,h4⟩,a⟩,congrArg Nat.succ b,fun v hv=>?_⟩
  rcases List.mem_cons.mp hv with z|z
  ·exact⟨_,_,z⟩
  ·exact c v z
theorem zv2{rs:List Addr}{ks:List Int}{i j:Nat}{C:Bool→Shared→Prop}(ht:Tps s.heap rs ks)(hi:i<rs.length)(hj:j<rs.length)(ne:ks.getD i 0≠ks.getD j 0)(h:C (ltk (fun i=>ks.getD i 0) i j) s):kas_cmp prog w A (tuples' true) (pairsOf (rs.map Value.ref)) i j C s:=by
 unfold kas_cmp
 rw[kas_item_eq,kas_item_eq]
 have at_:∀k (hk:k<rs.length),(rs.map Value.ref).getD k Value.none=.ref rs[k]:=fun k hk=>by
  rw[List.getD_eq_getElem?_getD,List.getElem?_map,List.getElem?_eq_getElem hk]
  rfl
 show wpAny _ A (keyLt' (tuples' true) ((rs.map Value.ref).getD i Value.none) ((rs.map Value.ref).getD j Value.none)) _ _ _
 rw[at_ i hi,at_ j hj]
 obtain⟨o,xs,e,t,h1,h2,h3,h4⟩:=ht i rs[i] (List.getElem?_eq_getElem hi)
 obtain⟨o',aa,e',t',g1,g2,g3,g4⟩:=ht j rs[j] (List.getElem?_eq_getElem hj)
 refine kat_lt h1 h3 g1 g3 ?_
 obtain⟨l,hl⟩:∃l,xs.toList=.int (ks.getD i 0) t::l:=by
  have:=h4
  rw[←Array.getElem?_toList] at this
  cases q:xs.toList with
  |nil=>rw[q] at this;cases this
  |cons a r=>rw[q] at this;cases this;exact⟨r,rfl⟩
 obtain⟨l',ad⟩:∃l,aa.toList=.int (ks.getD j 0) t'::l:=by
  have:=g4
  rw[←Array.getElem?_toList] at this
  cases q:aa.toList with
  |nil=>rw[q] at this;cases this
  |cons a r=>rw[q] at this;cases this;exact⟨r,rfl⟩
 rw[hl,ad]
 show KatLex prog w A true _ C ((.int (ks.getD i 0) t,.int (ks.getD j 0) t')::l.zip l') 0 s
 refine kat_cons (wpAny_eqBool_int ?_)
 rw[show(ks.getD i 0==ks.getD j 0)=false from beq_eq_false_iff_ne.mpr ne]
 exact kat_no (oneLt_int h)
theorem zs6{a:Addr}{rs:List Addr}{ks:List Int}{n:Nat}{P:PySem.Fin→Shared→Prop}(o0:s.heap.get? a=some (seqObj "list" (rs.map Value.ref).toArray n))(hl:rs.length=ks.length)(hz:rs.length<64)(ht:Tps s.heap rs ks)(hna:∀r∈rs,r≠a)
  (hk:∀i j,i<rs.length→j<rs.length→i≠j→ks.getD i 0≠ks.getD j 0)
  (h:∀p:Array Nat,PR rs.length p→Up (fun i=>ks.getD i 0) p rs.length→P (.done (.ret .none)) { s with heap:=sortedHeap s.heap a (rs.map Value.ref) (p.map fun i=>(rs.map Value.ref).getD i Value.none) }):
  wpAny (model prog w) A (Builtin.«list.sort» ⟨[.ref a],[]⟩) P E s:=by
 rw[list_sort_plain]
 have lz:(rs.map Value.ref).length=rs.length:=List.length_map _
 have ad:(rs.map Value.ref).length≤sizeLine:=by rw[lz,sizeLine_eq];omega
 have la:a<s.heap.objs.size:=Heap.lt_size o0
 obtain⟨e1,o1⟩:∃e,(s.heap.update a (Obj.mapSeq fun _=>#[])).get? a=some (seqObj "list" #[] e):=⟨_,get?_update_seq o0 _⟩
 have o6:(((s.heap.update a (Obj.mapSeq fun _=>#[])).push (seqObj "tuple" (rs.map Value.ref).toArray 0)).push (seqObj "list" #[] 0)).get? a=some (seqObj "list" #[] e1):=by
  rwa [Heap.get?_push_ne _ _ _ (by rw[size_push',Heap.size_update];exact Nat.ne_of_lt (Nat.lt_succ_of_lt la)),Heap.get?_push_ne _ _ _ (by rw[Heap.size_update];exact Nat.ne_of_lt la)]
 have t6:Tps (((s.heap.update a (Obj.mapSeq fun _=>#[])).push (seqObj "tuple" (rs.map Value.ref).toArray 0)).push (seqObj "list" #[] 0)) rs ks:=fun i r hr=>by
  obtain⟨o,xs,e,t,h1,q⟩:=ht i r hr
  refine⟨o,xs,e,t,Heap.get?_push_of_some _ (Heap.get?_push_of_some _ ?_),q⟩
  rw[Heap.get?_update_ne _ _ _ _ (hna r (List.mem_of_getElem? hr))]
  exact h1
 refine wpAny_bind (listItems_at o0 rfl (wpAny_bind (listUpdate_at o0 rfl ?_ (by rw[List.size_toArray];exact ad) (Nat.zero_le _))))
 refine wpAny_bind (seqEpoch_at o1 rfl (wpAny_bind (wpAny_newTuple (wpAny_bind (wpAny_newList (wpAny_holding ?_))))))
 have er:(List.range rs.length).toArray.map (kas_item (pairsOf (rs.map Value.ref)))=pairsOf (rs.map Value.ref):=by
  have:=kas_range (pairsOf (rs.map Value.ref))
  rw[pairsOf_size,lz] at this
  exact this
 have sn:∀p:Array Nat,(p.map (kas_item (pairsOf (rs.map Value.ref)))).map (·.2)=p.map fun i=>(rs.map Value.ref).getD i Value.none:=fun p=>by
  rw[Array.map_map]
  refine congrArg (fun f=>Array.map f p) (funext fun i=>?_)
  show(kas_item (pairsOf (rs.map Value.ref)) i).2=_
  rw[kas_item_eq]
 by_cases c:(rs.map Value.ref).toArray.size<2
 ·rw[if_pos c,if_pos c]
  refine wpAny_bind (wpAny_pure (wpAny_bind (wpAny_pure ?_)))
  refine wpAny_bind (seqEpoch_at o6 rfl (wpAny_bind (listUpdate_at o6 rfl ?_ (Nat.zero_le _) ?_)))
  ·simp only[bne_self_eq_false,Bool.false_eq_true,if_false]
   rw[List.size_toArray,lz] at c
   have:=h (List.range rs.length).toArray (Array.Perm.refl _) (fun i j ij jn=>by omega)
   rw[←sn,er] at this
   exact wpAny_pure this
  ·rw[Array.size_map]
   show(pairsOf (rs.map Value.ref)).size≤_
   rw[pairsOf_size]
   exact Nat.le_succ_of_le ad
 ·rw[if_neg c,if_neg c]
  rw[List.size_toArray,lz] at c
  obtain⟨fs,kt,fl,fi⟩:=Tps.kat hl t6
  refine wpAny_bind (kat_kind (T:=.type "int") kt (by omega) (fun v hv=>by
   obtain⟨k,t,rfl⟩:=fi v hv
   exact .now) rfl ?_)
  have af:SortSt.mk' (tuples' true) (pairsOf (rs.map Value.ref)) #[] 7 none=kas_st (tuples' true) (pairsOf (rs.map Value.ref)) (List.range rs.length).toArray:=by
   unfold kas_st
   rw[er]
  have ae:=kas_runs (prog:=prog) (w:=w) (A:=A) (E:=E) (κ:=tuples' true) (it:=pairsOf (rs.map Value.ref)) (n:=rs.length) (s:={ s with heap:=((s.heap.update a (Obj.mapSeq fun _=>#[])).push (seqObj "tuple" (rs.map Value.ref).toArray 0)).push (seqObj "list" #[] 0) })
   (Q:=fun _ aa s'=>s'={ s with heap:=((s.heap.update a (Obj.mapSeq fun _=>#[])).push (seqObj "tuple" (rs.map Value.ref).toArray 0)).push (seqObj "list" #[] 0) }∧failedOf aa=none∧∃p,arrOf aa=p.map (kas_item (pairsOf (rs.map Value.ref)))∧PR rs.length p∧Up (fun i=>ks.getD i 0) p rs.length)
   (G:=fun p s'=>s'={ s with heap:=((s.heap.update a (Obj.mapSeq fun _=>#[])).push (seqObj "tuple" (rs.map Value.ref).toArray 0)).push (seqObj "list" #[] 0) }∧PR rs.length p∧Up (fun i=>ks.getD i 0) p rs.length)
   (by omega) hz (fun p aa s' z1 z2 z3 z4=>⟨z4.1,z3,p,z2,z4.2⟩)
   (zwo (lt:=ltk fun i=>ks.getD i 0) (ok:=okN rs.length) (fun i j C ok hC=>zv2 t6 ok.1 ok.2.1 (hk i j ok.1 ok.2.1 ok.2.2) hC) _ (zsh (by omega) hk) ⟨rfl,zv5 (by omega) hk⟩)
  rw[←af] at ae
  refine wpAny_bind (wpAny_mono ae ?_ fun _ _ e=>e)
  rintro⟨u,aa⟩ s' ⟨rfl,b2,p,b3,b4,b5⟩
  have e3:(arrOf aa).map (·.2)=p.map fun i=>(rs.map Value.ref).getD i Value.none:=by rw[b3,sn]
  refine wpAny_bind (seqEpoch_at o6 rfl (wpAny_bind (listUpdate_at o6 rfl ?_ (Nat.zero_le _) ?_)))
  ·rw[b2]
   simp only[bne_self_eq_false,Bool.false_eq_true,if_false]
   have:=h p b4 b5
   rw[←e3] at this
   exact wpAny_pure this
  ·rw[e3,Array.size_map,b4.size]
   rw[lz] at ad
   exact Nat.le_succ_of_le ad
theorem sorted_tups{l:Addr}{rs:List Addr}{ks:List Int}{Q:Value→Shared→Prop}(hl:s.heap.IsList l (rs.map Value.ref).toArray)(hlk:rs.length=ks.length)(hz:rs.length<64)(ht:Tps s.heap rs ks)(hk:∀i j,i<rs.length→j<rs.length→i≠j→ks.getD i 0≠ks.getD j 0)
  (h:∀p:Array Nat,PR rs.length p→Up (fun i=>ks.getD i 0) p rs.length→Q (.ref (s.heap.objs.size+1)) { s with heap:=sortedAll s.heap (rs.map Value.ref) (p.map fun i=>(rs.map Value.ref).getD i Value.none) }):
  wpAny (model prog w) A (call (.builtin "sorted") [.ref l]) Q E s:=by
 have lz:(rs.map Value.ref).length=rs.length:=List.length_map _
 have ad:(rs.map Value.ref).length≤sizeLine:=by rw[lz,sizeLine_eq];omega
 have ez:((s.heap.push (seqObj "list" #[] 0)).update s.heap.objs.size (Obj.mapSeq (·++(rs.map Value.ref).toArray))).objs.size=s.heap.objs.size+1:=by rw[Heap.size_update,size_push']
 have oL:(((s.heap.push (seqObj "list" #[] 0)).update s.heap.objs.size (Obj.mapSeq (·++(rs.map Value.ref).toArray))).push (seqObj "list" (rs.map Value.ref).toArray 0)).get? (s.heap.objs.size+1)=some (seqObj "list" (rs.map Value.ref).toArray 0):=by
  rw[←ez];exact Heap.get?_push_size _ rfl
 have aa:∀r∈rs,r<s.heap.objs.size:=fun r hr=>by
  obtain⟨i,hi⟩:=List.getElem?_of_mem hr
  obtain⟨o,xs,e,t,h1,_⟩:=ht i r hi
  exact Heap.lt_size h1
 have t2:Tps (((s.heap.push (seqObj "list" #[] 0)).update s.heap.objs.size (Obj.mapSeq (·++(rs.map Value.ref).toArray))).push (seqObj "list" (rs.map Value.ref).toArray 0)) rs ks:=fun i r hr=>by
  obtain⟨o,xs,e,t,h1,q⟩:=ht i r hr
  refine⟨o,xs,e,t,Heap.get?_push_of_some _ ?_,q⟩
  rw[Heap.get?_update_ne _ _ _ _ (Nat.ne_of_lt (aa r (List.mem_of_getElem? hr)))]
  exact Heap.get?_push_of_some _ h1
 refine Calls.call_function_entry kind_sorted plain_sorted entry_sorted (args_sorted1 _) (wpAny_bind (m:=checkCount "sorted" 1 1 _) (wpAny_pure (wpAny_bind (collect_list hl ?_ ad))))
 refine wpAny_bind (wpAny_newList ?_)
 rw[ez]
 refine wpAny_bind (wpAny_holding (wpAny_call_entry slot_list_sort ⟨_,oL,rfl⟩ entry_list_sort (zs6 oL hlk hz t2 (fun r hr=>Nat.ne_of_lt (Nat.lt_succ_of_lt (aa r hr))) hk fun p b1 b2=>⟨_,rfl,?_⟩) (args_list_sort _)))
 exact wpAny_pure ⟨_,rfl,h p b1 b2⟩
end
end Kst
namespace L2
open PySem PySem.Spec PyProof.Rows
variable {X : Cx}
structure zt4(H:Hp)(es:List (Int×Addr)):Prop where
 at_:∀e∈es,∃r,H e.2=some (.tup (.int e.1::r))
 nd:(es.map (·.1)).Nodup
theorem zhs{K:PySem.W.Frag}(hK:X.K=K:=by rfl):zef X (.builtin "sorted") (fun xs H Q=>∃(p:Addr)(es:List (Int×Addr)),xs=[.ref p]∧SqL K H p (es.map fun e=>V.ref e.2)∧zt4 H es∧es.length<64∧∀es':List (Int×Addr),es'.Perm es→(es'.map (·.1)).Pairwise (·<·)→∀l,H l=none→Q (.ref l) (upd H l (.lst (es'.map fun e=>V.ref e.2)))):=by
 subst hK
 intro pins s σ H xs us Q I r h
 obtain⟨p,es,rfl,hq,T,hz,q⟩:=h
 obtain⟨u,rfl,rx⟩:=ze7 r
 cases rx
 obtain⟨ad,rv,pl,af⟩:=I.list hq
 have ei:ad=(es.map (·.2)).map Value.ref:=by
  refine List.ext_getElem? fun i=>?_
  rw[List.getElem?_map,List.getElem?_map]
  have aa:=rv.length
  rw[List.length_map] at aa
  cases e:es[i]? with
  |none=>
   rw[List.getElem?_eq_none (by rw[←aa];exact List.getElem?_eq_none_iff.mp e)]
   rfl
  |some x=>
   obtain⟨u,hu,ru⟩:=rv.get (i:=i) (x:=V.ref x.2) (by rw[List.getElem?_map,e];rfl)
   rw[hu]
   cases(show u=Value.ref x.2 from ru)
   rfl
 subst ei
 have g1:∀i e,es[i]?=some e→(es.map (·.1)).getD i 0=e.1:=fun i e h=>by rw[List.getD_eq_getElem?_getD,List.getElem?_map,h];rfl
 have ln:(es.map (·.2)).length=es.length:=List.length_map _
 have nd:∀i j,i<(es.map (·.2)).length→j<(es.map (·.2)).length→i≠j→(es.map (·.1)).getD i 0≠(es.map (·.1)).getD j 0:=fun i j hi hj ij z=>ij (by
  rw[ln] at hi hj
  have a:(es.map (·.1))[i]'(by rw[List.length_map];exact hi)=(es.map (·.1))[j]'(by rw[List.length_map];exact hj):=by
   rw[g1 i _ (List.getElem?_eq_getElem hi),g1 j _ (List.getElem?_eq_getElem hj)] at z
   rw[List.getElem_map,List.getElem_map]
   exact z
  exact(List.getElem_inj T.nd).mp a)
 refine Kst.sorted_tups pl.isList (ks:=es.map (·.1)) (by rw[List.length_map,List.length_map]) (by rw[ln];exact hz) (fun i r hr=>?_) nd (fun pm b1 b2=>?_)
 ·rw[List.getElem?_map] at hr
  obtain⟨e,he,rfl⟩:=Option.map_eq_some_iff.mp hr
  obtain⟨r,hH⟩:=T.at_ e (List.mem_of_getElem? he)
  obtain⟨ad,rv,⟨o,e1,e2,n,e3⟩,_⟩:=I.tuple (.inl (.inl hH))
  obtain⟨u,hu,ru⟩:=rv.get (i:=0) (x:=V.int e.1) rfl
  obtain⟨t,rfl⟩:=ru
  exact⟨o,ad.toArray,n,t,e1,e2,e3,by rw[List.getElem?_toArray,hu,g1 i e he]⟩
 ·have sz:=b1.size
  rw[ln] at sz
  have lt:∀i∈pm.toList,i<es.length:=fun i hi=>by
   have:=List.mem_range.mp ((show pm.toList.Perm _ from b1.toList).mem_iff.mp hi)
   rw[ln] at this
   exact this
  have pe:(pm.toList.map fun i=>es.getD i (0,0)).Perm es:=by
   have a:=(show pm.toList.Perm _ from b1.toList).map fun i=>es.getD i (0,0)
   refine a.trans (List.Perm.of_eq ?_)
   refine List.ext_getElem? fun i=>?_
   show((List.range (es.map (·.2)).length).map fun i=>es.getD i (0,0))[i]?=_
   rw[List.getElem?_map,ln]
   by_cases c:i<es.length
   ·rw[List.getElem?_range c,List.getElem?_eq_getElem c]
    show some (es.getD i (0,0))=_
    rw[List.getD_eq_getElem?_getD,List.getElem?_eq_getElem c]
    rfl
   ·rw[List.getElem?_eq_none (by rw[List.length_range];omega),List.getElem?_eq_none (by omega)]
    rfl
  have kk:∀i,(es.map (·.1)).getD i 0=(es.getD i (0,0)).1:=fun i=>by
   rw[List.getD_eq_getElem?_getD,List.getD_eq_getElem?_getD,List.getElem?_map]
   cases es[i]?<;>rfl
  have pw:((pm.toList.map fun i=>es.getD i (0,0)).map (·.1)).Pairwise (·<·):=by
   have ae:((pm.toList.map fun i=>es.getD i (0,0)).map (·.1)).Nodup:=(pe.map (·.1)).nodup_iff.mpr T.nd
   rw[List.pairwise_iff_getElem]
   intro i j hi hj ij
   have li:i<pm.toList.length:=by simpa using hi
   have lj:j<pm.toList.length:=by simpa using hj
   have gg:∀k (hk:k<pm.toList.length),Kst.g pm k=pm.toList[k]:=fun k hk=>by
    rw[Kst.g_get,Array.getElem?_eq_getElem (by rw[Array.length_toList] at hk;exact hk)]
    simp
   have le:=b2 i j ij (by rw[ln];rw[Array.length_toList] at lj;omega)
   dsimp only at le
   rw[gg i li,gg j lj,kk,kk] at le
   have ne:((pm.toList.map fun i=>es.getD i (0,0)).map (·.1))[i]≠((pm.toList.map fun i=>es.getD i (0,0)).map (·.1))[j]:=fun z=>absurd ((List.getElem_inj ae).mp z) (Nat.ne_of_lt ij)
   rw[List.getElem_map,List.getElem_map,List.getElem_map,List.getElem_map] at ne ⊢
   omega
  obtain⟨e,he⟩:=sortedAll_at s.heap ((es.map (·.2)).map Value.ref) (pm.map fun i=>((es.map (·.2)).map Value.ref).getD i Value.none)
  have vl:Vals ((pm.toList.map fun i=>es.getD i (0,0)).map fun e=>V.ref e.2) (pm.map fun i=>((es.map (·.2)).map Value.ref).getD i Value.none).toList:=by
   rw[Array.toList_map,List.map_map]
   have go:∀l:List Nat,(∀i∈l,i<es.length)→Vals (l.map ((fun e:Int×Addr=>V.ref e.2)∘fun i=>es.getD i (0,0))) (l.map fun i=>((es.map (·.2)).map Value.ref).getD i Value.none):=by
    intro l
    induction l with
    |nil=>intro _;exact .nil
    |cons i r ih=>
     intro h
     refine .cons ?_ (ih fun j hj=>h j (List.mem_cons_of_mem _ hj))
     have il:=h i List.mem_cons_self
     show((es.map (·.2)).map Value.ref).getD i Value.none=Value.ref (es.getD i (0,0)).2
     rw[List.getD_eq_getElem?_getD,List.getD_eq_getElem?_getD,List.getElem?_map,List.getElem?_map,List.getElem?_eq_getElem il]
     rfl
   exact go _ lt
  refine⟨.ref (s.heap.objs.size+1),_,I.laid (t':=s.toks) (fun b o=>sortedAll_old) (Nat.le_succ _) (show ObjOk X.prog X.w _ _ _ (.lst ((pm.toList.map fun i=>es.getD i (0,0)).map fun e=>V.ref e.2)) from⟨?_,(pm.map fun i=>((es.map (·.2)).map Value.ref).getD i Value.none).toList,e,vl,he⟩),rfl,q _ pe pw _ (I.hok.fresh (Nat.le_succ _))⟩
  rw[List.length_map,List.length_map,Array.length_toList,sz]
  exact Nat.le_of_lt (zbi (by omega))
end L2
namespace Wd
open PySem L2 Ow
def zbr(ps:List (Nat×Bool))(p:Nat×Bool):List (Nat×Bool):=ps.filter fun q=>!decide (q=p)
def zqt:Sp:=fun vs H Q _=>∃(l tp:Addr)(ps:List (Nat×Bool))(p:Nat×Bool),vs=[.ref l,.ref tp]∧PicksAt H l ps∧H tp=some (.tup [.int (p.1:Int),.bl p.2])∧∀(l':Addr)(H':Hp),Same H H'→H l'=none→PicksAt H' l' (zbr ps p)→Q (.ref l') H'
theorem zhp{H:Hp}{t:Addr}{p:Nat×Bool}(h:H t=some (.tup [.int (p.1:Int),.bl p.2])):Dn H (za9 p) (.ref t):=⟨t,_,rfl,h,_,_,rfl,rfl,_,_,rfl,rfl,rfl⟩
theorem PicksAt.snoc{H H':Hp}{l l' tp:Addr}{ps:List (Nat×Bool)}{p:Nat×Bool}{xs:List V}(h:PicksAt H l ps)(hx:H l=some (.lst xs))(few:ps.length<20)(pl:p.1≤20)(ht:H tp=some (.tup [.int (p.1:Int),.bl p.2]))(s:Same H H')(hl:H' l'=some (.lst (xs++[.ref tp]))):PicksAt H' l' (ps++[p]):=by
 obtain⟨ys,h1,h2⟩:=h.ex
 rw[hx] at h1
 cases h1
 refine⟨⟨_,hl,(PickL.snoc ht h2).same (Same.tup s)⟩,by rw[List.length_append];simp only[List.length_cons,List.length_nil];omega,fun q hq=>?_⟩
 rcases List.mem_append.mp hq with z|z
 ·exact h.le q z
 ·rw[List.mem_singleton.mp z]
  exact pl
def lpk(ts:List Tie)(il:List Nat)(m:Nat)(a:Nat×Bool):List (Nat×Bool)→List (Nat×Bool)→List (Nat×Bool)
 |[],left=>left
 |p::r,left=>if zcf ts il m (zaj (zbr left p++[a])) (zao (zbr left p++[a]))=true then lpk ts il m a r (zbr left p) else lpk ts il m a r left
theorem zjo{ts:List Tie}{il:List Nat}{m:Nat}{a p:Nat×Bool}:∀(r left:List (Nat×Bool)),lpk ts il m a (r++[p]) left=if zcf ts il m (zaj (zbr (lpk ts il m a r left) p++[a])) (zao (zbr (lpk ts il m a r left) p++[a]))=true then zbr (lpk ts il m a r left) p else lpk ts il m a r left
 |[],left=>rfl
 |q::r,left=>by
  have e:∀r',lpk ts il m a (q::r') left=if zcf ts il m (zaj (zbr left q++[a])) (zao (zbr left q++[a]))=true then lpk ts il m a r' (zbr left q) else lpk ts il m a r' left:=fun _=>rfl
  show lpk ts il m a (q::(r++[p])) left=_
  rw[e,e]
  by_cases c:zcf ts il m (zaj (zbr left q++[a])) (zao (zbr left q++[a]))=true
  ·rw[if_pos c,if_pos c]
   exact zjo r _
  ·rw[if_neg c,if_neg c]
   exact zjo r _
theorem zdz{ts:List Tie}{il:List Nat}{m:Nat}{a:Nat×Bool}:∀(r left:List (Nat×Bool)),(lpk ts il m a r left).Sublist left
 |[],left=>List.Sublist.refl _
 |q::r,left=>by
  unfold lpk
  split
  ·exact(zdz r _).trans List.filter_sublist
  ·exact zdz r left
def zuw:Sp:=fun vs H Q _=>∃(wd tl l tp:Addr)(m:Nat)(ts:List Tie)(il:List Nat)(ps:List (Nat×Bool))(p:Nat×Bool),vs=[.ref wd,.ref tl,.ref l,.ref tp]∧WoodT H wd m ts∧m≤9∧H tl=some (.lst (zam il))∧(∀i∈il,i<ts.length)∧PicksAt H l ps∧ps.length≤19∧H tp=some (.tup [.int (p.1:Int),.bl p.2])∧p.1≤20 ∧
 ∀(l':Addr)(H':Hp),Same H H'→PicksAt H' l' (lpk ts il m p ps ps)→Q (.ref l') H'
structure zmj(H:Hp)(ol:Addr)(ts:List Tie)(il:List Nat)(m:Nat)(a:Nat×Bool)(left:List (Nat×Bool)):Prop where
 ex:∃xs,H ol=some (.lst xs)∧xs.length=left.length∧∀(j:Nat) p,left[j]?=some p→∃q t,xs[j]?=some (.ref q)∧H q=some (.tup [.ref t,zhx (zbg ts il m 9 (zaj (zbr left p++[a])) (zao (zbr left p++[a])))])∧H t=some (.tup [.int (p.1:Int),.bl p.2])
def znc:Sp:=fun vs H Q _=>∃(wd tl l tp:Addr)(m:Nat)(ts:List Tie)(il:List Nat)(ps:List (Nat×Bool))(p:Nat×Bool),vs=[.ref wd,.ref tl,.ref l,.ref tp]∧WoodT H wd m ts∧m≤9∧H tl=some (.lst (zam il))∧(∀i∈il,i<ts.length)∧PicksAt H l ps∧ps.length≤19∧H tp=some (.tup [.int (p.1:Int),.bl p.2])∧p.1≤20 ∧
 ∀(ol:Addr)(H':Hp),Same H H'→H ol=none→zmj H' ol ts il m p ps→Q (.ref ol) H'
theorem SameX.freshW{pen:Addr}{H H1 H':Hp}{ys:List V}(s0:Same H H1)(n:H pen=none)(hp:H1 pen=some (.lst ys))(s:SameX pen H1 H'):Same H H':=fun b o h=>by
 have ne:b≠pen:=zat h n
 have z:=s0 b o h
 cases o
 case tbl ps=>
  obtain⟨⟨qs,hq⟩,k⟩:=z
  have y:=s b _ ne hq
  exact⟨y.1,fun t=>(y.2 (k t) ⟨_,hp⟩).1⟩
 all_goals exact s b _ ne z
def zb7(H:Hp)(a:Addr):Nat×Bool:=match H a with
 |some (.tup [.int k,.bl b])=>(k.toNat,b)
 |_=>(0,false)
theorem zr9{H:Hp}{a:Addr}{p:Nat×Bool}(h:H a=some (.tup [.int (p.1:Int),.bl p.2])):zb7 H a=p:=by
 unfold zb7
 rw[h]
 rfl
theorem PickL.es{H:Hp}:∀{ps:List (Nat×Bool)} {xs:List V},PickL H ps xs→∃es:List (Int×Addr),xs=es.map (fun e=>V.ref e.2)∧es.map (·.1)=ps.map (fun p=>((p.1:Nat):Int))∧es.map (fun e=>zb7 H e.2)=ps∧∀e∈es,H e.2=some (.tup [.int e.1,.bl (zb7 H e.2).2])∧e.1=(((zb7 H e.2).1:Nat):Int)
 |[],xs,h=>⟨[],by rw[show xs=[] from h];rfl,rfl,rfl,fun _ z=>nomatch z⟩
 |p::ps,xs,⟨t,r,e,ht,q⟩=>by
  obtain⟨es,e1,e2,e3,e4⟩:=PickL.es q
  have hp:=zr9 ht
  refine⟨((p.1:Int),t)::es,by rw[e,e1];rfl,by rw[List.map_cons,List.map_cons,e2],by rw[List.map_cons,e3,hp],fun x hx=>?_⟩
  rcases List.mem_cons.mp hx with rfl|z
  ·exact⟨by rw[hp];exact ht,by rw[hp]⟩
  ·exact e4 x z
theorem PickL.of_es{H:Hp}:∀(es:List (Int×Addr)),(∀e∈es,H e.2=some (.tup [.int e.1,.bl (zb7 H e.2).2])∧e.1=(((zb7 H e.2).1:Nat):Int))→PickL H (es.map fun e=>zb7 H e.2) (es.map fun e=>V.ref e.2)
 |[],_=>rfl
 |e::es,h=>⟨e.2,es.map fun e=>V.ref e.2,rfl,by rw[(h e List.mem_cons_self).1,(h e List.mem_cons_self).2],PickL.of_es es fun x hx=>h x (List.mem_cons_of_mem _ hx)⟩
structure zoh(ps' ps:List (Nat×Bool)):Prop where
 pm:ps'.Perm ps
 up:(ps'.map (·.1)).Pairwise (·<·)
def zdv(ts:List Tie)(il:List Nat)(m:Nat)(ps':List (Nat×Bool))(p:Nat×Bool):List (Nat×Bool):=lpk ts il m p ps' ps'
structure zwy(H:Hp)(v:V)(ts:List Tie)(m:Nat)(il:List Nat)(ps':List (Nat×Bool))(p:Nat×Bool):Prop where
 ex:∃(q lf lp ol o1 o2:Addr)(tv:V)(xs ys:List V),v=.ref q∧H q=some (.tup [.ref lf,.ref lp,tv,.ref ol])∧H lf=some (.lst (zam il))∧PicksAt H lp (zdv ts il m ps' p)∧Dn H (zc9 ts il m 9 (zaj (zdv ts il m ps' p++[p])) (zao (zdv ts il m ps' p++[p]))).toD tv ∧
  zqp H o1 ts m (zaj (zdv ts il m ps' p++[p])) (zao (zdv ts il m ps' p++[p])) il∧zmj H o2 ts il m p (zdv ts il m ps' p)∧H o1=some (.lst xs)∧H o2=some (.lst ys)∧H ol=some (.lst (xs++ys))
def zxr:Sp:=fun vs H Q _=>∃(wd pl tp:Addr)(m:Nat)(ts:List Tie)(ps:List (Nat×Bool))(p:Nat×Bool),vs=[.ref wd,.ref pl,.ref tp]∧WoodT H wd m ts∧ts.length≤800∧m≤9∧PicksAt H pl ps∧ps.length≤19∧(ps.map (·.1)).Nodup∧H tp=some (.tup [.int (p.1:Int),.bl p.2])∧p.1≤20 ∧
 ∀(v:V)(H':Hp)(ps':List (Nat×Bool)),zoh ps' ps→Same H H'→zwy H' v ts m (zb2 ts m (zaj (ps++[p])) (zao (ps++[p]))) ps' p→Q v H'
def zyn(C:Addr):Sp:=fun vs H Q _=>∃(c dx wd pl:Addr)(m:Nat)(ts:List Tie)(ps:List (Nat×Bool))(k:Nat)(b:Bool),vs=[.ref c,.int (k:Int),.bl b]∧H c=some (.ins C dx (chF wd pl))∧PicksAt H pl ps∧WoodT H wd m ts∧m≤9∧1≤m∧ts.length≤800∧PickOk m ps ∧
 k∈zaz m (zaj ps) (zao ps) ∧
 ∀(v:V)(H':Hp),Same H H'→(zch ts m (zaj (ps++[(k,b)])) (zao (ps++[(k,b)]))=true→v=.non) →
  (zch ts m (zaj (ps++[(k,b)])) (zao (ps++[(k,b)]))=false→∃ps',zoh ps' ps∧zwy H' v ts m (zb2 ts m (zaj (ps++[(k,b)])) (zao (ps++[(k,b)]))) ps' (k,b))→Q v H'
def zth(K:PySem.W.Frag)(C:Addr):Sp:=fun vs H Q _=>∃(pen sp:Addr)(ns:List Int)(k:Int)(c dx wd pl lb:Addr)(m:Nat)(ts:List Tie),vs=[.ref pen,.ref c,.ref lb,.int (m:Int)]∧(∀k' H',KeepA [pen,c,pl] H H'→H' pen=some (.lst [.ref sp,.int k'])→Pen K H' pen sp ns k')∧H pen=some (.lst [.ref sp,.int k])∧0≤k∧k≤900000 ∧
 H c=some (.ins C dx (chF wd pl))∧PicksAt H pl []∧lb≠pl∧(∀H',zcp H H'→WoodT H' wd m ts)∧H lb=some (.lst (zam (brN m ts)))∧lb≠pen∧1≤m∧m≤9∧(∃s,s<2^m∧InS (zaj []) (zao []) s∧zbh ts s=true) ∧
 ∀(lc pl':Addr)(ps:List (Nat×Bool))(k':Int)(H':Hp),KeepA [pen,c,pl] H H'→zcp H H'→H' pen=some (.lst [.ref sp,.int k'])→k≤k'→k'≤k+60→H' c=some (.ins C dx (chF wd pl'))→PicksAt H' pl' ps→PicksAt H' lc ps→lc≠pl'→(pl'=pl∨H pl'=none)→H lc=none→PickOk m ps→(∃s,s<2^m∧InS (zaj ps) (zao ps) s∧zbh ts s=true)→Q (.ref lc) H'
theorem zuu{ps:List (Nat×Bool)}{k s:Nat}(h:InS (zaj ps) (zao ps) s):InS (zaj (ps++[(k,s.testBit k)])) (zao (ps++[(k,s.testBit k)])) s:=by
 refine⟨fun j hj=>?_,fun j hj=>?_⟩
 ·rcases(zbn _ j).mp hj with z|z
  ·exact h.1 j ((zbn _ j).mpr (.inl z))
  ·rcases List.mem_append.mp z with z|z
   ·exact h.1 j ((zbn _ j).mpr (.inr z))
   ·have z:=List.mem_singleton.mp z
    injection z with z1 z2
    rw[z1]
    exact z2.symm
 ·have z:=(zco _ j).mp hj
  rcases List.mem_append.mp z with z|z
  ·exact h.2 j ((zco _ j).mpr z)
  ·have z:=List.mem_singleton.mp z
   injection z with z1 z2
   rw[z1]
   exact z2.symm
theorem zp6{ts:List Tie}{m k:Nat}{b:Bool}{ps:List (Nat×Bool)}(w:∃s,s<2^m∧InS (zaj ps) (zao ps) s∧zbh ts s=true)(h:zch ts m (zaj (ps++[(k,b)])) (zao (ps++[(k,b)]))=false):zch ts m (zaj (ps++[(k,!b)])) (zao (ps++[(k,!b)]))=true:=by
 obtain⟨s,h1,h2,h3⟩:=w
 have e:=leadP_iff.mpr ⟨s,h1,zuu (k:=k) h2,h3⟩
 by_cases z:s.testBit k=b
 ·rw[z,h] at e;cases e
 ·rwa [show s.testBit k=!b by cases b<;>cases y:s.testBit k<;>simp_all] at e
theorem zv7(ps:List (Nat×Bool))(k:Nat):k∉(woP ps k).map (·.1):=fun h=>by
 obtain⟨p,hp,e⟩:=List.mem_map.mp h
 have:=(List.mem_filter.mp hp).2
 have e:p.1=k:=e
 simp[e] at this
theorem zt9{ps qs:List (Nat×Bool)}(h:∀p,p∈ps↔p∈qs):zaj ps=zaj qs:=Nat.eq_of_testBit_eq fun k=>by
 rw[Bool.eq_iff_iff,zbn,zbn,h]
theorem zv6{ps qs:List (Nat×Bool)}(h:∀p,p∈ps↔p∈qs):zao ps=zao qs:=Nat.eq_of_testBit_eq fun k=>by
 rw[Bool.eq_iff_iff,zco,zco,h]
theorem zmw{ts:List Tie}{il:List Nat}{m:Nat}{a:Nat×Bool}:∀(r left:List (Nat×Bool)),zcf ts il m (zaj (left++[a])) (zao (left++[a]))=true→zcf ts il m (zaj (lpk ts il m a r left++[a])) (zao (lpk ts il m a r left++[a]))=true
 |[],_,h=>h
 |q::r,left,h=>by
  unfold lpk
  split
  ·next z=>exact zmw r _ z
  ·exact zmw r left h
theorem zuc{ts:List Tie}{m y n:Nat}(ok:∀t∈ts,t.Ok m)(m9:m≤9)(S:Stand m y n)(y0:y.testBit 0=true)(h:zch ts m y n=false):zcf ts (zda ts) m y n=true:=by
 rw[zee ok m9 S]
 intro s hs hi
 rw[Bool.eq_false_iff]
 intro z
 have:zch ts m y n=true:=leadP_iff.mpr ⟨s,hs,hi,by
  unfold zbh
  rw[hi.1 0 y0,Bool.true_and]
  exact(ziw ts s).symm.trans z⟩
 rw[h] at this
 cases this
theorem zrl{ts:List Tie}{m:Nat}{ps ps':List (Nat×Bool)}{p:Nat×Bool}(sp:zoh ps' ps)(h:zcf ts (zda ts) m (zaj (ps++[p])) (zao (ps++[p]))=true):zcf ts (zb2 ts m (zaj (ps++[p])) (zao (ps++[p]))) m (zaj (zdv ts (zb2 ts m (zaj (ps++[p])) (zao (ps++[p]))) m ps' p++[p])) (zao (zdv ts (zb2 ts m (zaj (ps++[p])) (zao (ps++[p]))) m ps' p++[p]))=true:=by
 have hb:=zpi h
 generalize zb2 ts m (zaj (ps++[p])) (zao (ps++[p]))=il at hb ⊢
 refine zmw ps' ps' ?_
 have e:∀q,q∈ps'++[p]↔q∈ps++[p]:=fun q=>by rw[List.mem_append,List.mem_append,sp.pm.mem_iff]
 rw[zt9 e,zv6 e]
 exact hb
theorem PickOk.sub{m:Nat}{ps ps' left:List (Nat×Bool)}(h:PickOk m ps)(pm:ps'.Perm ps)(sub:left.Sublist ps'):PickOk m left:=
 ⟨fun p hp=>h.in_ p (pm.mem_iff.mp (sub.subset hp)),(((pm.map (·.1)).nodup_iff).mpr h.nd).sublist (sub.map _)⟩
end Wd
namespace L2
open PySem PySem.Spec PyProof.Rows
theorem zr8(its:List Value):slicePick its.toArray none none (some (-1))=its.reverse.toArray:=by
 have h:sliceBounds none none (some (-1)) its.toArray.size=((its.length:Int)-1,-1,-1):=by
  unfold sliceBounds
  simp
 unfold slicePick
 rw[h]
 show((sliceRange ((its.length:Int)-1) (-1) (-1)).filterMap fun i=>its.toArray[i]?).toArray=_
 congr 1
 have hr:sliceRange ((its.length:Int)-1) (-1) (-1)=(List.range its.length).map fun k=>its.length-1-k:=by
  unfold sliceRange
  have hc:(if (-1:Int)>0 then (if (its.length:Int)-1 < -1 then (-1-((its.length:Int)-1) + -1-1) / -1 else 0) else (if (its.length:Int)-1 > -1 then ((its.length:Int)-1 - -1 - -1-1)/(- -1) else 0)).toNat=its.length:=by
   rw[if_neg (by decide)]
   split
   ·rw[show(- -1:Int)=1 from rfl,Int.ediv_one];omega
   ·omega
  simp only[hc]
  refine List.map_congr_left fun k hk=>?_
  have:=List.mem_range.mp hk
  omega
 rw[hr]
 apply List.ext_getElem?
 intro i
 have e:∀n:Nat,n≤its.length→((List.range n).map fun k=>its.length-1-k).filterMap (fun i=>its.toArray[i]?)=its.reverse.take n:=by
  intro n
  induction n with
  |zero=>intro _;rfl
  |succ n ih=>
   intro hn
   rw[List.range_succ,List.map_append,List.filterMap_append,ih (by omega),List.take_add_one]
   congr 1
   have:its.reverse[n]?=some its[its.length-1-n]:=by
    rw[List.getElem?_reverse (by omega),List.getElem?_eq_getElem (by omega)]
   rw[this]
   simp only[List.map_cons,List.map_nil,List.filterMap_cons,List.filterMap_nil,List.getElem?_toArray]
   rw[List.getElem?_eq_getElem (by omega)]
   rfl
 rw[e _ (Nat.le_refl _),List.take_of_length_le (by rw[List.length_reverse];exact Nat.le_refl _)]
section
variable {X : Cx} {e st : Expr} {te tst : TE} {pos p2 : Pos}
def zy1(te tst:TE):TE:=fun σ H Q=>te σ H fun x H1=>tst σ H1 fun y H2=>∃a xs,y=.int (-1)∧x=.ref a∧H2 a=some (.lst xs)∧∀p,H2 p=none→Q (.ref p) (upd H2 p (.lst xs.reverse))
theorem zvt(he:PE X e te)(hst:PE X st tst):PE X (.Subscript e (.Slice none none (some st) p2) pos) (zy1 te tst):=by
 intro pins s σ H Q I h
 refine Subscript_ (thn (he pins s σ H _ I h) fun v s1 ⟨x,H1,I1,r1,q1⟩=>?_)
 refine wpAny_Slice ?_
 rw[evalPart_none]
 refine wpAny_pure (wpAny_pure ?_)
 rw[evalPart_some]
 refine thn (hst pins s1 σ H1 _ I1 q1) fun vs s3 ⟨y,H3,I3,r3,q3⟩=>?_
 obtain⟨a,xs,rfl,rfl,hx,q⟩:=q3
 cases r1
 obtain⟨t,rfl⟩:=r3
 have I4:Inv X pins σ H3 { s3 with heap:=s3.heap.push { cls:=.type "slice",data:=.fields #[.none,.none,.int (-1) t] } }:=I3.kept (t':=s3.toks) fun b ob q=>Heap.get?_push_of_some _ q
 obtain⟨aa,r,ht,hz⟩:=I4.list (SqL.of hx)
 have ad:=r.length
 show wpAny (model X.prog X.w) X.A (subscriptTail e (.Slice none none (some st) p2) (.ref a) (.ref s3.heap.objs.size)) (EP X pins σ Q) X.xe { s3 with heap:=s3.heap.push { cls:=.type "slice",data:=.fields #[.none,.none,.int (-1) t] } }
 refine tail_any (ops:=[.ref a,.ref s3.heap.objs.size]) ht.isList.typeIs slot_list_getitem.lookup ?_ (by with_unfolding_all rfl)
 refine wpAny_getItem_list_slice ht.isList (Heap.IsSliceOf.new ..) .none .none (.int (-1) t) (by simp) ?_ (by rw[List.size_toArray];omega)
 rw[zr8]
 refine⟨.ref _,_,I4.laid (t':=s3.toks) (o:=.lst xs.reverse) (fun b ob q=>Heap.get?_push_of_some _ q) (Nat.le_refl _) ?_,rfl,q _ (I4.hok.fresh (Nat.le_refl _))⟩
 exact⟨by rw[List.length_reverse];exact hz,aa.reverse,0,r.reverse,Heap.get?_push_size _ rfl⟩
end
end L2
namespace Wd
open PySem L2 Ow
def zxc(t:Addr):Sp:=fun vs H Q _=>∃(wd ll tp:Addr)(m:Nat)(ts:List Tie)(ps:List (Nat×Bool))(p:Nat×Bool),vs=[.ref wd,.ref ll,.ref tp]∧zcm H t∧(∀H',zcp H H'→WoodT H' wd m ts)∧1≤m∧m≤9∧ts.length≤800∧PicksAt H ll ps∧PickOk m (ps++[p])∧H tp=some (.tup [.int (p.1:Int),.bl p.2]) ∧
 zch ts m (zaj (ps++[p])) (zao (ps++[p]))=false∧∀H',KeepA [] H H'→zcp H H'→Q (.bl true) H'
theorem PickL.rev{H:Hp}:∀{ps:List (Nat×Bool)} {xs:List V},PickL H ps xs→PickL H ps.reverse xs.reverse
 |[],_,h=>by rw[show _=[] from h];rfl
 |p::ps,_,⟨t,r,e,h,q⟩=>by
  rw[e,List.reverse_cons,List.reverse_cons]
  exact PickL.snoc h q.rev
theorem PickOk.perm{m:Nat}{ps qs:List (Nat×Bool)}(h:PickOk m ps)(p:qs.Perm ps):PickOk m qs:=⟨fun x hx=>h.in_ x (p.mem_iff.mp hx),((p.map (·.1)).nodup_iff).mpr h.nd⟩
theorem zlr{ts ts':List Tie}{m:Nat}{ps qs:List (Nat×Bool)}(hs:∀t∈ts,t∈ts')(h:∀p,p∈ps→p∈qs)(l:zch ts m (zaj ps) (zao ps)=false):zch ts' m (zaj qs) (zao qs)=false:=by
 rw[Bool.eq_false_iff] at l ⊢
 intro z
 obtain⟨s,h1,h2,h3⟩:=leadP_iff.mp z
 refine l (leadP_iff.mpr ⟨s,h1,⟨fun k hk=>h2.1 k ?_,fun k hk=>h2.2 k ?_⟩,?_⟩)
 ·rcases(zbn _ k).mp hk with y|y
  ·exact(zbn _ k).mpr (.inl y)
  ·exact(zbn _ k).mpr (.inr (h _ y))
 ·exact(zco _ k).mpr (h _ ((zco _ k).mp hk))
 ·unfold zbh at h3 ⊢
  rw[Bool.and_eq_true,List.all_eq_true] at h3 ⊢
  exact⟨h3.1,fun t ht=>h3.2 t (hs t ht)⟩
def zie:Nat→PyData→Bool
 |_,.int _=>true
 |_,.bool _=>true
 |_,.none=>true
 |_,.str s=>PyData.strOk s
 |n+1,.tuple ds=>ds.all (zie n)
 |n+1,.list ds=>ds.all (zie n)
 |_,_=>false
mutual
theorem zql:∀(n:Nat)(d:PyData),zie n d=true→PyData.canLay0 d=true∧PyData.depth d≤n+1
 |_,.int i,_=>⟨by simp[PyData.canLay0],by simp only[PyData.depth];omega⟩
 |_,.bool i,_=>⟨by simp[PyData.canLay0],by simp only[PyData.depth];omega⟩
 |_,.none,_=>⟨by simp[PyData.canLay0],by simp only[PyData.depth];omega⟩
 |n,.str s,h=>⟨by cases n<;>simpa [PyData.canLay0] using (show PyData.strOk s=true from h),by simp only[PyData.depth];omega⟩
 |n+1,.tuple ds,h=>by
  obtain⟨a,b⟩:=zmo n ds h
  exact⟨by simpa [PyData.canLay0] using a,by simp only[PyData.depth];omega⟩
 |n+1,.list ds,h=>by
  obtain⟨a,b⟩:=zmo n ds h
  exact⟨by simpa [PyData.canLay0] using a,by simp only[PyData.depth];omega⟩
 |0,.tuple _,h=>by cases h
 |0,.list _,h=>by cases h
 |0,.dict _,h=>by cases h
 |n+1,.dict _,h=>by cases h
theorem zmo:∀(n:Nat)(ds:List PyData),ds.all (zie n)=true→PyData.canLayAll0 ds=true∧PyData.depthAll ds≤n+1
 |_,[],_=>⟨by simp[PyData.canLayAll0],by simp only[PyData.depthAll];omega⟩
 |n,d::ds,h=>by
  rw[List.all_cons,Bool.and_eq_true] at h
  obtain⟨a1,b1⟩:=zql n d h.1
  obtain⟨a2,b2⟩:=zmo n ds h.2
  exact⟨by simp[PyData.canLayAll0,a1,a2],by simp only[PyData.depthAll];omega⟩
end
theorem zdg{n:Nat}{d:PyData}(h:zie n d=true)(hn:n≤62):SeqAt.shaped d=true:=by
 obtain⟨a,b⟩:=zql n d h
 unfold SeqAt.shaped
 rw[Bool.and_eq_true]
 exact⟨a,decide_eq_true (by omega)⟩
theorem zj3{n:Nat}{d:PyData}(h:zie n d=true):PyData.eqv d d=true:=ze6 d (zql n d h).1
def zfw(k:Nat):PyData:=.int (k:Int)
theorem zj5{H:Hp}:∀l:List Nat,DnL H (l.map zfw) (zam l)
 |[]=>rfl
 |k::l=>⟨_,_,rfl,rfl,zj5 l⟩
theorem zny(n:Nat)(l:List Nat):(l.map zfw).all (zie n)=true:=by
 rw[List.all_eq_true]
 intro d hd
 obtain⟨k,_,rfl⟩:=List.mem_map.mp hd
 cases n<;>rfl
theorem zmg(n:Nat)(l:List (Nat×Bool)):(l.map za9).all (zie (n+1))=true:=by
 rw[List.all_eq_true]
 intro d hd
 obtain⟨k,_,rfl⟩:=List.mem_map.mp hd
 cases n<;>rfl
structure EntL(H:Hp)(es:List (PyData×Nat))(xs:List V):Prop where
 len:xs.length=es.length
 at_:∀(j:Nat)(e:PyData×Nat),es[j]?=some e→∃q v,xs[j]?=some (.ref q)∧H q=some (.tup [v,.int (e.2:Int)])∧Dn H e.1 v
theorem EntL.same{H H':Hp}{es:List (PyData×Nat)}{xs:List V}(h:EntL H es xs)(s:Same H H'):EntL H' es xs:=⟨h.len,fun j e he=>by
 obtain⟨q,v,h1,h2,h3⟩:=h.at_ j e he
 exact⟨q,v,h1,s _ _ h2,Dn.same s _ _ h3⟩⟩
def zu2(ts:List Tie)(m:Nat)(il:List Nat)(ps:List (Nat×Bool))(e:PyData×Nat):Prop:=
 e.2<2^m∧e.2.testBit 0=true∧(il.filter fun t=>!zbj ts t e.2).map zfw++(ps.filter fun c=>!decide (e.2.testBit c.1=c.2)).map za9=[e.1]
def zi0(ts:List Tie)(m:Nat)(il:List Nat)(left:List (Nat×Bool))(p:Nat×Bool):List (PyData×Nat):=
 il.map (fun t=>(zfw t,(zbg ts (zb1 il t) m 9 (zaj (left++[p])) (zao (left++[p]))).getD 0))++left.map fun q=>(za9 q,(zbg ts il m 9 (zaj (zbr left q++[p])) (zao (zbr left q++[p]))).getD 0)
theorem zl2(ts:List Tie)(m:Nat)(il:List Nat)(left:List (Nat×Bool))(p:Nat×Bool):(zi0 ts m il left p).map (·.1)=il.map zfw++left.map za9:=by
 unfold zi0
 rw[List.map_append,List.map_map,List.map_map]
 rfl
theorem mem_woPk{left:List (Nat×Bool)}{p r:Nat×Bool}:r∈zbr left p↔r∈left∧r≠p:=by
 unfold zbr
 rw[List.mem_filter]
 simp
theorem zp3{ps qs:List (Nat×Bool)}{s:Nat}(h:∀p,p∈ps→p∈qs)(i:InS (zaj qs) (zao qs) s):InS (zaj ps) (zao ps) s:=
 ⟨fun k hk=>i.1 k (by
  rcases(zbn _ k).mp hk with y|y
  ·exact(zbn _ k).mpr (.inl y)
  ·exact(zbn _ k).mpr (.inr (h _ y))),fun k hk=>i.2 k ((zco _ k).mpr (h _ ((zco _ k).mp hk)))⟩
theorem in_picks{ps:List (Nat×Bool)}{s:Nat}:InS (zaj ps) (zao ps) s↔s.testBit 0=true∧∀p∈ps,s.testBit p.1=p.2:=by
 constructor
 ·intro h
  refine⟨h.1 0 (zex _),fun p hp=>?_⟩
  obtain⟨k,b⟩:=p
  cases b with
  |true=>exact h.1 k ((zbn _ k).mpr (.inr hp))
  |false=>exact h.2 k ((zco _ k).mpr hp)
 ·rintro⟨h0,h⟩
  refine⟨fun k hk=>?_,fun k hk=>h (k,false) ((zco _ k).mp hk)⟩
  rcases(zbn _ k).mp hk with y|y
  ·rw[y];exact h0
  ·exact h (k,true) y
theorem zre{ts:List Tie}{il:List Nat}{m:Nat}{ps qs:List (Nat×Bool)}(ok:∀t∈ts,t.Ok m)(m9:m≤9)(m1:1≤m)(P:PickOk m ps)(R:PickOk m qs)(h:∀p,p∈ps→p∈qs)(b:zcf ts il m (zaj qs) (zao qs)=false):zcf ts il m (zaj ps) (zao ps)=false:=by
 rw[Bool.eq_false_iff] at b ⊢
 intro z
 refine b ((zee ok m9 (R.stand m1)).mpr fun s h1 h2=>(zee ok m9 (P.stand m1)).mp z s h1 (zp3 h h2))
theorem PickOk.subl{m:Nat}{ps qs:List (Nat×Bool)}(h:PickOk m ps)(s:qs.Sublist ps):PickOk m qs:=h.sub (List.Perm.refl _) s
theorem zgr(left:List (Nat×Bool))(q:Nat×Bool)(p:List (Nat×Bool)):(zbr left q++p).Sublist (left++p):=List.Sublist.append List.filter_sublist (List.Sublist.refl _)
theorem zhf{ts:List Tie}{il:List Nat}{m:Nat}{a:Nat×Bool}(ok:∀t∈ts,t.Ok m)(m9:m≤9)(m1:1≤m):∀(r left:List (Nat×Bool))(q:Nat×Bool),PickOk m (left++[a])→q∈r→q∈lpk ts il m a r left→zcf ts il m (zaj (zbr (lpk ts il m a r left) q++[a])) (zao (zbr (lpk ts il m a r left) q++[a]))=false
 |[],_,_,_,h,_=>nomatch h
 |q'::r,left,q,P,hq,hl=>by
  unfold lpk at hl ⊢
  split at hl
  ·rename_i c
   rw[if_pos c]
   rcases List.mem_cons.mp hq with rfl|h
   ·exact absurd rfl (mem_woPk.mp ((zdz r _).subset hl)).2
   ·exact zhf ok m9 m1 r _ q (P.subl (zgr _ _ _)) h hl
  ·rename_i c
   rw[if_neg c]
   rcases List.mem_cons.mp hq with rfl|h
   ·have P2:PickOk m (zbr left q++[a]):=P.subl (zgr _ _ _)
    have P3:PickOk m (zbr (lpk ts il m a r left) q++[a]):=P.subl ((zgr _ _ _).trans (List.Sublist.append (zdz r left) (List.Sublist.refl _)))
    refine zre ok m9 m1 P3 P2 (fun x hx=>?_) (Bool.eq_false_iff.mpr c)
    rcases List.mem_append.mp hx with z|z
    ·exact List.mem_append.mpr (.inl (mem_woPk.mpr ⟨(zdz r left).subset (mem_woPk.mp z).1,(mem_woPk.mp z).2⟩))
    ·exact List.mem_append.mpr (.inr z)
   ·exact zhf ok m9 m1 r left q P h hl
theorem zit{ts:List Tie}{il:List Nat}{m y n:Nat}(ok:∀t∈ts,t.Ok m)(S:Stand m y n)(m9:m≤9)(b:zcf ts il m y n=false):∃s,zbg ts il m 9 y n=some s∧s<2^m∧InS y n s∧zbl ts il s=true∧∀s',s'<2^m→InS y n s'→zbl ts il s'=true→s≤s':=by
 have of:=zc8 m y n
 have F:=zdo (il:=il) ok 9 y n (by omega) S
 unfold zcf at b
 rw[decide_eq_false_iff_not] at b
 cases e:zbg ts il m 9 y n with
 |none=>exact absurd e b
 |some s=>rw[e] at F;exact⟨s,rfl,F⟩
theorem zj1{α:Type}[DecidableEq α]{l:List α}{f:α→Bool}{x:α}(nd:l.Nodup)(hx:x∈l)(h:∀y∈l,f y=true↔y=x):l.filter f=[x]:=by
 induction l with
 |nil=>cases hx
 |cons y l ih=>
  obtain⟨n1,n2⟩:=List.nodup_cons.mp nd
  by_cases e:y=x
  ·subst e
   rw[List.filter_cons_of_pos ((h y List.mem_cons_self).mpr rfl)]
   congr 1
   refine List.filter_eq_nil_iff.mpr fun z hz=>?_
   intro c
   exact n1 (((h z (List.mem_cons_of_mem _ hz)).mp c)▸hz)
  ·rw[List.filter_cons_of_neg (fun c=>e ((h y List.mem_cons_self).mp c))]
   rcases List.mem_cons.mp hx with z|z
   ·exact absurd z.symm e
   ·exact ih n2 z fun w hw=>h w (List.mem_cons_of_mem _ hw)
theorem zl9{α β:Type}{f:α→β}:∀{l:List α},(l.map f).Nodup→l.Nodup
 |[],_=>List.nodup_nil
 |x::l,h=>by
  rw[List.map_cons,List.nodup_cons] at h
  exact List.nodup_cons.mpr ⟨fun z=>h.1 (List.mem_map.mpr ⟨x,z,rfl⟩),zl9 h.2⟩
structure WhyOk(ts:List Tie)(m:Nat)(il:List Nat)(left:List (Nat×Bool))(p:Nat×Bool):Prop where
 tie:∀t∈il,∃s,zbg ts (zb1 il t) m 9 (zaj (left++[p])) (zao (left++[p]))=some s∧s<2^m∧InS (zaj (left++[p])) (zao (left++[p])) s∧zbl ts (zb1 il t) s=true∧zbj ts t s=false
 pick:∀q∈left,∃s,zbg ts il m 9 (zaj (zbr left q++[p])) (zao (zbr left q++[p]))=some s∧s<2^m∧InS (zaj (zbr left q++[p])) (zao (zbr left q++[p])) s∧zbl ts il s=true∧s.testBit q.1=!q.2
theorem zx1{ts:List Tie}{m:Nat}{ps ps':List (Nat×Bool)}{p:Nat×Bool}(ok:∀t∈ts,t.Ok m)(m9:m≤9)(m1:1≤m)(sp:zoh ps' ps)(P:PickOk m (ps++[p]))(h:zcf ts (zda ts) m (zaj (ps++[p])) (zao (ps++[p]))=true):WhyOk ts m (zb2 ts m (zaj (ps++[p])) (zao (ps++[p]))) (zdv ts (zb2 ts m (zaj (ps++[p])) (zao (ps++[p]))) m ps' p) p:=by
 have B1:=zrl sp h
 have aa:=fun t=>zli (t:=t) ok m9 (P.stand m1)
 generalize zb2 ts m (zaj (ps++[p])) (zao (ps++[p]))=il at B1 aa
 have P':PickOk m (ps'++[p]):=P.perm (sp.pm.append (List.Perm.refl _))
 have sub:(zdv ts il m ps' p).Sublist ps':=zdz _ _
 have PL:PickOk m (zdv ts il m ps' p++[p]):=P'.subl (sub.append (List.Sublist.refl _))
 have nd:=fun q=>zhf (il:=il) (a:=p) ok m9 m1 ps' ps' q P'
 refine⟨fun t ht=>?_,fun q hq=>?_⟩
 ·have b2:zcf ts (zb1 il t) m (zaj (zdv ts il m ps' p++[p])) (zao (zdv ts il m ps' p++[p]))=false:=by
   refine zre ok m9 m1 PL P (fun x hx=>?_) (aa t ht)
   rcases List.mem_append.mp hx with z|z
   ·exact List.mem_append.mpr (.inl (sp.pm.mem_iff.mp (sub.subset z)))
   ·exact List.mem_append.mpr (.inr z)
  obtain⟨s,e,h1,h2,h3,_⟩:=zit ok (PL.stand m1) m9 b2
  refine⟨s,e,h1,h2,h3,?_⟩
  rw[Bool.eq_false_iff]
  intro z
  have:=(zee ok m9 (PL.stand m1)).mp B1 s h1 h2
  have y:zbl ts il s=true:=by
   unfold zbl at h3 ⊢
   rw[List.all_eq_true] at h3 ⊢
   intro i hi
   by_cases e:i=t
   ·rw[e];exact z
   ·exact h3 i (mem_without.mpr ⟨hi,e⟩)
  rw[this] at y
  cases y
 ·have b2:=nd q (sub.subset hq) hq
  have PW:PickOk m (zbr (zdv ts il m ps' p) q++[p]):=PL.subl (zgr _ _ _)
  obtain⟨s,e,h1,h2,h3,_⟩:=zit ok (PW.stand m1) m9 b2
  refine⟨s,e,h1,h2,h3,?_⟩
  have i2:=in_picks.mp h2
  have:¬s.testBit q.1=q.2:=fun z=>by
   have:=(zee ok m9 (PL.stand m1)).mp B1 s h1 (in_picks.mpr ⟨i2.1,fun r hr=>by
    rcases List.mem_append.mp hr with y|y
    ·by_cases e:r=q
     ·rw[e];exact z
     ·exact i2.2 r (List.mem_append.mpr (.inl (mem_woPk.mpr ⟨y,e⟩)))
    ·exact i2.2 r (List.mem_append.mpr (.inr y))⟩)
   rw[h3] at this
   cases this
  cases c:s.testBit q.1<;>cases d:q.2<;>simp_all
theorem WhyOk.shows{ts:List Tie}{m:Nat}{il:List Nat}{left:List (Nat×Bool)}{p:Nat×Bool}(h:WhyOk ts m il left p)(P:PickOk m (left++[p]))(nd:il.Nodup):∀e∈zi0 ts m il left p,zu2 ts m il (left++[p]) e:=by
 intro e he
 unfold zi0 at he
 rcases List.mem_append.mp he with z|z
 ·obtain⟨t,ht,rfl⟩:=List.mem_map.mp z
  obtain⟨s,e,h1,h2,h3,h4⟩:=h.tie t ht
  simp only[e,Option.getD_some]
  have i2:=in_picks.mp h2
  refine⟨h1,i2.1,?_⟩
  have e1:(il.filter fun t=>!zbj ts t s)=[t]:=zj1 nd ht fun y hy=>by
   rw[Bool.not_eq_true']
   constructor
   ·intro c
    by_cases e:y=t
    ·exact e
    ·unfold zbl at h3
     rw[List.all_eq_true] at h3
     have:=h3 y (mem_without.mpr ⟨hy,e⟩)
     rw[c] at this
     cases this
   ·rintro rfl;exact h4
  have e2:((left++[p]).filter fun c=>!decide (s.testBit c.1=c.2))=[]:=List.filter_eq_nil_iff.mpr fun c hc=>by
   rw[decide_eq_true (i2.2 c hc)]
   exact Bool.false_ne_true
  simp only[e1,e2]
  rfl
 ·obtain⟨q,hq,rfl⟩:=List.mem_map.mp z
  obtain⟨s,e,h1,h2,h3,h4⟩:=h.pick q hq
  simp only[e,Option.getD_some]
  have i2:=in_picks.mp h2
  refine⟨h1,i2.1,?_⟩
  have e1:(il.filter fun t=>!zbj ts t s)=[]:=List.filter_eq_nil_iff.mpr fun t ht=>by
   unfold zbl at h3
   rw[List.all_eq_true] at h3
   rw[h3 t ht]
   exact Bool.false_ne_true
  have aa:(left++[p]).Nodup:=zl9 P.nd
  have e2:((left++[p]).filter fun c=>!decide (s.testBit c.1=c.2))=[q]:=zj1 aa (List.mem_append.mpr (.inl hq)) fun c hc=>by
   rw[Bool.not_eq_true',decide_eq_false_iff_not]
   constructor
   ·intro y
    by_cases e:c=q
    ·exact e
    ·exfalso
     apply y
     rcases List.mem_append.mp hc with w|w
     ·exact i2.2 c (List.mem_append.mpr (.inl (mem_woPk.mpr ⟨w,e⟩)))
     ·exact i2.2 c (List.mem_append.mpr (.inr w))
   ·rintro rfl
    rw[h4]
    cases c.2<;>decide
  simp only[e1,e2]
  rfl
theorem WhyOk.ent{H:Hp}{o1 o2:Addr}{xs ys:List V}{ts:List Tie}{m:Nat}{il:List Nat}{left:List (Nat×Bool)}{p:Nat×Bool}(h:WhyOk ts m il left p)(oth:zqp H o1 ts m (zaj (left++[p])) (zao (left++[p])) il)(othP:zmj H o2 ts il m p left)(h1:H o1=some (.lst xs))(h2:H o2=some (.lst ys)):EntL H (zi0 ts m il left p) (xs++ys):=by
 obtain⟨zs,hz,lz,az⟩:=oth.ex
 obtain⟨us,hu,lu,au⟩:=othP.ex
 rw[h1] at hz
 cases hz
 rw[h2] at hu
 cases hu
 refine⟨by unfold zi0;rw[List.length_append,List.length_append,List.length_map,List.length_map,lz,lu],fun j e he=>?_⟩
 unfold zi0 at he
 by_cases c:j<il.length
 ·rw[List.getElem?_append_left (by rw[List.length_map];exact c),List.getElem?_map] at he
  obtain⟨t,ht,rfl⟩:=Option.map_eq_some_iff.mp he
  obtain⟨q,e1,e2⟩:=az j t ht
  obtain⟨s,es,_⟩:=h.tie t (List.mem_of_getElem? ht)
  rw[es] at e2
  refine⟨q,_,by rw[List.getElem?_append_left (by omega)];exact e1,?_,rfl⟩
  rw[es]
  exact e2
 ·rw[List.getElem?_append_right (by rw[List.length_map];omega),List.length_map,List.getElem?_map] at he
  obtain⟨r,hr,rfl⟩:=Option.map_eq_some_iff.mp he
  obtain⟨q,t,e1,e2,e3⟩:=au _ r hr
  obtain⟨s,es,_⟩:=h.pick r (List.mem_of_getElem? hr)
  rw[es] at e2
  refine⟨q,_,by rw[List.getElem?_append_right (by omega),lz];exact e1,?_,zhp e3⟩
  rw[es]
  exact e2
def zuq:Sp:=fun vs H Q _=>∃(lb lf lp tp ol:Addr)(m:Nat)(ts:List Tie)(il:List Nat)(left:List (Nat×Bool))(p:Nat×Bool)(es:List (PyData×Nat))(os:List V),vs=[.ref lb,.ref lf,.ref lp,.ref tp,.ref ol]∧m≤9∧H lb=some (.lst (zam (brN m ts)))∧H lf=some (.lst (zam il))∧(∀i∈il,i<ts.length)∧il.length≤900∧ts.length≤900∧PicksAt H lp left∧left.length≤19∧p.1≤20∧H tp=some (.tup [.int (p.1:Int),.bl p.2])∧H ol=some (.lst os)∧EntL H es os∧es.length≤950∧es.map (·.1)=il.map zfw++left.map za9∧(∀e∈es,zu2 ts m il (left++[p]) e)∧∀H',Same H H'→Q (.bl true) H'
theorem zpv{ts:List Tie}{i s:Nat}(h:i<ts.length):(brk ts s ts.length).testBit i=!zbj ts i s:=by
 rw[zjj,decide_eq_true h,Bool.true_and]
 unfold zbj
 rw[List.getElem?_eq_getElem h]
 rfl
theorem zrv:∀{l l':List (Nat×Bool)},l.Perm l'→(l.map (·.1)).Pairwise (·<·)→(l'.map (·.1)).Pairwise (·<·)→l=l':=fun {l l'} p a b=>by
 rw[List.pairwise_map] at a b
 refine List.Perm.eq_of_pairwise (le:=fun x y:Nat×Bool=>x.1<y.1) (fun a b _ _ h1 h2=>absurd (Nat.lt_trans h1 h2) (Nat.lt_irrefl _)) a b p
theorem zp9{H:Hp}{l:Addr}{ps:List (Nat×Bool)}(pa:PicksAt H l ps)(nd:(ps.map (·.1)).Nodup):∃es:List (Int×Addr),H l=some (.lst (es.map fun e=>V.ref e.2))∧zt4 H es∧es.length<64∧∀es':List (Int×Addr),es'.Perm es→(es'.map (·.1)).Pairwise (·<·)→∃ps',zoh ps' ps∧PickL H ps' (es'.map fun e=>V.ref e.2):=by
 obtain⟨xs,hl,px⟩:=pa.ex
 obtain⟨es,e1,e2,e3,e4⟩:=px.es
 have few:=pa.few
 refine⟨es,by rw[←e1];exact hl,⟨fun e he=>⟨_,(e4 e he).1⟩,?_⟩,?_,fun es' pe pw=>?_⟩
 ·rw[e2]
  have:(ps.map fun p=>((p.1:Nat):Int))=(ps.map (·.1)).map fun k:Nat=>(k:Int):=by rw[List.map_map];rfl
  rw[this,List.nodup_iff_pairwise_ne,List.pairwise_map]
  exact List.Pairwise.imp (fun {a b} h z=>h (by omega)) (List.nodup_iff_pairwise_ne.mp nd)
 ·have:=congrArg List.length e3
  rw[List.length_map] at this
  omega
 have aa:∀e∈es',H e.2=some (.tup [.int e.1,.bl (zb7 H e.2).2])∧e.1=(((zb7 H e.2).1:Nat):Int):=fun e he=>e4 e (pe.mem_iff.mp he)
 refine⟨es'.map fun e=>zb7 H e.2,⟨by rw[←e3];exact pe.map _,?_⟩,PickL.of_es es' aa⟩
 rw[List.map_map,List.pairwise_map]
 rw[List.pairwise_map] at pw
 refine List.Pairwise.imp_of_mem (fun {a b} ha hb h=>?_) pw
 have a1:=(aa a ha).2
 have b1:=(aa b hb).2
 show(zb7 H a.2).1<(zb7 H b.2).1
 omega
def zne(ts:List Tie)(nb:Nat)(il:List Nat):List Tie:=ts.take nb++(il.filter (nb≤·)).filterMap fun t=>ts[t]?
theorem zuk{H:Hp}{ts:List Tie}{xs ys:List V}(h:DnL H (ts.map Tie.toD) (xs++ys)):∀(l:List Nat),(∀t∈l,xs.length≤t)→DnL H ((l.filterMap fun t=>ts[t]?).map Tie.toD) (l.filterMap fun t=>ys[t-xs.length]?)
 |[],_=>rfl
 |t::l,hl=>by
  have ih:=zuk h l fun x hx=>hl x (List.mem_cons_of_mem _ hx)
  have tl:=hl t List.mem_cons_self
  cases e:ts[t]? with
  |none=>
   have:ys[t-xs.length]?=none:=by
    cases c:ys[t-xs.length]? with
    |none=>rfl
    |some x=>
     obtain⟨d,hd,_⟩:=DnL.get (i:=t) h (by rw[List.getElem?_append_right tl];exact c)
     rw[List.getElem?_map,e] at hd
     cases hd
   rw[List.filterMap_cons_none (f:=fun t=>ts[t]?) e,List.filterMap_cons_none (f:=fun t=>ys[t-xs.length]?) this]
   exact ih
  |some tt=>
   obtain⟨x,hx,hd⟩:=DnL.get' (i:=t) (d:=tt.toD) h (by rw[List.getElem?_map,e];rfl)
   rw[List.getElem?_append_right tl] at hx
   rw[List.filterMap_cons_some (f:=fun t=>ts[t]?) e,List.filterMap_cons_some (f:=fun t=>ys[t-xs.length]?) hx]
   exact⟨_,_,rfl,hd,ih⟩
theorem DnL.taken{H:Hp}:∀{ds:List PyData} {xs ys:List V},DnL H ds (xs++ys)→DnL H (ds.take xs.length) xs
 |ds,[],_,_=>rfl
 |[],x::xs,ys,h=>by cases(show(x::xs)++ys=[] from h)
 |d::ds,x::xs,ys,⟨_,_,e,q,z⟩=>by
  cases e
  exact⟨_,_,rfl,q,DnL.taken z⟩
theorem DnL.len2{H:Hp}:∀{ds:List PyData} {xs:List V},DnL H ds xs→ds.length=xs.length
 |[],_,h=>by rw[show _=[] from h];rfl
 |_::_,_,⟨_,_,e,_,z⟩=>by rw[e,List.length_cons,List.length_cons,DnL.len2 z]
theorem zpe{ts:List Tie}{nb:Nat}{il:List Nat}{t:Tie}(h:t∈zne ts nb il):t∈ts:=by
 rcases List.mem_append.mp h with z|z
 ·exact List.mem_of_mem_take z
 ·obtain⟨i,_,e⟩:=List.mem_filterMap.mp z
  exact List.mem_of_getElem? e
theorem zpj(ts:List Tie)(nb:Nat)(il:List Nat):(zne ts nb il).length≤ts.length+il.length:=by
 unfold zne
 rw[List.length_append,List.length_take]
 have a:=List.length_filterMap_le (fun t=>ts[t]?) (il.filter (nb≤·))
 have b:=List.length_filter_le (nb≤·) il
 omega
theorem zrr{H:Hp}{wd wd' tb tc tc':Addr}{m:Nat}{ts:List Tie}{xs ys:List V}{il:List Nat}(W:WoodT H wd m ts)(ill:il.length+ts.length≤900)(hw:H wd=some (.tup [.int (m:Int),.ref tb,.ref tc]))(hb:H tb=some (.tup xs))(hc:H tc=some (.tup ys))(hw':H wd'=some (.tup [.int (m:Int),.ref tb,.ref tc']))(hc':H tc'=some (.tup ((il.filter (xs.length≤·)).filterMap fun t=>ys[t-xs.length]?))):WoodT H wd' m (zne ts xs.length il):=by
 obtain⟨aa,ad,⟨af,ae,a1,a2,a3⟩,dn⟩:=W.ex
 rw[hw] at a1
 cases a1
 rw[hb] at a2
 cases a2
 rw[hc] at a3
 cases a3
 refine⟨⟨xs,_,⟨tb,tc',hw',hb,hc'⟩,?_⟩,fun t ht=>W.ok t (zpe ht),?_,W.m9⟩
 ·unfold zne
  rw[List.map_append]
  refine DnL.append ?_ (zuk dn _ fun t ht=>by simpa using (List.mem_filter.mp ht).2)
  rw[List.map_take]
  exact DnL.taken dn
 ·have:=zpj ts xs.length il
  omega
theorem zo6{ts:List Tie}{il:List Nat}{m nb:Nat}{ps:List (Nat×Bool)}(ok:∀t∈ts,t.Ok m)(m9:m≤9)(m1:1≤m)(P:PickOk m ps)(b:zcf ts il m (zaj ps) (zao ps)=true):zch (zne ts nb il) m (zaj ps) (zao ps)=false:=by
 rw[Bool.eq_false_iff]
 intro z
 obtain⟨s,h1,h2,h3⟩:=leadP_iff.mp z
 have:=(zee ok m9 (P.stand m1)).mp b s h1 h2
 have y:zbl ts il s=true:=by
  unfold zbl
  rw[List.all_eq_true]
  intro i hi
  unfold zbj
  cases e:ts[i]? with
  |none=>rfl
  |some t=>
   unfold zbh at h3
   rw[Bool.and_eq_true,List.all_eq_true] at h3
   refine h3.2 t ?_
   unfold zne
   by_cases c:nb≤i
   ·exact List.mem_append.mpr (.inr (List.mem_filterMap.mpr ⟨i,List.mem_filter.mpr ⟨hi,by simpa using c⟩,e⟩))
   ·refine List.mem_append.mpr (.inl ?_)
    refine List.mem_of_getElem? (i:=i) ?_
    rw[List.getElem?_take,if_pos (by omega)]
    exact e
 rw[this] at y
 cases y
theorem zvb{ts:List Tie}{il:List Nat}{m:Nat}{ps:List (Nat×Bool)}(ok:∀t∈ts,t.Ok m)(m9:m≤9)(m1:1≤m)(P:PickOk m ps)(b:zcf ts il m (zaj ps) (zao ps)=true):zch ts m (zaj ps) (zao ps)=false:=by
 refine zlr (ts:=zne ts ts.length il) (fun t ht=>zpe ht) (fun p h=>h) (zo6 ok m9 m1 P b)
theorem zoi{K:PySem.W.Frag}{a:Addr}{ps:List (Nat×Bool)}{xs:List V}{σ0 σr:St}{H:Hp}{tc:TT}{Q:VK}(gB:Nat×Bool→Bool)(h0:σ0=none::σr)(ha:H a=some (.lst xs))(pk:PickL H ps xs)(few:ps.length≤1000)
  (ht:∀p∈ps,∀t,H t=some (.tup [.int (p.1:Int),.bl p.2])→∀R:Bool→Hp→Prop,R (gB p) H→tc (some (.ref t)::σr) H R)
  (hd:∀q ys,H q=none→PickL H (ps.filter gB) ys→Q (.ref q) (upd H q (.lst ys))):
  zm5 (Itl K a) (zmd 0) tc (zwe 0) σ0 H Q:=by
 have lx:=pk.length
 refine zbx (K:=K) (a:=a) (xs:=xs) (fun i ys σ H2=>(∃v,σ=v::σr)∧H2=H∧ys.length≤i∧PickL H ((ps.take i).filter gB) ys) ⟨⟨none,h0⟩,rfl,Nat.le_refl _,rfl⟩ (fun i ys σ H2 hi pv=>?_) (fun i ys σ H2 hi pv=>?_) (fun i x ys σ H2 hx pv=>?_) (fun ys σ H2 pv p hp=>?_)
 ·exact zaq (by have:=pv.2.2.1;omega)
 ·rw[pv.2.1];exact SqL.of ha
 ·obtain⟨⟨v,rfl⟩,rfl,h1,h2⟩:=pv
  obtain⟨p,t,hp,rfl,aa⟩:=pk.get hx
  refine ht p (List.mem_of_getElem? hp) t aa _ ?_
  have e:(ps.take (i+1)).filter gB=(ps.take i).filter gB++(if gB p=true then [p] else []):=by
   rw[List.take_add_one,hp,Option.toList_some,List.filter_append]
   cases c:gB p<;>simp[c]
  cases c:gB p
  ·refine zgb ?_
   rw[c,if_neg (by decide),List.append_nil] at e
   exact⟨⟨_,rfl⟩,rfl,by omega,by rw[e];exact h2⟩
  ·refine zkg ?_
   rw[c,if_pos rfl] at e
   exact⟨_,rfl,⟨_,rfl⟩,rfl,by rw[List.length_append,List.length_singleton];omega,by rw[e];exact PickL.snoc aa h2⟩
 ·obtain⟨_,rfl,_,h2⟩:=pv
  rw[←lx,List.take_length] at h2
  exact hd p ys hp h2
end Wd
namespace Ow
open PySem L2 Wd
def top(i:Nat):Stmt:=PySem.Challenge.pw_optionwood_k45_whole_why_holds_elsewhere.main.body.getD i (.Pass ⟨0,0,0,0⟩)
abbrev zub:Stmt:=top 1
abbrev zep:Stmt:=top 2
abbrev zc4:Stmt:=top 3
abbrev zf3:Stmt:=top 9
abbrev zk0:Stmt:=top 10
abbrev zfh:Stmt:=top 12
abbrev zgd:Stmt:=top 13
abbrev zek:Stmt:=top 14
abbrev zej:Stmt:=top 15
abbrev za4:Stmt:=top 16
abbrev zcn:Stmt:=top 17
abbrev zcc:Stmt:=top 19
abbrev zf7:Stmt:=top 20
abbrev zdj:Stmt:=top 21
abbrev zfl:Stmt:=top 23
abbrev zb4:Stmt:=top 24
abbrev zp8:Stmt:=top 26
abbrev zfn:Stmt:=top 27
abbrev zd0:Stmt:=top 28
abbrev zcd:Stmt:=top 29
abbrev zhh:Stmt:=top 32
abbrev zia:Stmt:=top 33
abbrev zdq:Stmt:=top 34
abbrev zhe:Stmt:=top 35
abbrev zfa:Stmt:=top 36
abbrev zeu:Stmt:=top 37
abbrev zeq:Stmt:=top 38
abbrev zd6:Stmt:=top 40
abbrev zcl:Stmt:=top 41
abbrev zbu:Stmt:=top 42
abbrev zd9:Stmt:=top 43
abbrev zdm:Stmt:=top 44
abbrev zdx:Stmt:=top 45
abbrev zgi:Stmt:=top 46
abbrev zha:Stmt:=top 47
abbrev zck:Stmt:=top 48
abbrev zg3:Stmt:=top 49
abbrev zcx:Stmt:=top 50
abbrev ze1:Stmt:=top 51
abbrev zc7:Stmt:=(zfp (top 31)).getD 0 (.Pass ⟨0,0,0,0⟩)
abbrev zd8:Stmt:=(zfp (top 31)).getD 1 (.Pass ⟨0,0,0,0⟩)
abbrev zdt:Stmt:=(zfp (top 31)).getD 2 (.Pass ⟨0,0,0,0⟩)
abbrev zcs:Stmt:=(zfp (top 31)).getD 3 (.Pass ⟨0,0,0,0⟩)
abbrev zds:Stmt:=(zfp (top 31)).getD 4 (.Pass ⟨0,0,0,0⟩)
abbrev zbp:Stmt:=(zfp (top 31)).getD 5 (.Pass ⟨0,0,0,0⟩)
abbrev zfo:Stmt:=(zfp (top 31)).getD 7 (.Pass ⟨0,0,0,0⟩)
set_option genInjectivity false
set_option genSizeOfSpec false
set_option genSizeOf false
structure Adr where
 (f_has f_with_option f_open_options f_many_ties f_tie_at f_count_in f_every_tie f_sure_broken f_least_sum f_sure_broken_bough f_first_sure_broken f_cases_of f_ware_leaf f_told_tree f_first_ware f_first_keeping f_bars f_least_ties f_tie_others f_left_without f_stand_of f_open_at f_first_ware_at f_leads_on f_why_barred f_least_picks f_pick_others f_law_take f_law_boughs f_law_cross f_law_wood f_law_keeps f_law_broken f_law_stand f_law_sets f_law_played f_law_anew f_law_shown f_law f_Choice___init__ f_Choice_stand f_Choice_chosen f_Choice_offers f_Choice_choose f_Choice_take_back f_Choice_why:Addr)
 (c_cases_of t_cases_of x_Choice:Addr)
structure Fds where
 (f_has f_with_option f_open_options f_many_ties f_tie_at f_count_in f_every_tie f_sure_broken f_least_sum f_sure_broken_bough f_first_sure_broken f_cases_of f_ware_leaf f_told_tree f_first_ware f_first_keeping f_bars f_least_ties f_tie_others f_left_without f_stand_of f_open_at f_first_ware_at f_leads_on f_why_barred f_least_picks f_pick_others f_law_take f_law_boughs f_law_cross f_law_wood f_law_keeps f_law_broken f_law_stand f_law_sets f_law_played f_law_anew f_law_shown f_law f_Choice___init__ f_Choice_stand f_Choice_chosen f_Choice_offers f_Choice_choose f_Choice_take_back f_Choice_why:FuncData)
structure Txt(K:PySem.W.Frag)(mg:Str→Option Value)(a:Adr)(d:Fds):Prop where
 m_range:mg "range" = none
 m_len:mg "len" = none
 m_max:mg "max" = none
 m_int:mg "int" = none
 m_list:mg "list" = none
 m_tuple:mg "tuple" = none
 m_sorted:mg "sorted" = none
 m_enumerate:mg "enumerate" = none
 m_sum:mg "sum" = none
 m_set:mg "set" = none
 K_has:Df K mg "has" zub a.f_has d.f_has ["some", "k"]
 K_with_option:Df K mg "with_option" zep a.f_with_option d.f_with_option ["some", "k"]
 K_open_options:Df K mg "open_options" zc4 a.f_open_options d.f_open_options ["many", "yes", "no"]
 K_many_ties:Df K mg "many_ties" zf3 a.f_many_ties d.f_many_ties ["wood"]
 K_tie_at:Df K mg "tie_at" zk0 a.f_tie_at d.f_tie_at ["wood", "t"]
 K_count_in:Df K mg "count_in" zfh a.f_count_in d.f_count_in ["kids", "some"]
 K_every_tie:Df K mg "every_tie" zgd a.f_every_tie d.f_every_tie ["wood"]
 K_sure_broken:Df K mg "sure_broken" zek a.f_sure_broken d.f_sure_broken ["tie", "yes", "no"]
 K_least_sum:Df K mg "least_sum" zej a.f_least_sum d.f_least_sum ["pairs", "yes", "no"]
 K_sure_broken_bough:Df K mg "sure_broken_bough" za4 a.f_sure_broken_bough d.f_sure_broken_bough ["bough", "yes", "no"]
 K_first_sure_broken:Df K mg "first_sure_broken" zcn a.f_first_sure_broken d.f_first_sure_broken ["wood", "ties", "yes", "no"]
 K_cases_of:Df K mg "cases_of" zcc a.f_cases_of d.f_cases_of ["wood", "ties", "yes", "no"]
 K_ware_leaf:Df K mg "ware_leaf" zf7 a.f_ware_leaf d.f_ware_leaf ["wood", "yes", "no"]
 K_told_tree:Df K mg "told_tree" zdj a.f_told_tree d.f_told_tree ["wood", "ties", "yes", "no", "leaf_at"]
 K_first_ware:Df K mg "first_ware" zfl a.f_first_ware d.f_first_ware ["wood", "yes", "no"]
 K_first_keeping:Df K mg "first_keeping" zb4 a.f_first_keeping d.f_first_keeping ["wood", "ties", "yes", "no"]
 K_bars:Df K mg "bars" zp8 a.f_bars d.f_bars ["wood", "ties", "yes", "no"]
 K_least_ties:Df K mg "least_ties" zfn a.f_least_ties d.f_least_ties ["wood", "yes", "no"]
 K_tie_others:Df K mg "tie_others" zd0 a.f_tie_others d.f_tie_others ["wood", "ties", "yes", "no"]
 K_left_without:Df K mg "left_without" zcd a.f_left_without d.f_left_without ["things", "one"]
 K_stand_of:Df K mg "stand_of" zhh a.f_stand_of d.f_stand_of ["picks"]
 K_open_at:Df K mg "open_at" zia a.f_open_at d.f_open_at ["wood", "picks"]
 K_first_ware_at:Df K mg "first_ware_at" zdq a.f_first_ware_at d.f_first_ware_at ["wood", "picks"]
 K_leads_on:Df K mg "leads_on" zhe a.f_leads_on d.f_leads_on ["wood", "picks", "pick"]
 K_why_barred:Df K mg "why_barred" zfa a.f_why_barred d.f_why_barred ["wood", "picks", "asked"]
 K_least_picks:Df K mg "least_picks" zeu a.f_least_picks d.f_least_picks ["wood", "ties", "picks", "asked"]
 K_pick_others:Df K mg "pick_others" zeq a.f_pick_others d.f_pick_others ["wood", "ties", "picks", "asked"]
 K_law_take:Df K mg "_law_take" zd6 a.f_law_take d.f_law_take ["_law_state", "_law_most"]
 K_law_boughs:Df K mg "_law_boughs" zcl a.f_law_boughs d.f_law_boughs ["_law_state", "_law_many"]
 K_law_cross:Df K mg "_law_cross" zbu a.f_law_cross d.f_law_cross ["_law_state", "_law_many", "_law_most"]
 K_law_wood:Df K mg "_law_wood" zd9 a.f_law_wood d.f_law_wood ["_law_state", "_law_most"]
 K_law_keeps:Df K mg "_law_keeps" zdm a.f_law_keeps d.f_law_keeps ["_law_tie", "_law_some"]
 K_law_broken:Df K mg "_law_broken" zdx a.f_law_broken d.f_law_broken ["_law_wood_here"]
 K_law_stand:Df K mg "_law_stand" zgi a.f_law_stand d.f_law_stand ["_law_chosen"]
 K_law_sets:Df K mg "_law_sets" zha a.f_law_sets d.f_law_sets ["_law_broken_here", "_law_ties", "_law_chosen"]
 K_law_played:Df K mg "_law_played" zck a.f_law_played d.f_law_played ["_law_state", "_law_choice", "_law_broken_here", "_law_many"]
 K_law_anew:Df K mg "_law_anew" zg3 a.f_law_anew d.f_law_anew ["_law_wood_here", "_law_left", "_law_put"]
 K_law_shown:Df K mg "_law_shown" zcx a.f_law_shown d.f_law_shown ["_law_broken_here", "_law_ties", "_law_left", "_law_put", "_law_others"]
 K_law:Df K mg "law" ze1 a.f_law d.f_law ["_law_script"]
 g_Choice___init__:Mk K a.x_Choice a.f_Choice___init__
 K_Choice___init__:Dm K "__init__" "Choice.__init__" zc7 a.f_Choice___init__ d.f_Choice___init__ ["self", "wood"]
 g_Choice_stand:znq K a.x_Choice "stand" a.f_Choice_stand
 K_Choice_stand:Dm K "stand" "Choice.stand" zd8 a.f_Choice_stand d.f_Choice_stand ["self"]
 g_Choice_chosen:znq K a.x_Choice "chosen" a.f_Choice_chosen
 K_Choice_chosen:Dm K "chosen" "Choice.chosen" zdt a.f_Choice_chosen d.f_Choice_chosen ["self"]
 g_Choice_offers:znq K a.x_Choice "offers" a.f_Choice_offers
 K_Choice_offers:Dm K "offers" "Choice.offers" zcs a.f_Choice_offers d.f_Choice_offers ["self"]
 g_Choice_choose:znq K a.x_Choice "choose" a.f_Choice_choose
 K_Choice_choose:Dm K "choose" "Choice.choose" zds a.f_Choice_choose d.f_Choice_choose ["self", "k", "value"]
 g_Choice_take_back:znq K a.x_Choice "take_back" a.f_Choice_take_back
 K_Choice_take_back:Dm K "take_back" "Choice.take_back" zbp a.f_Choice_take_back d.f_Choice_take_back ["self", "k"]
 g_Choice_why:znq K a.x_Choice "why" a.f_Choice_why
 K_Choice_why:Dm K "why" "Choice.why" zfo a.f_Choice_why d.f_Choice_why ["self", "k", "value"]
 code_cases_of:d.f_cases_of.code=.ref a.c_cases_of
 g_Choice:mg "Choice" = some (.ref a.x_Choice)
 C_Choice:Cls K a.x_Choice
 n_Choice_picks:NoAttr K a.x_Choice "picks"
 n_Choice_wood:NoAttr K a.x_Choice "wood"
theorem zxw:zay ["some", "k"] ["some", "k"] (zah zub):=scm rfl rfl rfl rfl rfl
theorem zjq:zay ["some", "k"] ["some", "k"] (zah zep):=scm rfl rfl rfl rfl rfl
theorem zjb:zay ["many", "yes", "no"] ["many", "yes", "no"] (zah zc4):=scm rfl rfl rfl rfl rfl
theorem zmv:zay ["wood"] ["wood"] (zah zf3):=scm rfl rfl rfl rfl rfl
theorem sc_tie_at:zay ["wood", "t", "boughs"] ["wood", "t"] (zah zk0):=scm rfl rfl rfl rfl rfl
theorem zof:zay ["kids", "some"] ["kids", "some"] (zah zfh):=scm rfl rfl rfl rfl rfl
theorem zmz:zay ["wood"] ["wood"] (zah zgd):=scm rfl rfl rfl rfl rfl
theorem zk1:zay ["tie", "yes", "no"] ["tie", "yes", "no"] (zah zek):=scm rfl rfl rfl rfl rfl
theorem zmx:zay ["pairs", "yes", "no"] ["pairs", "yes", "no"] (zah zej):=scm rfl rfl rfl rfl rfl
theorem sc_sure_broken_bough:zay ["bough", "yes", "no", "least", "greatest", "some_with_up", "some_without_up"] ["bough", "yes", "no"] (zah za4):=scm rfl rfl rfl rfl rfl
theorem sc_first_sure_broken:zay ["wood", "ties", "yes", "no", "t"] ["wood", "ties", "yes", "no"] (zah zcn):=scm rfl rfl rfl rfl rfl
theorem zo4:zay ["wood", "ties", "yes", "no"] ["wood", "ties", "yes", "no"] (zah zcc):=scm rfl rfl rfl rfl rfl
theorem znd:zay ["wood", "yes", "no"] ["wood", "yes", "no"] (zah zf7):=scm rfl rfl rfl rfl rfl
theorem sc_told_tree:zay ["wood", "ties", "yes", "no", "leaf_at", "broken", "leaf", "k", "one", "other"] ["wood", "ties", "yes", "no", "leaf_at"] (zah zdj):=scm rfl rfl rfl rfl rfl
theorem zlj:zay ["wood", "yes", "no"] ["wood", "yes", "no"] (zah zfl):=scm rfl rfl rfl rfl rfl
theorem sc_first_keeping:zay ["wood", "ties", "yes", "no", "left", "k", "found"] ["wood", "ties", "yes", "no"] (zah zb4):=scm rfl rfl rfl rfl rfl
theorem zwl:zay ["wood", "ties", "yes", "no"] ["wood", "ties", "yes", "no"] (zah zp8):=scm rfl rfl rfl rfl rfl
theorem sc_least_ties:zay ["wood", "yes", "no", "left", "t", "fewer"] ["wood", "yes", "no"] (zah zfn):=scm rfl rfl rfl rfl rfl
theorem zlf:zay ["wood", "ties", "yes", "no"] ["wood", "ties", "yes", "no"] (zah zd0):=scm rfl rfl rfl rfl rfl
theorem zfs:zay ["things", "one"] ["things", "one"] (zah zcd):=scm rfl rfl rfl rfl rfl
theorem sc_stand_of:zay ["picks", "yes", "no", "k", "value"] ["picks"] (zah zhh):=scm rfl rfl rfl rfl rfl
theorem sc_open_at:zay ["wood", "picks", "stand"] ["wood", "picks"] (zah zia):=scm rfl rfl rfl rfl rfl
theorem sc_first_ware_at:zay ["wood", "picks", "stand"] ["wood", "picks"] (zah zdq):=scm rfl rfl rfl rfl rfl
theorem znz:zay ["wood", "picks", "pick"] ["wood", "picks", "pick"] (zah zhe):=scm rfl rfl rfl rfl rfl
theorem sc_why_barred:zay ["wood", "picks", "asked", "stand", "ties", "left", "tree", "others"] ["wood", "picks", "asked"] (zah zfa):=scm rfl rfl rfl rfl rfl
theorem sc_least_picks:zay ["wood", "ties", "picks", "asked", "left", "pick", "fewer", "stand"] ["wood", "ties", "picks", "asked"] (zah zeu):=scm rfl rfl rfl rfl rfl
theorem sc_pick_others:zay ["wood", "ties", "picks", "asked", "others", "pick", "stand"] ["wood", "ties", "picks", "asked"] (zah zeq):=scm rfl rfl rfl rfl rfl
theorem sc_law_take:zay ["_law_state", "_law_most", "_law_script", "_law_at", "_law_number"] ["_law_state", "_law_most"] (zah zd6):=scm rfl rfl rfl rfl rfl
theorem sc_law_boughs:zay ["_law_state", "_law_many", "_law_groups", "_law_k", "_law_up", "_law_old", "_law_boughs_here", "_law_kids", "_law_size", "_law_low", "_law_high"] ["_law_state", "_law_many"] (zah zcl):=scm rfl rfl rfl rfl rfl
theorem sc_law_cross:zay ["_law_state", "_law_many", "_law_most", "_law_cross_here", "_law_turn", "_law_one", "_law_other", "_law_way", "_law_far", "_law_pairs", "_law_total", "_law_top"] ["_law_state", "_law_many", "_law_most"] (zah zbu):=scm rfl rfl rfl rfl rfl
theorem sc_law_wood:zay ["_law_state", "_law_most", "_law_many"] ["_law_state", "_law_most"] (zah zd9):=scm rfl rfl rfl rfl rfl
theorem sc_law_keeps:zay ["_law_tie", "_law_some", "_law_up", "_law_low", "_law_high", "_law_kids", "_law_count"] ["_law_tie", "_law_some"] (zah zdm):=scm rfl rfl rfl rfl rfl
theorem sc_law_broken:zay ["_law_wood_here", "_law_found", "_law_t", "_law_tie", "_law_some"] ["_law_wood_here"] (zah zdx):=scm rfl rfl rfl rfl rfl
theorem sc_law_stand:zay ["_law_chosen", "_law_yes", "_law_no", "_law_k", "_law_value"] ["_law_chosen"] (zah zgi):=scm rfl rfl rfl rfl rfl
theorem sc_law_sets:zay ["_law_broken_here", "_law_ties", "_law_chosen", "_law_yes", "_law_no", "_law_found", "_law_some"] ["_law_broken_here", "_law_ties", "_law_chosen"] (zah zha):=scm rfl rfl rfl rfl rfl
theorem sc_law_played:zay ["_law_state", "_law_choice", "_law_broken_here", "_law_many", "_law_chosen", "_law_turn", "_law_k", "_law_value", "_law_left"] ["_law_state", "_law_choice", "_law_broken_here", "_law_many"] (zah zck):=scm rfl rfl rfl rfl rfl
theorem sc_law_anew:zay ["_law_wood_here", "_law_left", "_law_put", "_law_fresh", "_law_k", "_law_value"] ["_law_wood_here", "_law_left", "_law_put"] (zah zg3):=scm rfl rfl rfl rfl rfl
theorem sc_law_shown:zay ["_law_broken_here", "_law_ties", "_law_left", "_law_put", "_law_others", "_law_one", "_law_some", "_law_broke", "_law_lacks"] ["_law_broken_here", "_law_ties", "_law_left", "_law_put", "_law_others"] (zah zcx):=scm rfl rfl rfl rfl rfl
theorem sc_law:zay ["_law_script", "_law_state", "_law_wood_here", "_law_broken_here", "_law_choice", "_law_chosen", "_law_named", "_law_offers", "_law_puts", "_law_k", "_law_put", "_law_ties", "_law_left", "_law_tree", "_law_others", "_law_fresh", "_law_value", "_law_cross_here"] ["_law_script"] (zah ze1):=scm rfl rfl rfl rfl rfl
theorem zg6:zay ["self", "wood"] ["self", "wood"] (zah zc7):=scm rfl rfl rfl rfl rfl
theorem zi4:zay ["self"] ["self"] (zah zd8):=scm rfl rfl rfl rfl rfl
theorem zic:zay ["self"] ["self"] (zah zdt):=scm rfl rfl rfl rfl rfl
theorem sc_Choice_offers:zay ["self", "pairs", "k"] ["self"] (zah zcs):=scm rfl rfl rfl rfl rfl
theorem zij:zay ["self", "k", "value"] ["self", "k", "value"] (zah zds):=scm rfl rfl rfl rfl rfl
theorem zgu:zay ["self", "k"] ["self", "k"] (zah zbp):=scm rfl rfl rfl rfl rfl
theorem zlo:zay ["self", "k", "value"] ["self", "k", "value"] (zah zfo):=scm rfl rfl rfl rfl rfl
section
variable {P : Program} {w : World} {K : PySem.W.Frag} {mg : Str → Option Value} {base : Heap} {a : Adr} {d : Fds}
def zyv:Sp:=fun vs H Q _=>∃n k:Int,vs=[.int n,.int k]∧Q (.bl (zpt n k)) H
theorem zh9(T:Txt K mg a d):FnOk P w K mg base CX0 1 a.f_has d.f_has ["some", "k"] zyv:=by
 refine T.K_has.ok zxw (fun vs H Q E h=>?_) (fun cdv A outer s H vs Q E hr h=>?_)
 ·obtain⟨n,k,rfl,_⟩:=h
  rfl
 obtain⟨n,k,rfl,q⟩:=h
 refine⟨_,(zai (zaw (zeo (zbo zws (pv 1) zaf (zau _)) (zfj (zbo zb3 (zav zc6 (zav zet (pv 0) (pv 1)) zaf) zaf (zau _)))))),?_⟩
 refine⟨_,rfl,_,_,rfl,rfl,_,rfl,?_⟩
 refine zcw (fun c=>?_) (fun c=>?_)
 ·have hk:(0:Int)≤k:=of_decide_eq_true c
  refine⟨_,rfl,_,rfl,_,_,rfl,rfl,hk,_,_,rfl,rfl,rfl,?_⟩
  have e:decide (V.int (Builtin.bitAnd (n/2^k.toNat) 1)=V.int 1)=zpt n k:=by
   unfold zpt
   rw[decide_eq_true hk,Bool.true_and,zjk,zyq]
   by_cases z:n/2^k.toNat%2=1
   ·rw[decide_eq_true z]
    simpa using z
   ·rw[decide_eq_false z]
    simpa using z
  show Q (.bl (decide (V.int (Builtin.bitAnd (n/2^k.toNat) 1)=V.int 1))) H
  rw[e]
  exact q
 ·have hk:¬(0:Int)≤k:=of_decide_eq_false (Bool.eq_false_iff.mpr c)
  have e:zpt n k=false:=by
   unfold zpt
   rw[decide_eq_false hk,Bool.false_and]
  rw[e] at q
  exact q
theorem zc3(T:Txt K mg a d):FnOk P w K mg base CX0 1 a.f_with_option d.f_with_option ["some", "k"] zv4:=by
 refine T.K_with_option.ok zjq (fun vs H Q E h=>?_) (fun cdv A outer s H vs Q E hr h=>?_)
 ·obtain⟨n,k,rfl,_⟩:=h
  rfl
 obtain⟨n,k,rfl,hk,q⟩:=h
 refine⟨_,(zai (zaw (zav zob (pv 0) (zav zio zaf (pv 1))))),?_⟩
 refine⟨_,rfl,_,rfl,_,_,rfl,rfl,⟨by omega,by omega,by decide⟩,_,_,rfl,rfl,?_⟩
 have e:Builtin.bitOr (n:Int) (1*2^((k:Nat):Int).toNat)=((n|||2^k:Nat):Int):=by rw[zll,zhr]
 show Q (.int (Builtin.bitOr (n:Int) (1*2^((k:Nat):Int).toNat))) H
 rw[e]
 exact q
theorem zcr(T:Txt K mg a d):FnOk P w K mg base CX0 2 a.f_open_options d.f_open_options ["many", "yes", "no"] zx5:=by
 have aa:=zh9 (P:=P) (w:=w) (base:=base) T
 refine T.K_open_options.ok zjb (fun vs H Q E h=>?_) (fun cdv A outer s H vs Q E hr h=>?_)
 ·obtain⟨m,y,n,rfl,_⟩:=h
  rfl
 obtain⟨m,y,n,rfl,m9,q⟩:=h
 have ae:(2:Int)^62=4611686018427387904:=by decide
 refine⟨_,(zai (zaw (zdu (N':=["k", "yes", "no"]) (n:=1) (kp:=[1,2]) rfl (zdc rfl T.m_range (zaa (pv 0) zac)) rfl rfl rfl (fun _ _ _ _ _=>(zan (i:=0) (of_decide_eq_true rfl) rfl (Or.inl rfl))) (fun _ _ _ _ _=>(zbv (zkl (zcv (zag aa hr.lv rfl T.K_has (zaa (zav zob (pv 1) (pv 2)) (zaa (pv 0) zac))))))) (fun _ _ _ _ _=>(pv 0))))),?_⟩
 refine⟨_,rfl,_,rfl,by rw[ae];omega,by rw[ae];omega,?_⟩
 rw[Int.toNat_natCast]
 refine zh6 (k:=m) (fun i ys σ H2=>(∃v,σ=[v,some (.int y),some (.int n)])∧H2=H∧i≤m∧ys=zam ((List.range i).filter fun k=>!(y|||n).testBit k)) ⟨⟨none,rfl⟩,rfl,Nat.zero_le _,rfl⟩ (fun i ys σ H2 hi pv=>?_) (fun i ys σ H2 hi pv=>?_) (fun ys σ H2 pv fl ad=>?_)
 ·obtain⟨_,_,h1,rfl⟩:=pv
  rw[List.length_map]
  refine zaq (Nat.le_trans (List.length_filter_le _ _) ?_)
  rw[List.length_range]
  omega
 ·obtain⟨⟨v0,rfl⟩,rfl,h1,rfl⟩:=pv
  refine⟨_,rfl,_,rfl,_,_,rfl,rfl,_,rfl,_,_,rfl,_,rfl,?_⟩
  have ee:=zhj (fun k=>!(y|||n).testBit k) i
  rw[zhr,zci]
  refine zcw (fun c2=>?_) (fun c2=>?_)
  ·refine⟨_,rfl,⟨_,rfl⟩,rfl,hi,?_⟩
   rw[ee,if_pos c2]
   show _=List.map _ (_++[i])
   rw[List.map_append]
   rfl
  ·refine⟨⟨_,rfl⟩,rfl,hi,?_⟩
   rw[ee,if_neg c2,List.append_nil]
 obtain⟨_,rfl,_,rfl⟩:=pv
 exact q fl _ (zad ad _) ad zab
theorem znm(T:Txt K mg a d):FnOk P w K mg base CX0 1 a.f_many_ties d.f_many_ties ["wood"] zxu:=by
 refine T.K_many_ties.ok zmv (fun vs H Q E h=>?_) (fun cdv A outer s H vs Q E hr h=>?_)
 ·obtain⟨wd,many,xs,ys,rfl,_⟩:=h
  rfl
 obtain⟨wd,many,xs,ys,rfl,⟨tb,tc,hw,hb,hc⟩,q⟩:=h
 refine⟨_,(zai (zaw (zav zb9 (za3 (zer (K:=K)) rfl T.m_len PySem.boot_len (zaa (zax (ixT (K:=K)) (pv 0) zaf (fun _ _=>rfl)) zac)) (za3 (zer (K:=K)) rfl T.m_len PySem.boot_len (zaa (zax (ixT (K:=K)) (pv 0) zaf (fun _ _=>rfl)) zac))))),?_⟩
 exact⟨_,rfl,wd,_,_,_,rfl,rfl,sqT hw,at1,tb,_,rfl,.inr (sqT hb),_,rfl,wd,_,_,_,rfl,rfl,sqT hw,at2,tc,_,rfl,.inr (sqT hc),_,_,rfl,rfl,q⟩
theorem zsz(T:Txt K mg a d):FnOk P w K mg base CX0 1 a.f_tie_at d.f_tie_at ["wood", "t"] zwi:=by
 refine T.K_tie_at.ok sc_tie_at (fun vs H Q E h=>?_) (fun cdv A outer s H vs Q E hr h=>?_)
 ·obtain⟨wd,many,xs,ys,t,v,rfl,_⟩:=h
  rfl
 obtain⟨wd,many,xs,ys,t,v,rfl,⟨tb,tc,hw,hb,hc⟩,hv,q⟩:=h
 refine⟨_,(zae (zar (i:=2) sc_tie_at.nd rfl (Or.inl rfl) (zax (ixT (K:=K)) (pv 0) zaf (fun _ _=>rfl)))
   (zae (za7 (zap zoa (pv 1) (za3 (zer (K:=K)) rfl T.m_len PySem.boot_len (zaa (pv 2) zac)) (zau _)) (zai (zaw (zax (ixT (K:=K)) (pv 2) (pv 1) (fun _ _=>rfl)))) za1)
   (zai (zaw (zax (ixT (K:=K)) (zax (ixT (K:=K)) (pv 0) zaf (fun _ _=>rfl)) (zav zgk (pv 1) (za3 (zer (K:=K)) rfl T.m_len PySem.boot_len (zaa (pv 2) zac))) (fun _ _=>rfl)))))),?_⟩
 refine⟨_,rfl,wd,_,_,_,rfl,rfl,sqT hw,at1,?_⟩
 refine⟨_,rfl,_,rfl,tb,_,rfl,.inr (sqT hb),_,_,rfl,rfl,_,rfl,?_⟩
 refine zcw (fun c=>?_) (fun c=>?_)
 ·have c':(t:Int)<(xs.length:Nat):=of_decide_eq_true c
  rw[List.getElem?_append_left (by omega)] at hv
  exact⟨_,rfl,_,rfl,tb,_,_,_,rfl,rfl,sqT hb,zc5 hv,q⟩
 ·have c':¬(t:Int)<(xs.length:Nat):=of_decide_eq_false (Bool.eq_false_iff.mpr c)
  rw[List.getElem?_append_right (by omega)] at hv
  have e:((t:Int)-((xs.length:Nat):Int))=((t-xs.length:Nat):Int):=by omega
  refine⟨_,rfl,wd,_,_,_,rfl,rfl,sqT hw,at2,_,rfl,_,rfl,tb,_,rfl,.inr (sqT hb),_,_,rfl,rfl,tc,_,_,_,rfl,rfl,sqT hc,?_,q⟩
  show atI ys ((t:Int)-((xs.length:Nat):Int))=some v
  rw[e]
  exact zc5 hv
def zwd:Sp:=fun vs H Q _=>∃(p:Addr)(ks:List Nat)(n:Nat),vs=[.ref p,.int n]∧H p=some (.tup (ks.map fun k:Nat=>V.int (k:Int)))∧ks.length≤1000∧∀H',Same H H'→Q (.int (cnt ks n:Nat)) H'
theorem zpq(T:Txt K mg a d):FnOk P w K mg base CX0 2 a.f_count_in d.f_count_in ["kids", "some"] zwd:=by
 have aa:=zh9 (P:=P) (w:=w) (base:=base) T
 refine T.K_count_in.ok zof (fun vs H Q E h=>?_) (fun cdv A outer s H vs Q E hr h=>?_)
 ·obtain⟨p,ks,n,rfl,_⟩:=h
  rfl
 obtain⟨p,ks,n,rfl,hp,hk,q⟩:=h
 refine⟨_,(zai (zaw (za3 (zer (K:=K)) rfl T.m_len PySem.boot_len (zaa (zdu (N':=["k", "some"]) (n:=1) (kp:=[1]) rfl (piT (K:=K) (pv 0)) rfl rfl rfl (fun _ _ _ _ _=>(zan (i:=0) (of_decide_eq_true rfl) rfl (Or.inl rfl))) (fun _ _ _ _ _=>(zbv (zcv (zag aa hr.lv rfl T.K_has (zaa (pv 1) (zaa (pv 0) zac)))))) (fun _ _ _ _ _=>(pv 0))) zac)))),?_⟩
 refine⟨_,rfl,p,rfl,⟨_,sqT hp⟩,?_⟩
 refine zm4 (K:=K) (a:=p) (xs:=ks.map fun k:Nat=>V.int (k:Int)) (fun i ys σ H2=>(∃v,σ=[v,some (.int n)])∧H2=H∧i≤ks.length∧ys=((ks.take i).filter fun k=>n.testBit k).map fun k:Nat=>V.int (k:Int)) ⟨⟨none,rfl⟩,rfl,Nat.zero_le _,rfl⟩ (fun i ys σ H2 hi pv=>?_) (fun i ys σ H2 hi pv=>?_) (fun i x ys σ H2 hx pv=>?_) (fun ys σ H2 pv l hl=>?_)
 ·obtain⟨_,_,h1,rfl⟩:=pv
  rw[List.length_map]
  refine zaq (Nat.le_trans (List.length_filter_le _ _) ?_)
  rw[List.length_take]
  omega
 ·rw[pv.2.1]
  exact sqT hp
 ·obtain⟨⟨v,rfl⟩,rfl,h1,rfl⟩:=pv
  rw[List.getElem?_map] at hx
  obtain⟨k,ad,rfl⟩:=Option.map_eq_some_iff.mp hx
  have hj:i<ks.length:=(List.getElem?_eq_some_iff.mp ad).1
  have ee:=PySem.take_succ_filter (fun k=>n.testBit k) ks i k ad
  refine⟨_,rfl,_,rfl,_,_,rfl,_,rfl,?_⟩
  rw[zci]
  refine zcw (fun c=>?_) (fun c=>?_)
  ·refine⟨_,rfl,⟨_,rfl⟩,rfl,hj,?_⟩
   rw[ee,if_pos c,List.map_append]
   rfl
  ·refine⟨⟨_,rfl⟩,rfl,hj,?_⟩
   rw[ee,if_neg c,List.append_nil]
 ·obtain⟨_,rfl,_,rfl⟩:=pv
  have fin:∀L:List V,L.length=cnt ks n→∀H',Same H2 H'→Q (.int (L.length:Nat)) H':=fun L e H' sm=>by
   rw[e]
   exact q H' sm
  exact⟨l,_,rfl,.inl (SqL.of zab),fin _ (by simp[cnt]) _ (zad hl _)⟩
theorem zh3(T:Txt K mg a d):FnOk P w K mg base CX0 2 a.f_every_tie d.f_every_tie ["wood"] zwc:=by
 have aa:=znm (P:=P) (w:=w) (base:=base) T
 refine T.K_every_tie.ok zmz (fun vs H Q E h=>?_) (fun cdv A outer s H vs Q E hr h=>?_)
 ·obtain⟨wd,m,ts,rfl,_⟩:=h
  rfl
 obtain⟨wd,m,ts,rfl,W,q⟩:=h
 have ad:(2:Int)^62=4611686018427387904:=by decide
 obtain⟨xs,ys,WA,dn⟩:=W.ex
 have few:=W.few
 have ln:ts.length=xs.length+ys.length:=by
  have:=dn.length
  rw[List.length_map,List.length_append] at this
  exact this
 refine⟨_,(zai (zaw (zbt (zlk rfl) rfl T.m_list PyProof.Rows.boot_list (zaa (zbt zr3 rfl T.m_range PyProof.Rows.boot_range (zaa (zag aa hr.lv rfl T.K_many_ties (zaa (pv 0) zac)) zac)) zac)))),?_⟩
 refine⟨_,rfl,wd,m,xs,ys,rfl,WA,_,rfl,fun rp ae=>?_⟩
 refine⟨rp,0,_,rfl,zab,by rw[ad];omega,by rw[ad];omega,by rw[ad];omega,by rw[ad];omega,by omega,fun l hl=>?_⟩
 have e:((List.range' 0 ((xs.length:Int)+(ys.length:Int)-0).toNat).map fun i:Nat=>V.int (0+(i:Int)))=(List.range ts.length).map fun i:Nat=>V.int (i:Int):=by
  have e1:((xs.length:Int)+(ys.length:Int)-0).toNat=ts.length:=by omega
  rw[e1,List.range_eq_range']
  simp
 rw[e]
 have s1:=(zad ae (.rng 0 ((xs.length:Int)+(ys.length:Int)))).trans (zad hl (.lst ((List.range ts.length).map fun i:Nat=>V.int (i:Int))))
 exact q l _ s1 ((zad ae (.rng 0 ((xs.length:Int)+(ys.length:Int)))).free hl) zab
theorem zf9(T:Txt K mg a d):FnOk P w K mg base CX0 3 a.f_sure_broken_bough d.f_sure_broken_bough ["bough", "yes", "no"] (zvc Tie.sb):=by
 have ae:=zh9 (P:=P) (w:=w) (base:=base) T
 have aa:=zpq (P:=P) (w:=w) (base:=base) T
 refine T.K_sure_broken_bough.ok sc_sure_broken_bough (fun vs H Q E h=>?_) (fun cdv A outer s H vs Q E hr h=>?_)
 ·obtain⟨u,lo,hi,ks,m,y,n,v,rfl,_⟩:=h
  rfl
 obtain⟨u,lo,hi,ks,m,y,n,v,rfl,hd,ok,hm,q⟩:=h
 obtain⟨p,pk,rfl,hp,aj⟩:=zk5 hd
 have few:=ok.few
 have ai:∃t,PSs (zd2 CX0 P w K mg base ["bough", "yes", "no", "least", "greatest", "some_with_up", "some_without_up"] "sure_broken_bough" (zah za4) a.f_sure_broken_bough cdv A outer s H E).nox ((zba za4).drop 4) t∧∀(v3 v4:Option V)(b5 b6:Bool)(H1:Hp),Same H H1→(!b5&&!b6)=(Tie.bough u lo hi ks).sb y n→t { nx:=fun _ H'=>Q .non H',rt:=Q } [some (.ref p),some (.int y),some (.int n),v3,v4,some (.bl b5),some (.bl b6)] H1:=by
  refine⟨_,(zai (zaw (zeo (zjt (pv 5)) (zfj (zjt (pv 6)))))),?_⟩
  intro v3 v4 b5 b6 H1 s1 e
  have q1:=q H1 s1
  rw[←e] at q1
  refine⟨_,rfl,_,rfl,_,rfl,?_⟩
  refine zcw (fun c=>?_) (fun c=>?_)
  ·rw[c,Bool.true_and] at q1
   exact⟨_,rfl,_,rfl,q1⟩
  ·rw[Bool.eq_false_iff.mpr c,Bool.false_and] at q1
   exact q1
 obtain⟨t4,h4,r4⟩:=ai
 have ah:∃t,PSs (zd2 CX0 P w K mg base ["bough", "yes", "no", "least", "greatest", "some_with_up", "some_without_up"] "sure_broken_bough" (zah za4) a.f_sure_broken_bough cdv A outer s H E).nox ((zba za4).drop 3) t∧∀(g:Int)(b5:Bool)(H1:Hp),Same H H1→g=(ks.length:Int)-cnt ks n→b5=(!n.testBit u&&(decide ((cnt ks y:Int)≤hi)&&decide (lo≤g)))→t { nx:=fun _ H'=>Q .non H',rt:=Q } [some (.ref p),some (.int y),some (.int n),some (.int (cnt ks y:Nat)),some (.int g),some (.bl b5),none] H1:=by
  refine⟨_,(zae (zar (i:=6) sc_sure_broken_bough.nd rfl (Or.inl rfl) (zeo (zjt (zag ae hr.lv rfl T.K_has (zaa (pv 1) (zaa (zax (ixT (K:=K)) (pv 0) zaf (fun _ _=>rfl)) zac)))) (zfj (zbo zb3 (pv 3) zaf (zau _)))))
   h4),?_⟩
  intro g b5 H1 s1 eg e5
  have ad:=s1 _ _ hp
  refine⟨_,rfl,_,rfl,p,_,_,_,rfl,rfl,sqT ad,at0,_,_,rfl,_,rfl,_,rfl,?_⟩
  rw[zci]
  refine zcw (fun c=>?_) (fun c=>?_)
  ·refine⟨_,rfl,rfl,?_⟩
   refine r4 _ _ _ _ _ s1 ?_
   rw[e5,eg,zh1]
   show _=(!_&&!(!y.testBit u&&decide (cnt ks y=0)))
   rw[c,Bool.true_and]
  ·refine r4 _ _ _ _ _ s1 ?_
   rw[e5,eg]
   show _=(!_&&!(!y.testBit u&&decide (cnt ks y=0)))
   rw[Bool.eq_false_iff.mpr c,Bool.false_and]
 obtain⟨t3,h3,r3⟩:=ah
 have ag:∃t,PSs (zd2 CX0 P w K mg base ["bough", "yes", "no", "least", "greatest", "some_with_up", "some_without_up"] "sure_broken_bough" (zah za4) a.f_sure_broken_bough cdv A outer s H E).nox ((zba za4).drop 2) t∧∀(g:Int)(H1:Hp),Same H H1→g=(ks.length:Int)-cnt ks n→t { nx:=fun _ H'=>Q .non H',rt:=Q } [some (.ref p),some (.int y),some (.int n),some (.int (cnt ks y:Nat)),some (.int g),none,none] H1:=by
  refine⟨_,(zae (zar (i:=5) sc_sure_broken_bough.nd rfl (Or.inl rfl) (zeo (zjt (zag ae hr.lv rfl T.K_has (zaa (pv 2) (zaa (zax (ixT (K:=K)) (pv 0) zaf (fun _ _=>rfl)) zac)))) (zeo (zbo zl8 (pv 3) (zax (ixT (K:=K)) (pv 0) zaf (fun _ _=>rfl)) (zau _)) (zfj (zbo zl8 (zax (ixT (K:=K)) (pv 0) zaf (fun _ _=>rfl)) (pv 4) (zau _))))))
   h3),?_⟩
  intro g H1 s1 eg
  have ad:=s1 _ _ hp
  refine⟨_,rfl,_,rfl,p,_,_,_,rfl,rfl,sqT ad,at0,_,_,rfl,_,rfl,_,rfl,?_⟩
  rw[zci]
  refine zcw (fun c=>?_) (fun c=>?_)
  ·refine⟨_,rfl,_,rfl,p,_,_,_,rfl,rfl,sqT ad,at2,_,_,rfl,rfl,_,rfl,?_⟩
   refine zcw (fun c2=>?_) (fun c2=>?_)
   ·refine⟨_,rfl,p,_,_,_,rfl,rfl,sqT ad,at1,_,rfl,_,_,rfl,rfl,?_⟩
    exact r3 _ _ _ s1 eg (by rw[c,Bool.true_and,c2,Bool.true_and])
   ·exact r3 _ _ _ s1 eg (by rw[c,Bool.true_and,Bool.eq_false_iff.mpr c2,Bool.false_and])
  ·exact r3 _ _ _ s1 eg (by rw[Bool.eq_false_iff.mpr c,Bool.false_and])
 obtain⟨t2,h2,r2⟩:=ag
 refine⟨_,(zae (zar (i:=3) sc_sure_broken_bough.nd rfl (Or.inl rfl) (zag aa hr.lv rfl T.K_count_in (zaa (zax (ixT (K:=K)) (pv 0) zaf (fun _ _=>rfl)) (zaa (pv 1) zac))))
   (zae (zar (i:=4) sc_sure_broken_bough.nd rfl (Or.inl rfl) (zav zgk (za3 (zer (K:=K)) rfl T.m_len PySem.boot_len (zaa (zax (ixT (K:=K)) (pv 0) zaf (fun _ _=>rfl)) zac)) (zag aa hr.lv rfl T.K_count_in (zaa (zax (ixT (K:=K)) (pv 0) zaf (fun _ _=>rfl)) (zaa (pv 2) zac)))))
   h2)),?_⟩
 refine⟨_,rfl,p,_,_,_,rfl,rfl,sqT hp,at3,_,rfl,pk,ks,y,rfl,aj,by omega,fun H1 s1=>?_⟩
 have ad:=s1 _ _ hp
 have af:=s1 _ _ aj
 refine⟨_,rfl,p,_,_,_,rfl,rfl,sqT ad,at3,pk,_,rfl,.inr (sqT af),?_⟩
 refine⟨_,rfl,p,_,_,_,rfl,rfl,sqT ad,at3,_,rfl,pk,ks,n,rfl,af,by omega,fun H2 s2=>?_⟩
 refine⟨_,_,rfl,rfl,?_⟩
 exact r2 _ _ (s1.trans s2) (by rw[List.length_map])
theorem zlg(T:Txt K mg a d):FnOk P w K mg base CX0 2 a.f_least_sum d.f_least_sum ["pairs", "yes", "no"] (zu7 zeb):=by
 have aa:=zh9 (P:=P) (w:=w) (base:=base) T
 refine T.K_least_sum.ok zmx (fun vs H Q E h=>?_) (fun cdv A outer s H vs Q E hr h=>?_)
 ·obtain⟨pq,xs,ps,y,n,rfl,_⟩:=h
  rfl
 obtain⟨pq,xs,ps,y,n,rfl,hq,af,few,q⟩:=h
 have lx:xs.length=ps.length:=by rw[←af.length,List.length_map]
 refine⟨_,(zai (zaw (za3 (zen rfl) rfl T.m_sum PyProof.Rows.boot_sum (zaa (zdu (N':=["k", "number", "yes", "no"]) (n:=2) (kp:=[1,2]) rfl (zx2 (pv 0)) rfl rfl rfl (fun _ _ _ _ _=>(pgT (K:=K) (n:=2) rfl (za0 (zan (i:=0) (of_decide_eq_true rfl) rfl (Or.inl rfl)) (za0 (zan (i:=1) (of_decide_eq_true rfl) rfl (Or.inl rfl)) zbq)))) (fun _ _ _ _ _=>(zbv (PW.pt (zjr (zcv (zag aa hr.lv rfl T.K_has (zaa (pv 2) (zaa (pv 0) zac)))) (zid (PW.pt (zh8 (zap zoa (pv 1) zaf (zau _)) (zh5 (zkl (zcv (zag aa hr.lv rfl T.K_has (zaa (pv 3) (zaa (pv 0) zac))))))))))))) (fun _ _ _ _ _=>(pv 1))) zac)))),?_⟩
 refine⟨_,rfl,pq,rfl,?_⟩
 refine zxj (K:=K) (a:=pq) (xs:=xs) hq (fun i ys σ H2=>(∃v v',σ=[v,v',some (.int y),some (.int n)])∧H2=H∧i≤ps.length∧ys=(((ps.take i).filter fun p=>y.testBit p.1||(decide (p.2<0)&&!n.testBit p.1)).map (·.2)).map V.int) ⟨⟨none,none,rfl⟩,rfl,Nat.zero_le _,rfl⟩ (fun i ys σ H2 hi pv=>?_) (fun i ys σ H2 hi pv=>?_) (fun i x ys σ H2 hx pv=>?_) (fun ys σ H2 pv l hl=>?_)
 ·obtain⟨_,_,h1,rfl⟩:=pv
  rw[List.length_map,List.length_map]
  refine zaq (Nat.le_trans (List.length_filter_le _ _) ?_)
  rw[List.length_take]
  omega
 ·rw[pv.2.1]
 ·obtain⟨⟨v,v',rfl⟩,rfl,h1,rfl⟩:=pv
  obtain⟨pr,r,ae,rfl,ag⟩:=zq0 af hx
  have hj:i<ps.length:=(List.getElem?_eq_some_iff.mp ae).1
  have ee:=PySem.take_succ_filter (fun p:Nat×Int=>y.testBit p.1||(decide (p.2<0)&&!n.testBit p.1)) ps i pr ae
  have yes:(y.testBit pr.1||(decide (pr.2<0)&&!n.testBit pr.1))=true→((((ps.take i).filter fun p=>y.testBit p.1||(decide (p.2<0)&&!n.testBit p.1)).map (·.2)).map V.int)++[V.int pr.2]=(((ps.take (i+1)).filter fun p=>y.testBit p.1||(decide (p.2<0)&&!n.testBit p.1)).map (·.2)).map V.int:=fun c=>by
   rw[ee,if_pos c,List.map_append,List.map_append]
   rfl
  have ad:(y.testBit pr.1||(decide (pr.2<0)&&!n.testBit pr.1))=false→((((ps.take i).filter fun p=>y.testBit p.1||(decide (p.2<0)&&!n.testBit p.1)).map (·.2)).map V.int)=(((ps.take (i+1)).filter fun p=>y.testBit p.1||(decide (p.2<0)&&!n.testBit p.1)).map (·.2)).map V.int:=fun c=>by
   rw[ee,if_neg (by rw[c];exact Bool.false_ne_true),List.append_nil]
  refine⟨r,_,rfl,sqT ag,rfl,_,_,rfl,_,_,rfl,rfl,?_⟩
  refine⟨_,rfl,_,rfl,_,_,rfl,_,rfl,?_⟩
  rw[zci]
  refine zcw (fun c=>?_) (fun c=>?_)
  ·refine zkg ?_
   exact⟨_,rfl,⟨_,_,rfl⟩,rfl,hj,yes (by rw[c,Bool.true_or])⟩
  ·have c':=Bool.eq_false_iff.mpr c
   refine⟨_,rfl,_,_,rfl,rfl,_,rfl,?_⟩
   refine zcw (fun c2=>?_) (fun c2=>?_)
   ·refine⟨_,rfl,_,rfl,_,_,rfl,_,rfl,?_⟩
    rw[zci]
    refine zcw (fun c3=>?_) (fun c3=>?_)
    ·exact⟨_,rfl,⟨_,_,rfl⟩,rfl,hj,yes (by rw[c',Bool.false_or,c2,Bool.true_and,c3])⟩
    ·exact⟨⟨_,_,rfl⟩,rfl,hj,ad (by rw[c',Bool.false_or,c2,Bool.true_and,Bool.eq_false_iff.mpr c3])⟩
   ·refine zgb ?_
    exact⟨⟨_,_,rfl⟩,rfl,hj,ad (by rw[c',Bool.false_or,Bool.eq_false_iff.mpr c2,Bool.false_and])⟩
 ·obtain⟨_,rfl,_,rfl⟩:=pv
  refine⟨l,_,rfl,SqL.of zab,?_⟩
  have q1:=q _ (zad hl (.lst ((((ps.take xs.length).filter fun p=>y.testBit p.1||(decide (p.2<0)&&!n.testBit p.1)).map (·.2)).map V.int)))
  have e:zeb ps y n=(((ps.take xs.length).filter fun p=>y.testBit p.1||(decide (p.2<0)&&!n.testBit p.1)).map (·.2)).sum:=by
   rw[lx,List.take_length]
   rfl
  rw[e] at q1
  exact q1
theorem zng(T:Txt K mg a d):FnOk P w K mg base CX0 2 a.f_least_sum d.f_least_sum ["pairs", "yes", "no"] (zwr zeb):=(zlg T).imp fun _ _ _ _=>zr7
theorem zj0(T:Txt K mg a d):FnOk P w K mg base CX0 4 a.f_sure_broken d.f_sure_broken ["tie", "yes", "no"] (zx3 Tie.sb):=by
 have ae:=zh9 (P:=P) (w:=w) (base:=base) T
 have ad:=zng (P:=P) (w:=w) (base:=base) T
 have aa:=zf9 (P:=P) (w:=w) (base:=base) T
 refine T.K_sure_broken.ok zk1 (fun vs H Q E h=>?_) (fun cdv A outer s H vs Q E hr h=>?_)
 ·obtain⟨t,m,y,n,v,rfl,_⟩:=h
  rfl
 obtain⟨t,m,y,n,v,rfl,hd,ok,hm,q⟩:=h
 have q0:=q H (Same.refl H)
 refine⟨_,(zae (za7 (zap zb3 (zax (ixT (K:=K)) (pv 0) zaf (fun _ _=>rfl)) zdr (zau _)) (zai (zaw (zeo (zag ae hr.lv rfl T.K_has (zaa (pv 1) (zaa (zax (ixT (K:=K)) (pv 0) zaf (fun _ _=>rfl)) zac))) (zfj (zag ae hr.lv rfl T.K_has (zaa (pv 2) (zaa (zax (ixT (K:=K)) (pv 0) zaf (fun _ _=>rfl)) zac))))))) za1)
   (zae (za7 (zap zb3 (zax (ixT (K:=K)) (pv 0) zaf (fun _ _=>rfl)) zdr (zau _)) (zai (zaw (zeo (zag ae hr.lv rfl T.K_has (zaa (pv 1) (zaa (zax (ixT (K:=K)) (pv 0) zaf (fun _ _=>rfl)) zac))) (zfj (zag ae hr.lv rfl T.K_has (zaa (pv 1) (zaa (zax (ixT (K:=K)) (pv 0) zaf (fun _ _=>rfl)) zac))))))) za1)
   (zae (za7 (zap zb3 (zax (ixT (K:=K)) (pv 0) zaf (fun _ _=>rfl)) zdr (zau _)) (zai (zaw (zbo zix (zag ad hr.lv rfl T.K_least_sum (zaa (zax (ixT (K:=K)) (pv 0) zaf (fun _ _=>rfl)) (zaa (pv 1) (zaa (pv 2) zac)))) (zax (ixT (K:=K)) (pv 0) zaf (fun _ _=>rfl)) (zau _)))) za1)
   (zai (zaw (zag aa hr.lv rfl T.K_sure_broken_bough (zaa (pv 0) (zaa (pv 1) (zaa (pv 2) zac))))))))),?_⟩
 cases t with
 |needs x z=>
  obtain⟨p,rfl,hp⟩:=zjd hd
  refine⟨_,rfl,p,_,_,_,rfl,rfl,sqT hp,at0,rfl,_,rfl,?_⟩
  refine zgw rfl ?_
  refine⟨_,rfl,_,rfl,p,_,_,_,rfl,rfl,sqT hp,at1,_,_,rfl,_,rfl,?_⟩
  rw[zci]
  have q1:Q (.bl (y.testBit x&&n.testBit z)) H:=q0
  refine zcw (fun c=>?_) (fun c=>?_)
  ·rw[c,Bool.true_and] at q1
   refine⟨_,rfl,_,rfl,p,_,_,_,rfl,rfl,sqT hp,at2,_,_,rfl,?_⟩
   rw[zci]
   exact q1
  ·rw[Bool.eq_false_iff.mpr c,Bool.false_and] at q1
   exact q1
 |bans x z=>
  obtain⟨p,rfl,hp⟩:=zjd hd
  refine⟨_,rfl,p,_,_,_,rfl,rfl,sqT hp,at0,rfl,_,rfl,?_⟩
  refine zb0 zjz ?_
  refine⟨_,rfl,p,_,_,_,rfl,rfl,sqT hp,at0,rfl,_,rfl,?_⟩
  refine zgw rfl ?_
  refine⟨_,rfl,_,rfl,p,_,_,_,rfl,rfl,sqT hp,at1,_,_,rfl,_,rfl,?_⟩
  rw[zci]
  have q1:Q (.bl (y.testBit x&&y.testBit z)) H:=q0
  refine zcw (fun c=>?_) (fun c=>?_)
  ·rw[c,Bool.true_and] at q1
   refine⟨_,rfl,_,rfl,p,_,_,_,rfl,rfl,sqT hp,at2,_,_,rfl,?_⟩
   rw[zci]
   exact q1
  ·rw[Bool.eq_false_iff.mpr c,Bool.false_and] at q1
   exact q1
 |most top ps=>
  obtain⟨p,pq,xs,rfl,hp,hq,af⟩:=zrg hd
  have few:ps.length≤m:=ok.2.2.2
  refine⟨_,rfl,p,_,_,_,rfl,rfl,sqT hp,at0,rfl,_,rfl,?_⟩
  refine zb0 zkw ?_
  refine⟨_,rfl,p,_,_,_,rfl,rfl,sqT hp,at0,rfl,_,rfl,?_⟩
  refine zb0 zma ?_
  refine⟨_,rfl,p,_,_,_,rfl,rfl,sqT hp,at0,rfl,_,rfl,?_⟩
  refine zgw rfl ?_
  refine⟨_,rfl,p,_,_,_,rfl,rfl,sqT hp,at2,_,rfl,_,rfl,pq,xs,ps,y,n,rfl,hq,af,by omega,fun H1 s1=>?_⟩
  exact⟨_,rfl,p,_,_,_,rfl,rfl,sqT (s1 _ _ hp),at1,_,_,rfl,rfl,q H1 s1⟩
 |bough u lo hi ks=>
  obtain⟨p,pk,e,hp,ag⟩:=zk5 hd
  subst e
  refine⟨_,rfl,p,_,_,_,rfl,rfl,sqT hp,at0,rfl,_,rfl,?_⟩
  refine zb0 int_str ?_
  refine⟨_,rfl,p,_,_,_,rfl,rfl,sqT hp,at0,rfl,_,rfl,?_⟩
  refine zb0 int_str ?_
  refine⟨_,rfl,p,_,_,_,rfl,rfl,sqT hp,at0,rfl,_,rfl,?_⟩
  refine zb0 int_str ?_
  exact⟨_,rfl,_,rfl,_,rfl,u,lo,hi,ks,m,y,n,_,rfl,hd,ok,hm,q⟩
theorem zdi(T:Txt K mg a d):FnOk P w K mg base CX0 5 a.f_first_sure_broken d.f_first_sure_broken ["wood", "ties", "yes", "no"] zsn:=by
 have ad:=zsz (P:=P) (w:=w) (base:=base) T
 have aa:=zj0 (P:=P) (w:=w) (base:=base) T
 refine T.K_first_sure_broken.ok sc_first_sure_broken (fun vs H Q E h=>?_) (fun cdv A outer s H vs Q E hr h=>?_)
 ·obtain⟨wd,m,ts,tl,il,y,n,rfl,_⟩:=h
  rfl
 obtain⟨wd,m,ts,tl,il,y,n,rfl,W,ag,aj,q⟩:=h
 have m9:=W.m9
 refine⟨_,(zae (zb6 PassesOwn.never rfl (piL (K:=K) (pv 1)) (zan (i:=4) sc_first_sure_broken.nd rfl (Or.inl rfl)) (zai (za7 (zcv (zag aa hr.lv rfl T.K_sure_broken (zaa (zag ad hr.lv rfl T.K_tie_at (zaa (pv 0) (zaa (pv 4) zac))) (zaa (pv 2) (zaa (pv 3) zac))))) (zai (zaw (pv 4))) za1)))
   (zai (zaw zcu))),?_⟩
 refine⟨_,rfl,tl,rfl,⟨_,SqL.of ag⟩,?_⟩
 refine zce (K:=K) (a:=tl) (xs:=zam il) (fun i σ H2=>(∃v,σ=[some (.ref wd),some (.ref tl),some (.int y),some (.int n),v])∧Same H H2∧(il.take i).find? (fun i=>zkk ts i y n)=none) ⟨⟨_,rfl⟩,Same.refl _,rfl⟩ (fun i σ H2 _ z=>SqL.of (z.2.1 _ _ ag)) ?_ ?_
 ·rintro i x σ H2 hx ⟨⟨v,rfl⟩,s2,hb⟩
  rw[List.getElem?_map] at hx
  obtain⟨t,ht,rfl⟩:=Option.map_eq_some_iff.mp hx
  have ae:=aj t (List.mem_of_getElem? ht)
  have W2:=W.same s2
  obtain⟨xs,ys,WA,dn⟩:=W2.ex
  have af:ts[t]?=some ts[t]:=List.getElem?_eq_getElem ae
  obtain⟨v2,ai,hd⟩:=DnL.get' dn (i:=t) (d:=ts[t].toD) (by rw[List.getElem?_map,af];rfl)
  have ah:zkk ts t y n=ts[t].sb y n:=by unfold zkk;rw[af]
  refine⟨_,rfl,_,rfl,wd,m,xs,ys,t,v2,rfl,WA,ai,?_⟩
  refine⟨_,rfl,_,rfl,ts[t],m,y,n,v2,rfl,hd,W.ok _ (List.getElem_mem ae),by omega,fun H3 s3=>?_⟩
  refine⟨_,rfl,?_⟩
  refine zcw (fun c=>?_) (fun c=>?_)
  ·have q1:=q H3 (s2.trans s3)
   have e:zbd ts il y n=some t:=by
    unfold zbd
    have el:il=il.take i++t::il.drop (i+1):=by
     obtain⟨hi,e⟩:=List.getElem?_eq_some_iff.mp ht
     rw[←e,List.getElem_cons_drop,List.take_append_drop]
    rw[el,List.find?_append,hb]
    simp[ah,c]
   rw[e] at q1
   exact⟨_,rfl,q1⟩
  ·refine⟨⟨_,rfl⟩,s2.trans s3,?_⟩
   rw[List.take_add_one,ht,Option.toList_some,List.find?_append,hb]
   simp[ah,c]
 ·rintro σ H2 ⟨⟨v,rfl⟩,s2,hb⟩
  have q1:=q H2 s2
  rw[List.length_map,List.take_length] at hb
  have e:zbd ts il y n=none:=hb
  rw[e] at q1
  exact q1
theorem zl6(T:Txt K mg a d)(f:Nat){p:Addr}{C:Hp→Prop}{m:Nat}{leaf:Nat→Nat→Option PyData}{fdL:FuncData}{pl:List Str}{φ:Heap→Prop}
  (L_leaf_at:FnOk P w K mg base CX0 7 p fdL pl (zx0 C leaf)) (LB_leaf_at:Binds K fdL pl []) (LP_leaf_at:∀h:Heap,φ h→∃o fd',h.get? p=some o∧o.data=.func fd') (hC:∀H H',Same H H'→C H→C H') (hCp:∀H,C H→H p=some (.ext φ))
  (G_told_tree:f≠0→FnOk P w K mg base CX0 (f+7) a.f_told_tree d.f_told_tree ["wood", "ties", "yes", "no", "leaf_at"] (zns (f-1) p C m leaf)):FnOk P w K mg base CX0 (f+8) a.f_told_tree d.f_told_tree ["wood", "ties", "yes", "no", "leaf_at"] (zns f p C m leaf):=by
 have aa:=zdi (P:=P) (w:=w) (base:=base) T
 have ae:=zcr (P:=P) (w:=w) (base:=base) T
 have ad:=zc3 (P:=P) (w:=w) (base:=base) T
 refine T.K_told_tree.ok sc_told_tree (fun vs H Q E h=>?_) (fun cdv A outer s H vs Q E hr h=>?_)
 ·obtain⟨wd,ts,tl,il,y,n,rfl,_⟩:=h
  rfl
 obtain⟨wd,ts,tl,il,y,n,rfl,W,ah,ag,hf,c0,ai,q⟩:=h
 have m9:=W.m9
 obtain⟨R,r0,rs,re⟩:=ai
 have rest:∃t,PSs (zd2 CX0 P w K mg base ["wood", "ties", "yes", "no", "leaf_at", "broken", "leaf", "k", "one", "other"] "told_tree" (zah zdj) a.f_told_tree cdv A outer s H E).nox ((zba zdj).drop 5) t∧(∀(k:Nat)(r:List Nat)(v5 v6:Option V)(H1:Hp),Same H H1→zaz m y n=k::r→zbd ts il y n=none→leaf y n=none→t { nx:=fun _ H'=>Q .non H',rt:=Q } [some (.ref wd),some (.ref tl),some (.int y),some (.int n),some (.ref p),v5,v6,some (.int (k:Int)),none,none] H1):=by
  by_cases al:f=0
  ·refine⟨znf,zl5,?_⟩
   intro k r v5 v6 H1 s1 ho hb
   rw[ho,al] at hf
   simp at hf
  ·have G_told_tree:=G_told_tree al
   refine⟨_,(zae (zar (i:=8) sc_told_tree.nd rfl (Or.inl rfl) (zag G_told_tree hr.lv rfl T.K_told_tree (zaa (pv 0) (zaa (pv 1) (zaa (zag ad hr.lv rfl T.K_with_option (zaa (pv 2) (zaa (pv 7) zac))) (zaa (pv 3) (zaa (pv 4) zac)))))))
   (zae (zar (i:=9) sc_told_tree.nd rfl (Or.inl rfl) (zag G_told_tree hr.lv rfl T.K_told_tree (zaa (pv 0) (zaa (pv 1) (zaa (pv 2) (zaa (zag ad hr.lv rfl T.K_with_option (zaa (pv 3) (zaa (pv 7) zac))) (zaa (pv 4) zac)))))))
   (zai (zaw (zbc (zaa zdr (zaa (pv 7) (zaa (pv 8) (zaa (pv 9) zac))))))))),?_⟩
   intro k r v5 v6 H1 s1 ho hb ao
   have hk:k∈zaz m y n:=by rw[ho];exact List.mem_cons_self
   have km:=(mem_open.mp hk).1
   have l1:=zfg hk
   have l2:=zfc hk
   refine⟨_,rfl,_,rfl,_,rfl,_,rfl,y,k,rfl,by omega,_,rfl,_,rfl,wd,ts,tl,il,y|||2^k,n,rfl,W.same s1,s1 _ _ ah,ag,by omega,hC _ _ s1 c0,⟨R,(rs y n k r0 hk).1,rs,re⟩,fun v1 H2 s2 d1=>?_⟩
   refine⟨_,rfl,_,rfl,_,rfl,_,rfl,_,rfl,n,k,rfl,by omega,_,rfl,wd,ts,tl,il,y,n|||2^k,rfl,W.same (s1.trans s2),(s1.trans s2) _ _ ah,ag,by omega,hC _ _ (s1.trans s2) c0,⟨R,(rs y n k r0 hk).2,rs,re⟩,fun v2 H3 s3 d2=>?_⟩
   refine⟨_,rfl,_,rfl,_,rfl,zaq (by show 4≤1000;decide),fun tp aj=>?_⟩
   have s4:=zad aj (.tup [.str ("split" : Str),.int (k:Int),v1,v2])
   refine q _ _ (((s1.trans s2).trans s3).trans s4) ?_
   obtain⟨f',rfl⟩:∃f',f=f'+1:=⟨f-1,by omega⟩
   rw[zi2 hb ao ho]
   exact⟨tp,_,rfl,zab,_,_,rfl,rfl,_,_,rfl,rfl,_,_,rfl,Dn.same (s3.trans s4) _ _ d1,_,_,rfl,Dn.same s4 _ _ d2,rfl⟩
 obtain⟨t4,h4,r4⟩:=rest
 refine⟨_,(zae (zar (i:=5) sc_told_tree.nd rfl (Or.inl rfl) (zag aa hr.lv rfl T.K_first_sure_broken (zaa (pv 0) (zaa (pv 1) (zaa (pv 2) (zaa (pv 3) zac))))))
   (zae (za7 (zap zgt (pv 5) zcu (zau _)) (zai (zaw (zbc (zaa zdr (zaa (pv 5) zac))))) za1)
   (zae (zar (i:=6) sc_told_tree.nd rfl (Or.inl rfl) (ztp (i:=4) L_leaf_at hr.lv rfl (.inl rfl) LB_leaf_at LP_leaf_at (zaa (pv 2) (zaa (pv 3) zac))))
   (zae (za7 (zap zgt (pv 6) zcu (zau _)) (zai (zaw (pv 6))) za1)
   (zae (zar (i:=7) sc_told_tree.nd rfl (Or.inl rfl) (zax (ixL (K:=K)) (zag ae hr.lv rfl T.K_open_options (zaa (zax (ixT (K:=K)) (pv 0) zaf (fun _ _=>rfl)) (zaa (pv 2) (zaa (pv 3) zac)))) zaf (fun _ _=>rfl)))
   h4))))),?_⟩
 refine⟨_,rfl,_,rfl,_,rfl,_,rfl,wd,m,ts,tl,il,y,n,rfl,W,ah,ag,fun H1 s1=>?_⟩
 obtain⟨o,ho⟩:∃o,zbd ts il y n=o:=⟨_,rfl⟩
 rw[ho]
 obtain⟨xs,ys,⟨tb,tc,hw,hb,hc⟩,dn⟩:=W.ex
 rcases o with _|t
 ·refine⟨_,rfl,rfl,_,rfl,?_⟩
  refine zfr rfl ?_
  refine⟨rfl,_,rfl,_,rfl,hCp _ (hC _ _ s1 c0),y,n,rfl,hC _ _ s1 c0,fun v H2 s2 lv=>?_⟩
  unfold zmi at lv
  cases hl:leaf y n with
  |some dd=>
   rw[hl] at lv
   obtain⟨dv,pp,rfl⟩:=lv
   refine⟨_,rfl,rfl,_,rfl,?_⟩
   refine zjw (by intro z;cases z) ?_
   refine⟨_,rfl,?_⟩
   refine q _ _ (s1.trans s2) ?_
   rw[zkz ho hl]
   exact dv
  |none=>
   rw[hl] at lv
   subst lv
   refine⟨_,rfl,rfl,_,rfl,?_⟩
   refine zfr rfl ?_
   have am:=s1.trans s2
   refine⟨_,rfl,wd,_,_,_,rfl,rfl,sqT (am _ _ hw),at0,_,rfl,_,rfl,m,y,n,rfl,by omega,fun l H3 s3 nl ak=>?_⟩
   obtain⟨ol,af⟩:∃ol,zaz m y n=ol:=⟨_,rfl⟩
   rw[af] at ak
   rcases ol with _|⟨k,r⟩
   ·exact absurd hl (re y n r0 ho af)
   ·refine⟨l,_,_,_,rfl,rfl,SqL.of ak,at0,?_⟩
    exact r4 k r _ _ H3 (am.trans s3) af ho hl
 ·refine⟨_,rfl,rfl,_,rfl,?_⟩
  refine zjw (by intro z;cases z) ?_
  refine⟨_,rfl,zaq (by show 2≤1000;decide),fun tp aj=>?_⟩
  have s2:=zad aj (.tup [.str ("broken" : Str),.int (t:Int)])
  refine q _ _ (s1.trans s2) ?_
  rw[zht ho]
  exact⟨tp,_,rfl,zab,_,_,rfl,rfl,_,_,rfl,rfl,rfl⟩
theorem zhk(T:Txt K mg a d){p:Addr}{C:Hp→Prop}{m:Nat}{leaf:Nat→Nat→Option PyData}{fdL:FuncData}{pl:List Str}{φ:Heap→Prop}
  (L:FnOk P w K mg base CX0 7 p fdL pl (zx0 C leaf)) (LB:Binds K fdL pl []) (LP:∀h:Heap,φ h→∃o fd',h.get? p=some o∧o.data=.func fd') (hC:∀H H',Same H H'→C H→C H') (hCp:∀H,C H→H p=some (.ext φ)):
  ∀f:Nat,FnOk P w K mg base CX0 (f+8) a.f_told_tree d.f_told_tree ["wood", "ties", "yes", "no", "leaf_at"] (zns f p C m leaf)
 |0=>zl6 T 0 L LB LP hC hCp fun h=>absurd rfl h
 |f+1=>zl6 T (f+1) L LB LP hC hCp fun _=>zhk T L LB LP hC hCp f
def zp4:Sp:=fun vs H Q _=>∃(wd:Addr)(m:Nat)(ts:List Tie)(y n:Nat),vs=[.ref wd,.int y,.int n]∧WoodT H wd m ts∧∀(v:V)(H':Hp),Same H H'→zmi (zdl m) y n H' v→Q v H'
theorem znp(T:Txt K mg a d):FnOk P w K mg base CX0 3 a.f_ware_leaf d.f_ware_leaf ["wood", "yes", "no"] zp4:=by
 have aa:=zcr (P:=P) (w:=w) (base:=base) T
 refine T.K_ware_leaf.ok znd (fun vs H Q E h=>?_) (fun cdv A outer s H vs Q E hr h=>?_)
 ·obtain⟨wd,m,ts,y,n,rfl,_⟩:=h
  rfl
 obtain⟨wd,m,ts,y,n,rfl,W,q⟩:=h
 have m9:=W.m9
 refine⟨_,(zae (za7 (zap zb3 (za3 (zer (K:=K)) rfl T.m_len PySem.boot_len (zaa (zag aa hr.lv rfl T.K_open_options (zaa (zax (ixT (K:=K)) (pv 0) zaf (fun _ _=>rfl)) (zaa (pv 1) (zaa (pv 2) zac)))) zac)) zaf (zau _)) (zai (zaw (zbc (zaa zdr zac)))) za1)
   (zai (zaw zcu))),?_⟩
 obtain⟨xs,ys,⟨tb,tc,hw,hb,hc⟩,dn⟩:=W.ex
 refine⟨_,rfl,wd,_,_,_,rfl,rfl,sqT hw,at0,_,rfl,_,rfl,m,y,n,rfl,by omega,fun l H2 s2 nl hl=>?_⟩
 refine⟨l,_,rfl,.inl (SqL.of hl),rfl,_,rfl,?_⟩
 rw[zh1,List.length_map]
 obtain⟨ol,ad⟩:∃ol,zaz m y n=ol:=⟨_,rfl⟩
 rw[ad]
 rcases ol with _|⟨k,r⟩
 ·refine zgw rfl ?_
  refine⟨zaq (by show 1≤1000;decide),fun tp ae=>?_⟩
  have s3:=zad ae (.tup [.str ("ware" : Str)])
  refine q _ _ (s2.trans s3) ?_
  unfold zmi zdl
  rw[if_pos ad]
  exact⟨⟨tp,_,rfl,zab,_,_,rfl,rfl,rfl⟩,tp,rfl⟩
 ·refine zb0 (by simp) ?_
  refine q _ _ s2 ?_
  unfold zmi zdl
  rw[if_neg (by rw[ad];simp)]
theorem zpk(T:Txt K mg a d)(LB:zkp mg base a.c_cases_of a.t_cases_of)(f:Nat):FnOk P w K mg base CX0 (f+9) a.f_cases_of d.f_cases_of ["wood", "ties", "yes", "no"] (spT a.t_cases_of (zuf f)):=by
 refine T.K_cases_of.okC zo4 (fun vs H Q E h=>?_) (fun cdv A outer s H vs Q E ah hr h=>?_)
 ·obtain⟨_,wd,m,ts,tl,il,y,n,rfl,_⟩:=h
  rfl
 obtain⟨tb,wd,m,ts,tl,il,y,n,rfl,W,aj,ai,hf,q⟩:=h
 have LC:((zd2 CX0 P w K mg base ["wood", "ties", "yes", "no"] "cases_of" (zah zcc) a.f_cases_of cdv A outer s H E).nox).env.code=.ref a.c_cases_of:=ah.symm.trans T.code_cases_of
 have LF:∀y∈(zpg (zqy (zyt (zba zcc)[0]?))).names,y.2=.free→∃c,((zd2 CX0 P w K mg base ["wood", "ties", "yes", "no"] "cases_of" (zah zcc) a.f_cases_of cdv A outer s H E).nox).env.cells.lookup y.1=some c:=by
  intro y hy hz
  have e:y=(("wood" : Str),NameKind.free):=by
   have h:=(by decide +kernel:∀y∈(zpg (zqy (zyt (zba zcc)[0]?))).names,y.2=NameKind.free→y=(("wood" : Str),NameKind.free))
   exact h y hy hz
  subst e
  exact⟨_,rfl⟩
 refine⟨_,(zai (zaw (zti (k:=f+8) hr.lv rfl T.K_told_tree.g T.K_told_tree.kp T.K_told_tree.B (fun _=>rfl) (zaa (pv 0) (zaa (pv 1) (zaa (pv 2) (zaa (pv 3) (zaa (zxd LC LB rfl LF) zac)))))))),?_⟩
 refine⟨_,rfl,_,rfl,_,rfl,_,rfl,tb,fun p c' H1 np s1 hp hc ad ci _ _=>?_⟩
 obtain⟨cw,u,e1,r1,ic⟩:=ci 0 "wood" (.ref wd) rfl rfl rfl
 have ae:((zd2 CX0 P w K mg base ["wood", "ties", "yes", "no"] "cases_of" (zah zcc) a.f_cases_of cdv A outer s H E).nox).env.cells=[(("wood" : Str),cw)]:=by
  have z:cw=s.heap.objs.size+1:=(Option.some.inj (show some (s.heap.objs.size+1)=some cw from e1)).symm
  rw[z]
  rfl
 have aa:=znp (P:=P) (w:=w) (base:=ad) T
 have L:=zw4 (P:=P) (w:=w) (K:=K) (mg:=mg) (base:=ad) (ps:=["come", "gone"]) (fr:=["wood"]) (fv:=[.ref wd]) (k:=6) (leaf:=zdl m) (fun H=>WoodT H wd m ts) hp ⟨rfl,rfl,rfl,by decide +kernel,by decide +kernel,by decide +kernel,by decide +kernel⟩
  (fun x cc h=>by
   have h':=zb5 LF h
   rw[ae] at h'
   obtain⟨_,rfl⟩:=zhb h'
   exact⟨_,ic⟩)
  (fun x y cc h1 h2=>by
   have ag:=zb5 LF h1
   have af:=zb5 LF h2
   rw[ae] at ag af
   rw[(zhb ag).1,(zhb af).1])
  (fun y hy hz=>by
   obtain⟨c,hc⟩:=LF y hy hz
   exact⟨c,zji LF (by rw[←hz];exact hy) hc⟩)
  (fun i x v h1 h2=>by
   cases i with
   |zero=>
    cases h1
    cases h2
    exact⟨cw,u,zji LF (by decide +kernel) e1,r1,ic⟩
   |succ i=>cases h1)
  rfl (fun _ _ _=>rfl) rfl
  (fun q A outer s H y n Q hr W0 q'=>⟨_,zq4 aa (hr.mono (by decide)) rfl T.K_ware_leaf.g T.K_ware_leaf.kp T.K_ware_leaf.B .nil zc1 (zaa (pv 2) (zaa (pv 0) (zaa (pv 1) zac))),⟨_,rfl,_,rfl,_,rfl,wd,m,ts,y,n,rfl,W0,q'⟩⟩)
 have G:=zhk (P:=P) (w:=w) (base:=ad) (m:=m) T L (.all fun us hl=>match us,hl with|[_,_],_=>rfl) zvl (fun H H' s h=>⟨h.1.same s,s _ _ h.2.1,s _ _ h.2.2⟩) (fun H h=>h.2.1) f
 refine⟨_,G,wd,ts,tl,il,y,n,rfl,W.same s1,s1 _ _ aj,ai,hf,⟨W.same s1,hp,hc⟩,EndsR.all (fun y n hb ho=>by unfold zdl;rw[if_pos ho];simp) _ _,fun v H' s2 dv=>q v H' (s1.trans s2) ?_⟩
 rw[←zg9 f y n hf]
 exact dv
theorem zhq(T:Txt K mg a d)(f:Nat)(G_first_keeping:f≠0→FnOk P w K mg base CX0 (f+6) a.f_first_keeping d.f_first_keeping ["wood", "ties", "yes", "no"] (zms (f-1))):FnOk P w K mg base CX0 (f+7) a.f_first_keeping d.f_first_keeping ["wood", "ties", "yes", "no"] (zms f):=by
 have aa:=zdi (P:=P) (w:=w) (base:=base) T
 have ae:=zcr (P:=P) (w:=w) (base:=base) T
 have ad:=zc3 (P:=P) (w:=w) (base:=base) T
 refine T.K_first_keeping.ok sc_first_keeping (fun vs H Q E h=>?_) (fun cdv A outer s H vs Q E hr h=>?_)
 ·obtain⟨wd,m,ts,tl,il,y,n,rfl,_⟩:=h
  rfl
 obtain⟨wd,m,ts,tl,il,y,n,rfl,W,ah,ag,hf,q⟩:=h
 have m9:=W.m9
 have rest:∃t,PSs (zd2 CX0 P w K mg base ["wood", "ties", "yes", "no", "left", "k", "found"] "first_keeping" (zah zb4) a.f_first_keeping cdv A outer s H E).nox ((zba zb4).drop 4) t∧(∀(k:Nat)(v4:Option V)(H1:Hp),Same H H1→(zaz m y n).getLast?=some k→zbd ts il y n=none→t { nx:=fun _ H'=>Q .non H',rt:=Q } [some (.ref wd),some (.ref tl),some (.int y),some (.int n),v4,some (.int (k:Int)),none] H1):=by
  by_cases ai:f=0
  ·refine⟨znf,zl5,?_⟩
   intro k v4 H1 s1 ho hb
   rw[ai] at hf
   rw[List.eq_nil_of_length_eq_zero (Nat.le_zero.mp hf)] at ho
   cases ho
  ·have G_first_keeping:=G_first_keeping ai
   refine⟨_,(zae (zar (i:=6) sc_first_keeping.nd rfl (Or.inl rfl) (zag G_first_keeping hr.lv rfl T.K_first_keeping (zaa (pv 0) (zaa (pv 1) (zaa (pv 2) (zaa (zag ad hr.lv rfl T.K_with_option (zaa (pv 3) (zaa (pv 5) zac))) zac))))))
   (zae (za7 (zap zgt (pv 6) zcu (zau _)) (zai (zaw (pv 6))) za1)
   (zai (zaw (zag G_first_keeping hr.lv rfl T.K_first_keeping (zaa (pv 0) (zaa (pv 1) (zaa (zag ad hr.lv rfl T.K_with_option (zaa (pv 2) (zaa (pv 5) zac))) (zaa (pv 3) zac))))))))),?_⟩
   intro k v4 H1 s1 ho hb
   have hk:=(zly ho).1
   have km:=(mem_open.mp hk).1
   have l1:=zfg hk
   have l2:=zfc hk
   have e:zbg ts il m f y n=(match zbg ts il m (f-1) y (n|||2^k) with|some s=>some s|none=>zbg ts il m (f-1) (y|||2^k) n):=by
    obtain⟨f',rfl⟩:∃f',f=f'+1:=⟨f-1,by omega⟩
    exact zpd hb ho
   refine⟨_,rfl,_,rfl,_,rfl,_,rfl,_,rfl,n,k,rfl,by omega,wd,m,ts,tl,il,y,n|||2^k,rfl,W.same s1,s1 _ _ ah,ag,by omega,fun H2 s2=>?_⟩
   obtain⟨o,af⟩:∃o,zbg ts il m (f-1) y (n|||2^k)=o:=⟨_,rfl⟩
   rw[af]
   rcases o with _|g
   ·refine⟨_,rfl,rfl,_,rfl,?_⟩
    refine zfr rfl ?_
    refine⟨_,rfl,_,rfl,_,rfl,_,rfl,y,k,rfl,by omega,_,rfl,wd,m,ts,tl,il,y|||2^k,n,rfl,W.same (s1.trans s2),(s1.trans s2) _ _ ah,ag,by omega,fun H3 s3=>?_⟩
    have q1:=q H3 ((s1.trans s2).trans s3)
    rw[e,af] at q1
    exact q1
   ·refine⟨_,rfl,rfl,_,rfl,?_⟩
    refine zjw (by intro z;cases z) ?_
    have q1:=q H2 (s1.trans s2)
    rw[e,af] at q1
    exact⟨_,rfl,q1⟩
 obtain⟨t4,h4,r4⟩:=rest
 refine⟨_,(zae (za7 (zap zgt (zag aa hr.lv rfl T.K_first_sure_broken (zaa (pv 0) (zaa (pv 1) (zaa (pv 2) (zaa (pv 3) zac))))) zcu (zau _)) (zai (zaw zcu)) za1)
   (zae (zar (i:=4) sc_first_keeping.nd rfl (Or.inl rfl) (zag ae hr.lv rfl T.K_open_options (zaa (zax (ixT (K:=K)) (pv 0) zaf (fun _ _=>rfl)) (zaa (pv 2) (zaa (pv 3) zac)))))
   (zae (za7 (zap zb3 (za3 (zer (K:=K)) rfl T.m_len PySem.boot_len (zaa (pv 4) zac)) zaf (zau _)) (zai (zaw (pv 2))) za1)
   (zae (zar (i:=5) sc_first_keeping.nd rfl (Or.inl rfl) (zax (ixL (K:=K)) (pv 4) (zoy zkm zaf) (fun _ _=>rfl)))
   h4)))),?_⟩
 refine⟨_,rfl,_,rfl,_,rfl,_,rfl,wd,m,ts,tl,il,y,n,rfl,W,ah,ag,fun H1 s1=>?_⟩
 obtain⟨o,ho⟩:∃o,zbd ts il y n=o:=⟨_,rfl⟩
 rw[ho]
 obtain⟨xs,ys,⟨tb,tc,hw,hb,hc⟩,dn⟩:=W.ex
 rcases o with _|t
 ·refine⟨rfl,_,rfl,?_⟩
  refine zfr rfl ?_
  refine⟨_,rfl,wd,_,_,_,rfl,rfl,sqT (s1 _ _ hw),at0,_,rfl,_,rfl,m,y,n,rfl,by omega,fun l H2 s2 nl hl=>?_⟩
  refine⟨_,rfl,l,_,rfl,.inl (SqL.of hl),rfl,_,rfl,?_⟩
  rw[zh1,List.length_map]
  by_cases hn:zaz m y n=[]
  ·refine zgw (by rw[hn];rfl) ?_
   have q1:=q H2 (s1.trans s2)
   have e:zbg ts il m f y n=some y:=by
    exact zqk ho hn
   rw[e] at q1
   exact⟨_,rfl,q1⟩
  ·refine zb0 (fun z=>hn (List.eq_nil_of_length_eq_zero z)) ?_
   obtain⟨k,hk⟩:∃k,(zaz m y n).getLast?=some k:=by
    cases e:(zaz m y n).getLast? with
    |none=>exact absurd (List.getLast?_eq_none_iff.mp e) hn
    |some k=>exact⟨k,rfl⟩
   have aj:atI (zam (zaz m y n)) (-1)=some (.int (k:Int)):=by
    obtain⟨l',e⟩:=List.getLast?_eq_some_iff.mp hk
    rw[e]
    exact zvf l' k
   refine⟨_,rfl,_,rfl,l,_,_,_,rfl,rfl,SqL.of hl,aj,?_⟩
   exact r4 k _ H2 (s1.trans s2) hk ho
 ·refine⟨rfl,_,rfl,?_⟩
  refine zjw (by intro z;cases z) ?_
  have q1:=q H1 s1
  have e:zbg ts il m f y n=none:=by
   exact zni ho
  rw[e] at q1
  exact q1
theorem zby(T:Txt K mg a d):∀f:Nat,FnOk P w K mg base CX0 (f+7) a.f_first_keeping d.f_first_keeping ["wood", "ties", "yes", "no"] (zms f)
 |0=>zhq T 0 fun h=>absurd rfl h
 |f+1=>zhq T (f+1) fun _=>zby T f
theorem zg0(T:Txt K mg a d):FnOk P w K mg base CX0 17 a.f_first_ware d.f_first_ware ["wood", "yes", "no"] ztd:=by
 have af:=zh9 (P:=P) (w:=w) (base:=base) T
 have ad:=zc3 (P:=P) (w:=w) (base:=base) T
 have ae:=zh3 (P:=P) (w:=w) (base:=base) T
 have aa:=zby (P:=P) (w:=w) (base:=base) T 9
 refine T.K_first_ware.ok zlj (fun vs H Q E h=>?_) (fun cdv A outer s H vs Q E hr h=>?_)
 ·obtain⟨wd,m,ts,y,n,rfl,_⟩:=h
  rfl
 obtain⟨wd,m,ts,y,n,rfl,W,m9,m1,S,q⟩:=h
 refine⟨_,(zae (za7 (zcv (zag af hr.lv rfl T.K_has (zaa (pv 2) (zaa zaf zac)))) (zai (zaw zcu)) za1)
   (zai (zaw (zag aa hr.lv rfl T.K_first_keeping (zaa (pv 0) (zaa (zag ae hr.lv rfl T.K_every_tie (zaa (pv 0) zac)) (zaa (zag ad hr.lv rfl T.K_with_option (zaa (pv 1) (zaa zaf zac))) (zaa (pv 2) zac)))))))),?_⟩
 refine⟨_,rfl,_,_,rfl,_,rfl,?_⟩
 have e0:zpt (n:Int) 0=n.testBit 0:=zci n 0
 rw[e0]
 refine zcw (fun c=>?_) (fun c=>?_)
 ·refine q H none (Same.refl H) fun s' sm hs=>?_
  unfold zbh
  rw[hs.2 0 c,Bool.false_and]
 ·have c':=Bool.eq_false_iff.mpr c
  have of:=zc8 m (y|||2^0) n
  have S':Stand m (y|||2^0) n:=⟨zts S.dj c',zm0 S.ym (by omega),S.nm⟩
  refine⟨_,rfl,_,rfl,wd,m,ts,rfl,W,fun l H1 s1 nl hl=>?_⟩
  refine⟨_,rfl,y,0,rfl,by omega,_,rfl,wd,m,ts,l,zda ts,y|||2^0,n,rfl,W.same s1,hl,fun i hi=>List.mem_range.mp hi,by omega,fun H2 s2=>?_⟩
  have F:=zdo (il:=zda ts) W.ok 9 (y|||2^0) n (by omega) S'
  have ag:∀s',InS (y|||2^0) n s'∧zbl ts (zda ts) s'=true↔InS y n s'∧zbh ts s'=true:=fun s'=>by
   unfold zbh
   rw[ziw,Bool.and_eq_true]
   constructor
   ·rintro⟨a1,a2⟩
    exact⟨⟨fun j hj=>a1.1 j (by rw[zcb,hj,Bool.true_or]),a1.2⟩,a1.1 0 (by rw[zcb,decide_eq_true rfl,Bool.or_true]),a2⟩
   ·rintro⟨a1,a2,a3⟩
    refine⟨⟨fun j hj=>?_,a1.2⟩,a3⟩
    rw[zcb,Bool.or_eq_true,decide_eq_true_eq] at hj
    rcases hj with z|rfl
    ·exact a1.1 j z
    ·exact a2
  generalize zbg ts (zda ts) m 9 (y|||2^0) n=o at F ⊢
  refine q H2 o (s1.trans s2) ?_
  cases o with
  |none=>
   intro s' sm hs
   cases e:zbh ts s' with
   |false=>rfl
   |true=>
    have:=(ag s').mpr ⟨hs,e⟩
    rw[F s' sm this.1] at this
    cases this.2
  |some g=>
   obtain⟨b1,b2,b3,b4⟩:=F
   obtain⟨c1,c2⟩:=(ag g).mp ⟨b2,b3⟩
   refine⟨b1,c1,c2,fun s' sm hs hw=>?_⟩
   have:=(ag s').mpr ⟨hs,hw⟩
   exact b4 s' sm this.1 this.2
theorem zri(T:Txt K mg a d):FnOk P w K mg base CX0 17 a.f_bars d.f_bars ["wood", "ties", "yes", "no"] zxk:=by
 have aa:=zby (P:=P) (w:=w) (base:=base) T 9
 refine T.K_bars.ok zwl (fun vs H Q E h=>?_) (fun cdv A outer s H vs Q E hr h=>?_)
 ·obtain⟨wd,m,ts,tl,il,y,n,rfl,_⟩:=h
  rfl
 obtain⟨wd,m,ts,tl,il,y,n,rfl,W,m9,ae,ad,q⟩:=h
 have of:=zc8 m y n
 refine⟨_,(zai (zaw (zbo zmy (zag aa hr.lv rfl T.K_first_keeping (zaa (pv 0) (zaa (pv 1) (zaa (pv 2) (zaa (pv 3) zac))))) zcu (zau _)))),?_⟩
 refine⟨_,rfl,_,rfl,_,rfl,_,rfl,wd,m,ts,tl,il,y,n,rfl,W,ae,ad,by omega,fun H1 s1=>?_⟩
 have q1:=q H1 s1
 unfold zcf at q1
 rw[←zt1] at q1
 exact⟨rfl,q1⟩
theorem zfu(T:Txt K mg a d):FnOk P w K mg base CX0 1 a.f_left_without d.f_left_without ["things", "one"] zqu:=by
 refine T.K_left_without.ok zfs (fun vs H Q E h=>?_) (fun cdv A outer s H vs Q E hr h=>?_)
 ·obtain⟨l,il,t,rfl,_⟩:=h
  rfl
 obtain⟨l,il,t,rfl,hl,few,q⟩:=h
 refine⟨_,(zai (zaw (zdu (N':=["other", "one"]) (n:=1) (kp:=[1]) rfl (piL (K:=K) (pv 0)) rfl rfl rfl (fun _ _ _ _ _=>(zan (i:=0) (of_decide_eq_true rfl) rfl (Or.inl rfl))) (fun _ _ _ _ _=>(zbv (zap zos (pv 0) (pv 1) (zau _)))) (fun _ _ _ _ _=>(pv 0))))),?_⟩
 refine⟨_,rfl,l,rfl,⟨_,SqL.of hl⟩,?_⟩
 refine zbx (K:=K) (a:=l) (xs:=zam il) (fun j ys σ H2=>(∃v,σ=[v,some (.int (t:Int))])∧H2=H∧ys=zam ((il.take j).filter fun i=>!decide (i=t))) ⟨⟨none,rfl⟩,rfl,rfl⟩ (fun j ys σ H2 hj pv=>?_) (fun j ys σ H2 hj pv=>?_) (fun j x ys σ H2 hx pv=>?_) (fun ys σ H2 pv p hp=>?_)
 ·obtain⟨_,_,rfl⟩:=pv
  rw[List.length_map]
  refine zaq (Nat.le_trans (List.length_filter_le _ _) ?_)
  rw[List.length_take]
  omega
 ·rw[pv.2.1]
  exact SqL.of hl
 ·obtain⟨⟨v0,rfl⟩,rfl,rfl⟩:=pv
  rw[List.getElem?_map] at hx
  obtain⟨i,hi,rfl⟩:=Option.map_eq_some_iff.mp hx
  have et:il.take (j+1)=il.take j++[i]:=by rw[List.take_add_one,hi,Option.toList_some]
  refine⟨_,rfl,_,rfl,rfl,_,rfl,?_⟩
  by_cases c:i=t
  ·refine zfr (by rw[c]) ?_
   refine⟨⟨_,rfl⟩,rfl,?_⟩
   rw[et,List.filter_append]
   simp[c]
  ·refine zjw (fun z=>c (by injection z with z;omega)) ?_
   refine⟨_,rfl,⟨_,rfl⟩,rfl,?_⟩
   rw[et,List.filter_append]
   simp[c]
 obtain⟨_,rfl,rfl⟩:=pv
 rw[List.length_map,List.take_length]
 exact q p _ (zad hp _) hp zab
def zs8:Sp:=fun vs H Q _=>∃(wd:Addr)(m:Nat)(ts:List Tie)(y n:Nat),vs=[.ref wd,.int y,.int n]∧WoodT H wd m ts∧m≤9∧∀(lf:Addr)(H':Hp),Same H H'→H lf=none→H' lf=some (.lst (zam (zb2 ts m y n)))→Q (.ref lf) H'
theorem zlb(T:Txt K mg a d):FnOk P w K mg base CX0 18 a.f_least_ties d.f_least_ties ["wood", "yes", "no"] zs8:=by
 have aa:=zh3 (P:=P) (w:=w) (base:=base) T
 have ag:=zri (P:=P) (w:=w) (base:=base) T
 have ad:=zfu (P:=P) (w:=w) (base:=base) T
 refine T.K_least_ties.ok sc_least_ties (fun vs H Q E h=>?_) (fun cdv A outer s H vs Q E hr h=>?_)
 ·obtain⟨wd,m,ts,y,n,rfl,_⟩:=h
  rfl
 obtain⟨wd,m,ts,y,n,rfl,W,m9,q⟩:=h
 have few:=W.few
 have of:=zc8 m y n
 have ai:∀i∈zda ts,i<ts.length:=fun i hi=>List.mem_range.mp hi
 have am:(zda ts).length=ts.length:=List.length_range
 refine⟨_,(zae (zar (i:=3) sc_least_ties.nd rfl (Or.inl rfl) (zag aa hr.lv rfl T.K_every_tie (zaa (pv 0) zac)))
   (zae (zb6 PassesOwn.never rfl (piL (K:=K) (zag aa hr.lv rfl T.K_every_tie (zaa (pv 0) zac))) (zan (i:=4) sc_least_ties.nd rfl (Or.inl rfl)) (zae (zar (i:=5) sc_least_ties.nd rfl (Or.inl rfl) (zag ad hr.lv rfl T.K_left_without (zaa (pv 3) (zaa (pv 4) zac))))
   (zai (za7 (zcv (zag ag hr.lv rfl T.K_bars (zaa (pv 0) (zaa (pv 5) (zaa (pv 1) (zaa (pv 2) zac)))))) (zai (zar (i:=3) sc_least_ties.nd rfl (Or.inl rfl) (pv 5))) za1))))
   (zai (zaw (pv 3))))),?_⟩
 refine⟨_,rfl,wd,m,ts,rfl,W,fun l0 H1 s1 ao al=>?_⟩
 refine⟨_,rfl,wd,m,ts,rfl,W.same s1,fun l1 H3 s3 aq ak=>?_⟩
 refine⟨l1,rfl,⟨_,SqL.of ak⟩,?_⟩
 have aj:=s1.trans s3
 refine zce (K:=K) (a:=l1) (xs:=zam (zda ts)) (fun i σ H4=>∃(lf:Addr)(v4 v5:Option V),σ=[some (.ref wd),some (.int y),some (.int n),some (.ref lf),v4,v5]∧Same H3 H4∧H4 lf=some (.lst (zam (((zda ts).take i).foldl (za6 ts m y n) (zda ts))))∧H lf=none) ⟨l0,_,_,rfl,Same.refl _,s3 _ _ al,ao⟩ (fun i σ H4 _ z=>by obtain⟨_,_,_,_,s4,_⟩:=z;exact SqL.of (s4 _ _ ak)) ?_ ?_
 ·rintro i x σ H4 hx ⟨lf,v4,v5,rfl,s4,ae,ah⟩
  rw[List.getElem?_map] at hx
  obtain⟨t,ht,rfl⟩:=Option.map_eq_some_iff.mp hx
  generalize af:((zda ts).take i).foldl (za6 ts m y n) (zda ts)=left at ae
  have sub:left.Sublist (zda ts):=by rw[←af];exact ze0 _ _
  have ap:=sub.length_le
  have e1:((zda ts).take (i+1)).foldl (za6 ts m y n) (zda ts)=za6 ts m y n left t:=by
   rw[List.take_add_one,ht,Option.toList_some,List.foldl_append,af]
   rfl
  refine⟨_,rfl,_,rfl,lf,left,t,rfl,ae,by omega,fun p H5 s5 np hp=>?_⟩
  refine⟨_,rfl,_,rfl,_,rfl,_,rfl,wd,m,ts,p,zb1 left t,y,n,rfl,W.same ((aj.trans s4).trans s5),m9,hp,fun i hi=>ai i (sub.subset (List.mem_filter.mp hi).1),fun H6 s6=>?_⟩
  refine⟨_,rfl,?_⟩
  refine zcw (fun c2=>?_) (fun c2=>?_)
  ·refine⟨_,rfl,p,_,_,rfl,(s4.trans s5).trans s6,?_,(aj.trans s4).free np⟩
   rw[e1]
   unfold za6
   rw[if_pos c2]
   exact s6 _ _ hp
  ·refine⟨lf,_,_,rfl,(s4.trans s5).trans s6,?_,ah⟩
   rw[e1]
   unfold za6
   rw[if_neg c2]
   exact(s5.trans s6) _ _ ae
 ·rintro σ H4 ⟨lf,v4,v5,rfl,s4,ae,ah⟩
  rw[List.length_map,List.take_length] at ae
  have sub:(zb2 ts m y n).Sublist (zda ts):=ze0 _ _
  have ae:H4 lf=some (.lst (zam (zb2 ts m y n))):=ae
  exact⟨_,rfl,q lf H4 (aj.trans s4) ah ae⟩
def zoq:Sp:=fun vs H Q _=>∃(wd lf:Addr)(m:Nat)(ts:List Tie)(left:List Nat)(y n:Nat),vs=[.ref wd,.ref lf,.int y,.int n]∧WoodT H wd m ts∧m≤9∧H lf=some (.lst (zam left))∧(∀i∈left,i<ts.length)∧left.length≤900∧∀(ol:Addr)(H':Hp),Same H H'→H ol=none→zqp H' ol ts m y n left→Q (.ref ol) H'
theorem zla(T:Txt K mg a d):FnOk P w K mg base CX0 18 a.f_tie_others d.f_tie_others ["wood", "ties", "yes", "no"] zoq:=by
 have ad:=zfu (P:=P) (w:=w) (base:=base) T
 have aa:=zby (P:=P) (w:=w) (base:=base) T 9
 refine T.K_tie_others.ok zlf (fun vs H Q E h=>?_) (fun cdv A outer s H vs Q E hr h=>?_)
 ·obtain⟨wd,lf,m,ts,left,y,n,rfl,_⟩:=h
  rfl
 obtain⟨wd,lf,m,ts,left,y,n,rfl,W,m9,af,ag,al,q⟩:=h
 have of:=zc8 m y n
 refine⟨_,(zai (zaw (zdu (N':=["t", "wood", "yes", "no", "ties"]) (n:=1) (kp:=[0,2,3,1]) rfl (piL (K:=K) (pv 1)) rfl rfl rfl (fun _ _ _ _ _=>(zan (i:=0) (of_decide_eq_true rfl) rfl (Or.inl rfl))) (fun _ _ _ _ _=>zgl) (fun _ _ _ _ _=>(zbc (zaa (pv 0) (zaa (zag aa hr.lv rfl T.K_first_keeping (zaa (pv 1) (zaa (zag ad hr.lv rfl T.K_left_without (zaa (pv 4) (zaa (pv 0) zac))) (zaa (pv 2) (zaa (pv 3) zac))))) zac))))))),?_⟩
 refine⟨_,rfl,lf,rfl,⟨_,SqL.of af⟩,?_⟩
 refine zbx (K:=K) (a:=lf) (xs:=zam left) (fun j ys σ H5=>(∃v,σ=[v,some (.ref wd),some (.int y),some (.int n),some (.ref lf)])∧Same H H5∧ys.length=j∧∀(i t:Nat),i<j→left[i]?=some t→∃q,ys[i]?=some (.ref q)∧H5 q=some (.tup [.int (t:Int),zhx (zbg ts (zb1 left t) m 9 y n)])) ⟨⟨none,rfl⟩,Same.refl _,rfl,fun i t hi=>absurd hi (Nat.not_lt_zero i)⟩ (fun j ys σ H5 hj pv=>?_) (fun j ys σ H5 hj pv=>?_) (fun j x ys σ H5 hx pv=>?_) (fun ys σ H5 pv ol ai=>?_)
 ·obtain⟨_,_,h1,_⟩:=pv
  rw[List.length_map] at hj
  exact zaq (by omega)
 ·exact SqL.of (pv.2.1 _ _ af)
 ·obtain⟨⟨v,rfl⟩,s5,h1,ae⟩:=pv
  rw[List.getElem?_map] at hx
  obtain⟨t,ht,rfl⟩:=Option.map_eq_some_iff.mp hx
  refine⟨_,rfl,_,rfl,_,rfl,_,rfl,lf,left,t,rfl,s5 _ _ af,by omega,fun p H6 s6 np hp=>?_⟩
  refine⟨_,rfl,_,rfl,wd,m,ts,p,zb1 left t,y,n,rfl,W.same (s5.trans s6),hp,fun i hi=>ag i (List.mem_filter.mp hi).1,by omega,fun H7 s7=>?_⟩
  refine⟨zaq (by show 2≤1000;decide),fun tp ak=>?_⟩
  have s8:=zad ak (.tup [.int (t:Int),zhx (zbg ts (zb1 left t) m 9 y n)])
  have aj:=(s6.trans s7).trans s8
  refine⟨⟨_,rfl⟩,s5.trans aj,by rw[List.length_append,List.length_singleton,h1],fun i t' hi ah=>?_⟩
  by_cases e:i=j
  ·subst e
   rw[ht] at ah
   cases ah
   refine⟨tp,?_,zab⟩
   rw[List.getElem?_append_right (by omega),h1,Nat.sub_self]
   rfl
  ·obtain⟨p',a1,a2⟩:=ae i t' (by omega) ah
   refine⟨p',?_,aj _ _ a2⟩
   rw[List.getElem?_append_left (by omega)]
   exact a1
 ·obtain⟨_,s5,h1,ae⟩:=pv
  rw[List.length_map] at h1 ae
  have s6:=zad ai (.lst ys)
  refine q ol _ (s5.trans s6) (s5.free ai) ⟨ys,zab,h1,fun j t ht=>?_⟩
  obtain⟨p',a1,a2⟩:=ae j t (List.getElem?_eq_some_iff.mp ht).1 ht
  exact⟨p',a1,s6 _ _ a2⟩
theorem zcy(T:Txt K mg a d):FnOk P w K mg base CX0 2 a.f_stand_of d.f_stand_of ["picks"] zmb:=by
 have aa:=zc3 (P:=P) (w:=w) (base:=base) T
 refine T.K_stand_of.ok sc_stand_of (fun vs H Q E h=>?_) (fun cdv A outer s H vs Q E hr h=>?_)
 ·obtain⟨pl,ps,rfl,_⟩:=h
  rfl
 obtain⟨pl,ps,rfl,PA,q⟩:=h
 obtain⟨xs,ad,pk⟩:=PA.ex
 have lx:=pk.length
 refine⟨_,(zae (zar (i:=1) sc_stand_of.nd rfl (Or.inl rfl) (zag aa hr.lv rfl T.K_with_option (zaa zaf (zaa zaf zac))))
   (zae (zar (i:=2) sc_stand_of.nd rfl (Or.inl rfl) zaf)
   (zae (zb6 PassesOwn.never rfl (piL (K:=K) (pv 0)) (pgT (K:=K) (n:=2) rfl (za0 (zan (i:=3) sc_stand_of.nd rfl (Or.inl rfl)) (za0 (zan (i:=4) sc_stand_of.nd rfl (Or.inl rfl)) zbq))) (zai (za7 (zcv (pv 4)) (zai (zar (i:=1) sc_stand_of.nd rfl (Or.inl rfl) (zag aa hr.lv rfl T.K_with_option (zaa (pv 1) (zaa (pv 3) zac))))) (zai (zar (i:=2) sc_stand_of.nd rfl (Or.inl rfl) (zag aa hr.lv rfl T.K_with_option (zaa (pv 2) (zaa (pv 3) zac))))))))
   (zai (zaw (zbc (zaa (pv 1) (zaa (pv 2) zac)))))))),?_⟩
 refine⟨0,0,rfl,by decide,?_⟩
 refine⟨_,rfl,pl,rfl,⟨_,SqL.of ad⟩,?_⟩
 refine zce (K:=K) (a:=pl) (xs:=xs) (fun i σ H2=>(∃v3 v4:Option V,σ=[some (.ref pl),some (.int (zaj (ps.take i):Int)),some (.int (zao (ps.take i):Int)),v3,v4])∧H2=H) ⟨⟨none,none,rfl⟩,rfl⟩ (fun i σ H2 _ z=>by rw[z.2];exact SqL.of ad) ?_ ?_
 ·rintro i x σ H2 hx ⟨⟨v3,v4,rfl⟩,rfl⟩
  obtain⟨p,t,hp,rfl,ht⟩:=pk.get hx
  have et:ps.take (i+1)=ps.take i++[p]:=by rw[List.take_add_one,hp,Option.toList_some]
  have ae:=PA.le p (List.mem_of_getElem? hp)
  refine⟨t,_,rfl,sqT ht,rfl,_,_,rfl,_,_,rfl,rfl,?_⟩
  refine⟨_,rfl,_,rfl,?_⟩
  cases e:p.2
  ·refine zgb ?_
   refine⟨_,rfl,_,rfl,zao (ps.take i),p.1,rfl,by omega,?_⟩
   refine⟨⟨some (.int (p.1:Int)),some (.bl false),?_⟩,rfl⟩
   rw[et,zf2,zhy,e]
   rfl
  ·refine zkg ?_
   refine⟨_,rfl,_,rfl,zaj (ps.take i),p.1,rfl,by omega,?_⟩
   refine⟨⟨some (.int (p.1:Int)),some (.bl true),?_⟩,rfl⟩
   rw[et,zf2,zhy,e]
   rfl
 ·rintro σ H2 ⟨⟨v3,v4,rfl⟩,rfl⟩
  rw[←lx,List.take_length]
  refine⟨_,rfl,_,rfl,zaq (by show 2≤1000;decide),fun t ht=>?_⟩
  exact q t _ (zad ht _) zab
theorem zg7(T:Txt K mg a d):FnOk P w K mg base CX0 3 a.f_open_at d.f_open_at ["wood", "picks"] ztz:=by
 have ad:=zcy (P:=P) (w:=w) (base:=base) T
 have aa:=zcr (P:=P) (w:=w) (base:=base) T
 refine T.K_open_at.ok sc_open_at (fun vs H Q E h=>?_) (fun cdv A outer s H vs Q E hr h=>?_)
 ·obtain⟨wd,pl,m,xs,ys,ps,rfl,_⟩:=h
  rfl
 obtain⟨wd,pl,m,xs,ys,ps,rfl,WA,m9,PA,q⟩:=h
 refine⟨_,(zae (zar (i:=2) sc_open_at.nd rfl (Or.inl rfl) (zag ad hr.lv rfl T.K_stand_of (zaa (pv 1) zac)))
   (zai (zaw (zag aa hr.lv rfl T.K_open_options (zaa (zax (ixT (K:=K)) (pv 0) zaf (fun _ _=>rfl)) (zaa (zax (ixT (K:=K)) (pv 2) zaf (fun _ _=>rfl)) (zaa (zax (ixT (K:=K)) (pv 2) zaf (fun _ _=>rfl)) zac))))))),?_⟩
 refine⟨_,rfl,pl,ps,rfl,PA,fun t H1 s1 ht=>?_⟩
 obtain⟨tb,tc,hw,hb,hc⟩:=WoodAt.same s1 WA
 refine⟨_,rfl,wd,_,_,_,rfl,rfl,sqT hw,at0,_,rfl,t,_,_,_,rfl,rfl,sqT ht,at0,_,rfl,t,_,_,_,rfl,rfl,sqT ht,at1,?_⟩
 exact⟨m,zaj ps,zao ps,rfl,m9,fun l H2 s2 nl hl=>q l H2 (s1.trans s2) (s1.free nl) hl⟩
theorem ze3(T:Txt K mg a d):FnOk P w K mg base CX0 18 a.f_first_ware_at d.f_first_ware_at ["wood", "picks"] zsf:=by
 have ad:=zcy (P:=P) (w:=w) (base:=base) T
 have aa:=zg0 (P:=P) (w:=w) (base:=base) T
 refine T.K_first_ware_at.ok sc_first_ware_at (fun vs H Q E h=>?_) (fun cdv A outer s H vs Q E hr h=>?_)
 ·obtain⟨wd,pl,m,ts,ps,rfl,_⟩:=h
  rfl
 obtain⟨wd,pl,m,ts,ps,rfl,W,m9,m1,PA,S,q⟩:=h
 refine⟨_,(zae (zar (i:=2) sc_first_ware_at.nd rfl (Or.inl rfl) (zag ad hr.lv rfl T.K_stand_of (zaa (pv 1) zac)))
   (zai (zaw (zag aa hr.lv rfl T.K_first_ware (zaa (pv 0) (zaa (zax (ixT (K:=K)) (pv 2) zaf (fun _ _=>rfl)) (zaa (zax (ixT (K:=K)) (pv 2) zaf (fun _ _=>rfl)) zac))))))),?_⟩
 refine⟨_,rfl,pl,ps,rfl,PA,fun t H1 s1 ht=>?_⟩
 refine⟨_,rfl,_,rfl,t,_,_,_,rfl,rfl,sqT ht,at0,_,rfl,t,_,_,_,rfl,rfl,sqT ht,at1,?_⟩
 exact⟨wd,m,ts,zaj ps,zao ps,rfl,W.same s1,m9,m1,S,fun H2 o s2 h=>q H2 o (s1.trans s2) (by cases o<;>exact h)⟩
theorem zfy(T:Txt K mg a d):FnOk P w K mg base CX0 19 a.f_leads_on d.f_leads_on ["wood", "picks", "pick"] zvm:=by
 have aa:=ze3 (P:=P) (w:=w) (base:=base) T
 refine T.K_leads_on.ok znz (fun vs H Q E h=>?_) (fun cdv A outer s H vs Q E hr h=>?_)
 ·obtain⟨wd,pl,tp,m,ts,ps,p,rfl,_⟩:=h
  rfl
 obtain⟨wd,pl,tp,m,ts,ps,p,rfl,W,m9,m1,PA,pf,af,ai,S,q⟩:=h
 obtain⟨xs,ae,pk⟩:=PA.ex
 have lx:=pk.length
 refine⟨_,(zai (zaw (zbo zgt (zag aa hr.lv rfl T.K_first_ware_at (zaa (pv 0) (zaa (zav zdp (pv 1) (zbb (zaa (pv 2) zac))) zac))) zcu (zau _)))),?_⟩
 refine⟨_,rfl,_,rfl,_,rfl,zaq (by show 1≤1000;decide),fun l1 ah=>?_⟩
 have s1:=zad ah (.lst [.ref tp])
 have h1:L2.upd H l1 (.lst [.ref tp]) l1=some (.lst [.ref tp]):=zab
 generalize L2.upd H l1 (.lst [.ref tp])=H1 at s1 h1 ⊢
 refine⟨pl,l1,_,_,rfl,rfl,s1 _ _ ae,h1,zaq (by show xs.length+1≤1000;omega),fun l2 ag=>?_⟩
 have s2:=zad ag (.lst (xs++[.ref tp]))
 have h2:L2.upd H1 l2 (.lst (xs++[.ref tp])) l2=some (.lst (xs++[.ref tp])):=zab
 generalize L2.upd H1 l2 (.lst (xs++[.ref tp]))=H2 at s2 h2 ⊢
 have ad:=s1.trans s2
 have PB:PicksAt H2 l2 (ps++[p]):=⟨⟨_,h2,PickL.snoc (ad _ _ ai) (pk.same (Same.tup ad))⟩,by rw[List.length_append,List.length_singleton];omega,fun x hx=>by
  rcases List.mem_append.mp hx with z|z
  ·exact PA.le x z
  ·rw[List.mem_singleton.mp z];exact af⟩
 refine⟨wd,l2,m,ts,ps++[p],rfl,W.same ad,m9,m1,PB,S,fun H3 o s3 ho=>?_⟩
 have q1:=q H3 o (ad.trans s3) ho
 refine⟨rfl,?_⟩
 cases o<;>exact q1
theorem zez(T:Txt K mg a d):FnOk P w K mg base CX0 1 a.f_left_without d.f_left_without ["things", "one"] zqt:=by
 refine T.K_left_without.ok zfs (fun vs H Q E h=>?_) (fun cdv A outer s H vs Q E hr h=>?_)
 ·obtain⟨l,tp,ps,p,rfl,_⟩:=h
  rfl
 obtain⟨l,tp,ps,p,rfl,pa,af,q⟩:=h
 obtain⟨xs,hl,pl⟩:=pa.ex
 have few:=pa.few
 have lx:=pl.length
 refine⟨_,(zai (zaw (zdu (N':=["other", "one"]) (n:=1) (kp:=[1]) rfl (piL (K:=K) (pv 0)) rfl rfl rfl (fun _ _ _ _ _=>(zan (i:=0) (of_decide_eq_true rfl) rfl (Or.inl rfl))) (fun _ _ _ _ _=>(zbv (zap (zdd hr.units) (pv 0) (pv 1) (zau _)))) (fun _ _ _ _ _=>(pv 0))))),?_⟩
 refine⟨_,rfl,l,rfl,⟨_,SqL.of hl⟩,?_⟩
 refine zbx (K:=K) (a:=l) (xs:=xs) (fun j ys σ H2=>(∃v,σ=[v,some (.ref tp)])∧H2=H∧ys.length≤j∧PickL H (zbr (ps.take j) p) ys) ⟨⟨none,rfl⟩,rfl,Nat.le_refl _,rfl⟩ (fun j ys σ H2 hj pv=>?_) (fun j ys σ H2 hj pv=>?_) (fun j x ys σ H2 hx pv=>?_) (fun ys σ H2 pv la ad=>?_)
 ·exact zaq (by have:=pv.2.2.1;omega)
 ·rw[pv.2.1]
  exact SqL.of hl
 ·obtain⟨⟨v0,rfl⟩,rfl,lj,pk⟩:=pv
  obtain⟨p1,t1,ae,rfl,aa⟩:=pl.get hx
  have et:zbr (ps.take (j+1)) p=zbr (ps.take j) p++(if p1=p then [] else [p1]):=by
   unfold zbr
   rw[List.take_add_one,ae,Option.toList_some,List.filter_append]
   congr 1
   by_cases c:p1=p
   ·rw[if_pos c,List.filter_cons_of_neg (by rw[decide_eq_true c];exact Bool.false_ne_true)]
    rfl
   ·rw[if_neg c,List.filter_cons_of_pos (by rw[decide_eq_false c];rfl)]
    rfl
  refine⟨_,rfl,_,rfl,za9 p1,za9 p,zhp aa,zhp af,zei _,zei _,_,rfl,?_⟩
  rw[zkt]
  by_cases c:p1=p
  ·refine zfr c ?_
   refine⟨⟨_,rfl⟩,rfl,by omega,?_⟩
   rw[et,if_pos c,List.append_nil]
   exact pk
  ·refine zjw c ?_
   refine⟨_,rfl,⟨_,rfl⟩,rfl,by rw[List.length_append];simp only[List.length_cons,List.length_nil];omega,?_⟩
   rw[et,if_neg c]
   exact PickL.snoc aa pk
 obtain⟨_,rfl,lj,pk⟩:=pv
 rw[←lx,List.take_length] at pk
 have s1:=zad ad (.lst ys)
 exact q la _ s1 ad ⟨⟨ys,zab,pk.same (Same.tup s1)⟩,Nat.le_trans (List.length_filter_le _ _) few,fun x hx=>pa.le x (List.mem_filter.mp hx).1⟩
theorem zkb(T:Txt K mg a d):FnOk P w K mg base CX0 18 a.f_least_picks d.f_least_picks ["wood", "ties", "picks", "asked"] zuw:=by
 have aa:=zez (P:=P) (w:=w) (base:=base) T
 have ad:=zcy (P:=P) (w:=w) (base:=base) T
 have ae:=zri (P:=P) (w:=w) (base:=base) T
 refine T.K_least_picks.ok sc_least_picks (fun vs H Q E h=>?_) (fun cdv A outer s H vs Q E hr h=>?_)
 ·obtain⟨wd,tl,l,tp,m,ts,il,ps,p,rfl,_⟩:=h
  rfl
 obtain⟨wd,tl,l,tp,m,ts,il,ps,p,rfl,W,m9,aw,ao,pa,few,ap,av,q⟩:=h
 obtain⟨xs,hl,pl⟩:=pa.ex
 refine⟨_,(zae (zar (i:=4) sc_least_picks.nd rfl (Or.inl rfl) (pv 2))
   (zae (zb6 PassesOwn.never rfl (piL (K:=K) (pv 2)) (zan (i:=5) sc_least_picks.nd rfl (Or.inl rfl)) (zae (zar (i:=6) sc_least_picks.nd rfl (Or.inl rfl) (zag aa hr.lv rfl T.K_left_without (zaa (pv 4) (zaa (pv 5) zac))))
   (zae (zar (i:=7) sc_least_picks.nd rfl (Or.inl rfl) (zag ad hr.lv rfl T.K_stand_of (zaa (zav zdp (pv 6) (zbb (zaa (pv 3) zac))) zac)))
   (zai (za7 (zcv (zag ae hr.lv rfl T.K_bars (zaa (pv 0) (zaa (pv 1) (zaa (zax (ixT (K:=K)) (pv 7) zaf (fun _ _=>rfl)) (zaa (zax (ixT (K:=K)) (pv 7) zaf (fun _ _=>rfl)) zac)))))) (zai (zar (i:=4) sc_least_picks.nd rfl (Or.inl rfl) (pv 6))) za1)))))
   (zai (zaw (pv 4))))),?_⟩
 refine⟨_,rfl,?_⟩
 refine⟨_,rfl,l,rfl,⟨_,SqL.of hl⟩,?_⟩
 refine zce (K:=K) (a:=l) (xs:=xs) (fun i σ H2=>∃(l2:Addr)(o5 o6 o7:Option V),σ=[some (.ref wd),some (.ref tl),some (.ref l),some (.ref tp),some (.ref l2),o5,o6,o7]∧Same H H2∧PicksAt H2 l2 (lpk ts il m p (ps.take i) ps)) ⟨l,none,none,none,rfl,Same.refl _,pa⟩ (fun i σ H2 hi pv=>?_) (fun i x σ H2 hx pv=>?_) (fun σ H2 pv=>?_)
 ·obtain⟨_,_,_,_,_,s2,_⟩:=pv
  exact SqL.of (s2 _ _ hl)
 ·obtain⟨l2,o5,o6,o7,rfl,s2,af⟩:=pv
  obtain⟨p1,t1,am,rfl,ax⟩:=pl.get hx
  have sub:=(zdz (ts:=ts) (il:=il) (m:=m) (a:=p) (ps.take i) ps).length_le
  refine⟨_,rfl,_,rfl,l2,t1,_,p1,rfl,af,s2 _ _ ax,fun l3 H3 s3 aA ah=>?_⟩
  have ak:=s2.trans s3
  obtain⟨zs,hz,_⟩:=ah.ex
  have lw:(zbr (lpk ts il m p (ps.take i) ps) p1).length≤19:=Nat.le_trans (List.length_filter_le _ _) (by omega)
  refine⟨_,rfl,_,rfl,zaq (by show 1≤1000;decide),fun l4 ar=>?_⟩
  have s4:=zad ar (.lst [.ref tp])
  have g4:L2.upd H3 l4 (.lst [.ref tp]) l4=some (.lst [.ref tp]):=zab
  generalize L2.upd H3 l4 (.lst [.ref tp])=H4 at s4 g4 ⊢
  have lz:zs.length≤20:=by
   obtain⟨aB,al,pz⟩:=ah.ex
   rw[hz] at al
   cases al
   rw[←pz.length]
   omega
  refine⟨l3,l4,zs,_,rfl,rfl,s4 _ _ hz,g4,zaq (by show zs.length+1≤1000;omega),fun l5 aq=>?_⟩
  have s5:=zad aq (.lst (zs++[.ref tp]))
  have g5:L2.upd H4 l5 (.lst (zs++[.ref tp])) l5=some (.lst (zs++[.ref tp])):=zab
  generalize L2.upd H4 l5 (.lst (zs++[.ref tp]))=H5 at s5 g5 ⊢
  have ag:=s4.trans s5
  have ay:=ah.snoc hz (by omega) av (ak _ _ ap) ag g5
  refine⟨l5,_,rfl,ay,fun t6 H6 s6 aj=>?_⟩
  have ai:=(ak.trans ag).trans s6
  refine⟨_,rfl,_,rfl,_,rfl,t6,_,_,_,rfl,rfl,sqT aj,at0,_,rfl,t6,_,_,_,rfl,rfl,sqT aj,at1,wd,m,ts,tl,il,_,_,rfl,W.same ai,m9,ai _ _ aw,ao,fun H7 s7=>?_⟩
  refine⟨_,rfl,?_⟩
  have ev:=zjo (ts:=ts) (il:=il) (m:=m) (a:=p) (p:=p1) (ps.take i) ps
  have et:ps.take (i+1)=ps.take i++[p1]:=by rw[List.take_add_one,am,Option.toList_some]
  refine zcw (fun c=>?_) (fun c=>?_)
  ·refine⟨_,rfl,l3,_,_,_,rfl,ai.trans s7,?_⟩
   rw[et,ev,if_pos c]
   exact(ah.same ag).same (s6.trans s7)
  ·refine⟨l2,_,_,_,rfl,ai.trans s7,?_⟩
   rw[et,ev,if_neg c]
   exact af.same ((s3.trans ag).trans (s6.trans s7))
 obtain⟨l2,o5,o6,o7,rfl,s2,af⟩:=pv
 rw[←pl.length,List.take_length] at af
 exact⟨_,rfl,q l2 H2 s2 af⟩
theorem zkq(T:Txt K mg a d):FnOk P w K mg base CX0 18 a.f_pick_others d.f_pick_others ["wood", "ties", "picks", "asked"] znc:=by
 have ad:=zez (P:=P) (w:=w) (base:=base) T
 have ae:=zcy (P:=P) (w:=w) (base:=base) T
 have aa:=zby (P:=P) (w:=w) (base:=base) T 9
 refine T.K_pick_others.ok sc_pick_others (fun vs H Q E h=>?_) (fun cdv A outer s H vs Q E hr h=>?_)
 ·obtain⟨wd,tl,l,tp,m,ts,il,ps,p,rfl,_⟩:=h
  rfl
 obtain⟨wd,tl,l,tp,m,ts,il,ps,p,rfl,W,m9,aF,ax,pa,few,ay,aC,q⟩:=h
 obtain⟨xs,hl,pl⟩:=pa.ex
 have lx:=pl.length
 refine⟨_,(zae (zar (i:=4) sc_pick_others.nd rfl (Or.inl rfl) (zbb zac))
   (zae (zb6 PassesOwn.never rfl (piL (K:=K) (pv 2)) (zan (i:=5) sc_pick_others.nd rfl (Or.inl rfl)) (zae (zar (i:=6) sc_pick_others.nd rfl (Or.inl rfl) (zag ae hr.lv rfl T.K_stand_of (zaa (zav zdp (zag ad hr.lv rfl T.K_left_without (zaa (pv 2) (zaa (pv 5) zac))) (zbb (zaa (pv 3) zac))) zac)))
   (zai (zca (zes (K:=K) PySem.F.plainAttrs_list PySem.F.slot_list_append PySem.F.type_list_append zcz (pv 4) (zaa (zbc (zaa (pv 5) (zaa (zag aa hr.lv rfl T.K_first_keeping (zaa (pv 0) (zaa (pv 1) (zaa (zax (ixT (K:=K)) (pv 6) zaf (fun _ _=>rfl)) (zaa (zax (ixT (K:=K)) (pv 6) zaf (fun _ _=>rfl)) zac))))) zac))) zac))))))
   (zai (zaw (pv 4))))),?_⟩
 refine⟨zaq (by show 0≤1000;decide),fun ol aj=>?_⟩
 have s0:=zad aj (.lst [])
 have g0:L2.upd H ol (.lst []) ol=some (.lst []):=zab
 generalize L2.upd H ol (.lst [])=H0 at s0 g0 ⊢
 have aD:=s0 _ _ hl
 have aJ:l≠ol:=fun z=>by rw[z,aj] at hl;cases hl
 have af:∀H2,SameX ol H0 H2→Same H H2:=fun H2 x=>SameX.freshW s0 aj g0 x
 refine⟨_,rfl,l,rfl,⟨_,SqL.of aD⟩,?_⟩
 refine zce (K:=K) (a:=l) (xs:=xs) (fun i σ H2=>∃(o5 o6:Option V)(ys:List V),σ=[some (.ref wd),some (.ref tl),some (.ref l),some (.ref tp),some (.ref ol),o5,o6]∧SameX ol H0 H2∧H2 ol=some (.lst ys)∧ys.length=i∧∀(j:Nat) p1,j<i→ps[j]?=some p1→∃q t,ys[j]?=some (.ref q)∧H2 q=some (.tup [.ref t,zhx (zbg ts il m 9 (zaj (zbr ps p1++[p])) (zao (zbr ps p1++[p])))])∧H2 t=some (.tup [.int (p1.1:Int),.bl p1.2])) ⟨none,none,[],rfl,SameX.refl _ _,g0,rfl,fun j p1 hj=>absurd hj (Nat.not_lt_zero _)⟩ (fun i σ H2 hi pv=>?_) (fun i x σ H2 hx pv=>?_) (fun σ H2 pv=>?_)
 ·obtain⟨_,_,_,_,x2,_⟩:=pv
  exact SqL.of (af H2 x2 _ _ hl)
 ·obtain⟨o5,o6,ys,rfl,x2,ah,ly,ent⟩:=pv
  have aI:=(List.getElem?_eq_some_iff.mp hx).1
  obtain⟨p1,t1,aw,rfl,av⟩:=pl.get hx
  have s2:=af H2 x2
  refine⟨_,rfl,_,rfl,l,t1,ps,p1,rfl,pa.same s2,s2 _ _ av,fun l3 H3 s3 aK aq=>?_⟩
  have aE:=s2.trans s3
  obtain⟨zs,hz,pz⟩:=aq.ex
  have lw:(zbr ps p1).length≤19:=Nat.le_trans (List.length_filter_le _ _) few
  have lz:=pz.length
  refine⟨_,rfl,zaq (by show 1≤1000;decide),fun l4 aB=>?_⟩
  have s4:=zad aB (.lst [.ref tp])
  have g4:L2.upd H3 l4 (.lst [.ref tp]) l4=some (.lst [.ref tp]):=zab
  generalize L2.upd H3 l4 (.lst [.ref tp])=H4 at s4 g4 ⊢
  refine⟨l3,l4,zs,_,rfl,rfl,s4 _ _ hz,g4,zaq (by show zs.length+1≤1000;omega),fun l5 aA=>?_⟩
  have s5:=zad aA (.lst (zs++[.ref tp]))
  have g5:L2.upd H4 l5 (.lst (zs++[.ref tp])) l5=some (.lst (zs++[.ref tp])):=zab
  generalize L2.upd H4 l5 (.lst (zs++[.ref tp]))=H5 at s5 g5 ⊢
  have ap:=s4.trans s5
  have aH:=aq.snoc hz (by omega) aC (aE _ _ ay) ap g5
  refine⟨l5,_,rfl,aH,fun t6 H6 s6 ao=>?_⟩
  have ak:=(s3.trans ap).trans s6
  have ar:=s2.trans ak
  have al:H6 ol=some (.lst ys):=ak _ _ ah
  have of:=zc8 m (zaj (zbr ps p1++[p])) (zao (zbr ps p1++[p]))
  refine⟨_,rfl,.inl ⟨rfl,_,SqL.of al⟩,?_⟩
  refine⟨_,rfl,_,rfl,_,rfl,_,rfl,t6,_,_,_,rfl,rfl,sqT ao,at0,_,rfl,t6,_,_,_,rfl,rfl,sqT ao,at1,wd,m,ts,tl,il,_,_,rfl,W.same ar,ar _ _ aF,ax,by omega,fun H7 s7=>?_⟩
  refine⟨zaq (by show 2≤1000;decide),fun q8 aG=>?_⟩
  have s8:=zad aG (.tup [.ref t1,zhx (zbg ts il m 9 (zaj (zbr ps p1++[p])) (zao (zbr ps p1++[p])))])
  have g8:L2.upd H7 q8 (.tup [.ref t1,zhx (zbg ts il m 9 (zaj (zbr ps p1++[p])) (zao (zbr ps p1++[p])))]) q8=some (.tup [.ref t1,zhx (zbg ts il m 9 (zaj (zbr ps p1++[p])) (zao (zbr ps p1++[p])))]):=zab
  generalize L2.upd H7 q8 (.tup [.ref t1,zhx (zbg ts il m 9 (zaj (zbr ps p1++[p])) (zao (zbr ps p1++[p])))])=H8 at s8 g8 ⊢
  have ai:=(ak.trans s7).trans s8
  have ag:H8 ol=some (.lst ys):=ai _ _ ah
  refine⟨ol,ys,_,rfl,rfl,ag,zbi (by omega),?_⟩
  have x9:=za2 (pen:=ol) (H:=H8) (.lst (ys++[.ref q8]))
  have t9:=SameX.tup ag x9
  have tt:=zak (Same.tup ai) t9
  refine⟨_,_,ys++[.ref q8],rfl,(x2.trans (Same.x ai)).trans x9,zab,by rw[List.length_append,ly];rfl,fun j p2 hj am=>?_⟩
  rcases Nat.lt_or_ge j i with z|z
  ·obtain⟨q',t',a1,a2,a3⟩:=ent j p2 z am
   exact⟨q',t',by rw[List.getElem?_append_left (by omega)];exact a1,tt _ _ a2,tt _ _ a3⟩
  ·have e:j=i:=by omega
   subst e
   rw[aw] at am
   cases am
   exact⟨q8,t1,by rw[List.getElem?_append_right (by omega),ly,Nat.sub_self];rfl,t9 _ _ g8,(zak (Same.tup (s2.trans ai)) t9) _ _ av⟩
 obtain⟨o5,o6,ys,rfl,x2,ah,ly,ent⟩:=pv
 exact⟨_,rfl,q ol H2 (af H2 x2) aj ⟨ys,ah,by omega,fun j p1 hj=>ent j p1 (by rw[←lx];exact(List.getElem?_eq_some_iff.mp hj).1) hj⟩⟩
theorem zk7(T:Txt K mg a d)(LB:zkp mg base a.c_cases_of a.t_cases_of):FnOk P w K mg base CX0 19 a.f_why_barred d.f_why_barred ["wood", "picks", "asked"] (spT a.t_cases_of zxr):=by
 have aa:=zcy (P:=P) (w:=w) (base:=base) T
 have ah:=zlb (P:=P) (w:=w) (base:=base) T
 have ae:=zkb (P:=P) (w:=w) (base:=base) T
 have aj:=zpk (P:=P) (w:=w) (base:=base) T LB 9
 have ag:=zla (P:=P) (w:=w) (base:=base) T
 have af:=zkq (P:=P) (w:=w) (base:=base) T
 refine T.K_why_barred.ok sc_why_barred (fun vs H Q E h=>?_) (fun cdv A outer s H vs Q E hr h=>?_)
 ·obtain⟨_,wd,pl,tp,m,ts,ps,p,rfl,_⟩:=h
  rfl
 obtain⟨tb,wd,pl,tp,m,ts,ps,p,rfl,W,bQ,m9,pa,few,nd,aF,aH,q⟩:=h
 obtain⟨xs,hl,px⟩:=pa.ex
 have lx:=px.length
 refine⟨_,(zae (zar (i:=3) sc_why_barred.nd rfl (Or.inl rfl) (zag aa hr.lv rfl T.K_stand_of (zaa (zav zdp (pv 1) (zbb (zaa (pv 2) zac))) zac)))
   (zae (zar (i:=4) sc_why_barred.nd rfl (Or.inl rfl) (zag ah hr.lv rfl T.K_least_ties (zaa (pv 0) (zaa (zax (ixT (K:=K)) (pv 3) zaf (fun _ _=>rfl)) (zaa (zax (ixT (K:=K)) (pv 3) zaf (fun _ _=>rfl)) zac)))))
   (zae (zar (i:=5) sc_why_barred.nd rfl (Or.inl rfl) (zag ae hr.lv rfl T.K_least_picks (zaa (pv 0) (zaa (pv 4) (zaa (za3 (zhs (K:=K)) rfl T.m_sorted PyProof.Rows.boot_sorted (zaa (pv 1) zac)) (zaa (pv 2) zac))))))
   (zae (zar (i:=3) sc_why_barred.nd rfl (Or.inl rfl) (zag aa hr.lv rfl T.K_stand_of (zaa (zav zdp (pv 5) (zbb (zaa (pv 2) zac))) zac)))
   (zae (zar (i:=6) sc_why_barred.nd rfl (Or.inl rfl) (zag aj hr.lv rfl T.K_cases_of (zaa (pv 0) (zaa (pv 4) (zaa (zax (ixT (K:=K)) (pv 3) zaf (fun _ _=>rfl)) (zaa (zax (ixT (K:=K)) (pv 3) zaf (fun _ _=>rfl)) zac))))))
   (zae (zar (i:=7) sc_why_barred.nd rfl (Or.inl rfl) (zav zdp (zag ag hr.lv rfl T.K_tie_others (zaa (pv 0) (zaa (pv 4) (zaa (zax (ixT (K:=K)) (pv 3) zaf (fun _ _=>rfl)) (zaa (zax (ixT (K:=K)) (pv 3) zaf (fun _ _=>rfl)) zac))))) (zag af hr.lv rfl T.K_pick_others (zaa (pv 0) (zaa (pv 4) (zaa (pv 5) (zaa (pv 2) zac)))))))
   (zai (zaw (zbc (zaa (pv 4) (zaa (pv 5) (zaa (pv 6) (zaa (pv 7) zac))))))))))))),?_⟩
 refine⟨_,rfl,_,rfl,zaq (by show 1≤1000;decide),fun l4 bw=>?_⟩
 have s4:=zad bw (.lst [.ref tp])
 have g4:L2.upd H l4 (.lst [.ref tp]) l4=some (.lst [.ref tp]):=zab
 generalize L2.upd H l4 (.lst [.ref tp])=H4 at s4 g4 ⊢
 refine⟨pl,l4,xs,_,rfl,rfl,s4 _ _ hl,g4,zaq (by show xs.length+1≤1000;omega),fun l5 bG=>?_⟩
 have s5:=zad bG (.lst (xs++[.ref tp]))
 have g5:L2.upd H4 l5 (.lst (xs++[.ref tp])) l5=some (.lst (xs++[.ref tp])):=zab
 generalize L2.upd H4 l5 (.lst (xs++[.ref tp]))=H5 at s5 g5 ⊢
 have bg:=s4.trans s5
 have bt:=pa.snoc hl (by omega) aH aF bg g5
 refine⟨l5,_,rfl,bt,fun t6 H6 s6 aX=>?_⟩
 have be:=bg.trans s6
 refine⟨_,rfl,_,rfl,t6,_,_,_,rfl,rfl,sqT aX,at0,_,rfl,t6,_,_,_,rfl,rfl,sqT aX,at1,wd,m,ts,_,_,rfl,W.same be,m9,fun lf H7 s7 bJ aT=>?_⟩
 generalize bh:zb2 ts m (zaj (ps++[p])) (zao (ps++[p]))=il at aT q
 have aE:∀i∈il,i<ts.length:=fun i hi=>by
  rw[←bh] at hi
  exact List.mem_range.mp (leastL_sub.subset hi)
 have bC:il.length≤900:=by
  rw[←bh]
  have:=(leastL_sub (ts:=ts) (m:=m) (y:=zaj (ps++[p])) (n:=zao (ps++[p]))).length_le
  unfold zda at this
  rw[List.length_range] at this
  omega
 have bo:=be.trans s7
 have bF:=pa.same bo
 obtain⟨bM,br,bq⟩:=bF.ex
 obtain⟨es,e1,e2,e3,e4⟩:=bq.es
 refine⟨_,rfl,_,rfl,_,rfl,pl,es,rfl,SqL.of (by rw[←e1];exact br),⟨fun e he=>⟨_,(e4 e he).1⟩,?_⟩,?_,fun ar pe pw l8 bv=>?_⟩
 ·rw[e2]
  have:(ps.map fun p=>((p.1:Nat):Int))=(ps.map (·.1)).map fun k:Nat=>(k:Int):=by rw[List.map_map];rfl
  rw[this]
  rw[List.nodup_iff_pairwise_ne,List.pairwise_map]
  exact List.Pairwise.imp (fun {a b} h z=>h (by omega)) (List.nodup_iff_pairwise_ne.mp nd)
 ·have:=congrArg List.length e3
  rw[List.length_map] at this
  omega
 have s8:=zad bv (.lst (ar.map fun e=>V.ref e.2))
 have g8:L2.upd H7 l8 (.lst (ar.map fun e=>V.ref e.2)) l8=some (.lst (ar.map fun e=>V.ref e.2)):=zab
 generalize L2.upd H7 l8 (.lst (ar.map fun e=>V.ref e.2))=H8 at s8 g8 ⊢
 have aU:∀e∈ar,H7 e.2=some (.tup [.int e.1,.bl (zb7 H7 e.2).2])∧e.1=(((zb7 H7 e.2).1:Nat):Int):=fun e he=>e4 e (pe.mem_iff.mp he)
 obtain⟨ak,ao⟩:∃ak,ak=ar.map fun e=>zb7 H7 e.2:=⟨_,rfl⟩
 have pm:ak.Perm ps:=by
  rw[ao,←e3]
  exact pe.map _
 have up:(ak.map (·.1)).Pairwise (·<·):=by
  rw[ao,List.map_map,List.pairwise_map]
  rw[List.pairwise_map] at pw
  refine List.Pairwise.imp_of_mem (fun {a b} ha hb h=>?_) pw
  have a1:=(aU a ha).2
  have b1:=(aU b hb).2
  show(zb7 H7 a.2).1<(zb7 H7 b.2).1
  omega
 have aM:ak.length≤19:=by rw[pm.length_eq];exact few
 have bH:PicksAt H8 l8 ak:=⟨⟨_,g8,by rw[ao];exact(PickL.of_es ar aU).same (Same.tup s8)⟩,by omega,fun x hx=>pa.le x (pm.mem_iff.mp hx)⟩
 have aL:=bo.trans s8
 refine⟨_,rfl,wd,lf,l8,tp,m,ts,il,ak,p,rfl,W.same aL,m9,s8 _ _ aT,aE,bH,aM,aL _ _ aF,aH,fun lp H9 s9 aC=>?_⟩
 have sub:=(zdz (ts:=ts) (il:=il) (m:=m) (a:=p) ak ak).length_le
 have aV:=aL.trans s9
 obtain⟨zs,hz,pz⟩:=aC.ex
 have lz:=pz.length
 refine⟨_,rfl,_,rfl,zaq (by show 1≤1000;decide),fun aG aN=>?_⟩
 have aI:=zad aN (.lst [.ref tp])
 have bf:L2.upd H9 aG (.lst [.ref tp]) aG=some (.lst [.ref tp]):=zab
 generalize L2.upd H9 aG (.lst [.ref tp])=ba at aI bf ⊢
 refine⟨lp,aG,zs,_,rfl,rfl,aI _ _ hz,bf,zaq (by show zs.length+1≤1000;omega),fun aJ aW=>?_⟩
 have aO:=zad aW (.lst (zs++[.ref tp]))
 have aZ:L2.upd ba aJ (.lst (zs++[.ref tp])) aJ=some (.lst (zs++[.ref tp])):=zab
 generalize L2.upd ba aJ (.lst (zs++[.ref tp]))=bL at aO aZ ⊢
 have aR:=aC.snoc hz (by omega) aH (aV _ _ aF) (aI.trans aO) aZ
 refine⟨aJ,_,rfl,aR,fun aK bp bE am=>?_⟩
 have ap:=(aI.trans aO).trans bE
 have av:=aV.trans ap
 have al:bp lf=some (.lst (zam il)):=((s8.trans s9).trans ap) _ _ aT
 have of:=zc8 m (zaj (lpk ts il m p ak ak++[p])) (zao (lpk ts il m p ak ak++[p]))
 refine⟨_,rfl,_,rfl,_,rfl,aK,_,_,_,rfl,rfl,sqT am,at0,_,rfl,aK,_,_,_,rfl,rfl,sqT am,at1,av.tab tb,wd,m,ts,lf,il,_,_,rfl,W.same av,al,aE,by omega,fun tv bO aA dv=>?_⟩
 have aP:=av.trans aA
 have aB:=aA _ _ am
 refine⟨_,rfl,_,rfl,_,rfl,aK,_,_,_,rfl,rfl,sqT aB,at0,_,rfl,aK,_,_,_,rfl,rfl,sqT aB,at1,wd,lf,m,ts,il,_,_,rfl,W.same aP,m9,aA _ _ al,aE,bC,fun o1 bR aD bN ot=>?_⟩
 have aw:=(ap.trans aA).trans aD
 have ax:=aV.trans aw
 refine⟨_,rfl,_,rfl,_,rfl,_,rfl,wd,lf,lp,tp,m,ts,il,_,p,rfl,W.same ax,m9,(aA.trans aD) _ _ al,aE,aC.same aw,by omega,ax _ _ aF,aH,fun o2 bi aY bK op=>?_⟩
 obtain⟨ay,aS,bu,bB⟩:=ot.ex
 obtain⟨aq,aQ,bz,bx⟩:=op.ex
 refine⟨o1,o2,ay,aq,rfl,rfl,aY _ _ aS,aQ,zaq (by omega),fun ol bI=>?_⟩
 have bb:=zad bI (.lst (ay++aq))
 have bd:L2.upd bi ol (.lst (ay++aq)) ol=some (.lst (ay++aq)):=zab
 generalize L2.upd bi ol (.lst (ay++aq))=bP at bb bd ⊢
 refine⟨_,rfl,_,rfl,_,rfl,_,rfl,zaq (by show 4≤1000;decide),fun qq bA=>?_⟩
 have bj:=zad bA (.tup [.ref lf,.ref lp,tv,.ref ol])
 have ai:=bb.trans bj
 have ad:=aY.trans ai
 refine q _ _ ak ⟨pm,up⟩ (ax.trans ad) ⟨qq,lf,lp,ol,o1,o2,tv,ay,aq,rfl,zab,((aA.trans aD).trans ad) _ _ al,(aC.same aw).same ad,Dn.same (aD.trans ad) _ _ dv,⟨ay,ad _ _ aS,bu,fun j t hj=>?_⟩,⟨aq,ai _ _ aQ,bz,fun j t hj=>?_⟩,ad _ _ aS,ai _ _ aQ,bj _ _ bd⟩
 ·obtain⟨q',a1,a2⟩:=bB j t hj
  exact⟨q',a1,ad _ _ a2⟩
 ·obtain⟨q',t',a1,a2,a3⟩:=bx j t hj
  exact⟨q',t',a1,ai _ _ a2,ai _ _ a3⟩
theorem zdn(T:Txt K mg a d):FnOk P w K mg base CX0 1 a.f_law_take d.f_law_take ["_law_state", "_law_most"] (zw8 K):=by
 refine T.K_law_take.ok sc_law_take (fun vs H Q E h=>?_) (fun cdv A outer s H vs Q E hr h=>?_)
 ·obtain⟨pen,sp,ns,aa,k,rfl,_⟩:=h
  rfl
 obtain⟨pen,sp,ns,aa,k,rfl,pn,k0,k1,m0,q⟩:=h
 have hp:=pn.at_
 have el:(ns.map V.int).length=ns.length:=List.length_map _
 have ad:∀j:Int,0≤j→j<ns.length→∃v:Int,atI (ns.map V.int) j=some (.int v):=fun j j0 j1=>by
  obtain⟨m,rfl⟩:∃m:Nat,j=(m:Int):=⟨j.toNat,by omega⟩
  have hj:m<ns.length:=by omega
  refine⟨ns[m],zc5 ?_⟩
  rw[List.getElem?_map,List.getElem?_eq_getElem hj]
  rfl
 have last:∃t,PSs (zd2 CX0 P w K mg base ["_law_state", "_law_most", "_law_script", "_law_at", "_law_number"] "_law_take" (zah zd6) a.f_law_take cdv A outer s H E).nox ((zba zd6).drop 5) t∧∀(N:Int)(v0 v2 v3:Option V),t { nx:=fun _ H'=>Q .non H',rt:=Q } [v0,some (.int aa),v2,v3,some (.int N)] (L2.upd H pen (.lst [.ref sp,.int (k+1)])):=by
  refine⟨_,(zai (zaw (zav zf1 (zav zf1 (zav zel (zav zf1 (zav zel (pv 4) zaf) zaf) (zav zb9 (zav zf1 (pv 4) zaf) zaf)) zaf) (pv 1)))),fun N v0 v2 v3=>?_⟩
  have n0:0≤N*48271%2147483629:=Int.emod_nonneg _ (by decide)
  have n1:N*48271%2147483629<2147483629:=Int.emod_lt_of_pos _ (by decide)
  refine⟨_,rfl,_,_,rfl,rfl,.inr ⟨by decide,by decide⟩,_,_,rfl,rfl,(by show(0:Int)<2147483629;decide),_,rfl,_,_,rfl,rfl,(by show(0:Int)<65521;decide),_,_,rfl,rfl,_,_,rfl,rfl,.inl ⟨by omega,by omega⟩,_,_,rfl,rfl,(by show(0:Int)<999999937;decide),_,rfl,_,_,rfl,rfl,m0,?_⟩
  exact q _ (Int.emod_nonneg _ (by omega)) (Int.emod_lt_of_pos _ m0)
 obtain⟨t5,h5,r5⟩:=last
 refine⟨_,(zae (zg5 (pv 0) (zxg (K:=K) rfl (za0 (zan (i:=2) sc_law_take.nd rfl (Or.inl rfl)) (za0 (zan (i:=3) sc_law_take.nd rfl (Or.inl rfl)) zbq))))
   (zae (zg5 (zav zb9 (pv 3) zaf) (ztn (pv 0) zaf zoe))
   (zae (za7 (zap zoa (pv 3) (za3 (zer (K:=K)) rfl T.m_len PySem.boot_len (zaa (pv 2) zac)) (zau _)) (zai (zaw (zav zf1 (zax (ixL (K:=K)) (pv 2) (pv 3) (fun _ _=>rfl)) (pv 1)))) za1)
   (zae (zar (i:=4) sc_law_take.nd rfl (Or.inl rfl) (zav zb9 (zav zb9 (zav zel (zav zel (pv 3) (pv 3)) zaf) (zav zel zaf (pv 3))) zaf))
   (zae (za7 (zap zix (za3 (zer (K:=K)) rfl T.m_len PySem.boot_len (zaa (pv 2) zac)) zaf (zau _)) (zai (zar (i:=4) sc_law_take.nd rfl (Or.inl rfl) (zav zb9 (pv 4) (zav zel (zav zf1 (zax (ixL (K:=K)) (pv 2) (zav zf1 (zav zel (pv 3) zaf) (za3 (zer (K:=K)) rfl T.m_len PySem.boot_len (zaa (pv 2) zac))) (fun _ _=>rfl)) zaf) (zav zb9 (pv 3) zaf))))) za1)
   h5))))),?_⟩
 refine⟨_,rfl,pen,_,rfl,SqL.of hp,rfl,_,_,rfl,_,_,rfl,rfl,?_⟩
 refine⟨_,rfl,_,_,rfl,rfl,_,rfl,pen,_,_,_,rfl,rfl,hp,rfl,?_⟩
 have hS:=pn.scr _ (za2 (pen:=pen) (H:=H) (.lst [.ref sp,.int (k+1)]))
 refine⟨_,rfl,_,rfl,sp,_,rfl,.inl hS,_,_,rfl,rfl,_,rfl,?_⟩
 refine zcw (fun c=>?_) (fun c=>?_)
 ·have c':k<((ns.map V.int).length:Nat):=of_decide_eq_true c
  rw[el] at c'
  obtain⟨v,hv⟩:=ad k k0 c'
  exact⟨_,rfl,_,rfl,sp,_,_,_,rfl,rfl,hS,hv,_,rfl,_,_,rfl,rfl,m0,q _ (Int.emod_nonneg _ (by omega)) (Int.emod_lt_of_pos _ m0)⟩
 refine⟨_,rfl,_,rfl,_,_,rfl,rfl,(by unfold CMul;omega),_,_,rfl,rfl,.inr ⟨by decide,by decide⟩,_,rfl,_,_,rfl,rfl,.inl ⟨by decide,by decide⟩,_,_,rfl,rfl,_,_,rfl,rfl,?_⟩
 refine⟨_,rfl,sp,_,rfl,.inl hS,_,_,rfl,rfl,_,rfl,?_⟩
 refine zcw (fun c2=>?_) (fun c2=>?_)
 ·have ae:(0:Int)<((ns.map V.int).length:Nat):=of_decide_eq_true c2
  rw[el] at ae
  have af:0≤k*3%(ns.length:Int):=Int.emod_nonneg _ (by omega)
  have ag:k*3%(ns.length:Int)<ns.length:=Int.emod_lt_of_pos _ ae
  obtain⟨v,hv⟩:=ad _ af ag
  have v0:0≤v%2147483563:=Int.emod_nonneg _ (by decide)
  have v1:v%2147483563<2147483563:=Int.emod_lt_of_pos _ (by decide)
  refine⟨_,rfl,_,rfl,_,rfl,_,_,rfl,rfl,.inr ⟨by decide,by decide⟩,_,rfl,sp,_,rfl,.inl hS,_,_,rfl,rfl,(by rw[el];exact ae),sp,_,_,_,rfl,rfl,hS,(by rw[el];exact hv),?_⟩
  refine⟨_,_,rfl,rfl,(by show(0:Int)<2147483563;decide),_,rfl,_,_,rfl,rfl,_,_,rfl,rfl,.inl ⟨by omega,by omega⟩,_,_,rfl,rfl,?_⟩
  exact r5 _ _ _ _
 ·exact r5 _ _ _ _
theorem zlc(T:Txt K mg a d):FnOk P w K mg base CX0 2 a.f_law_boughs d.f_law_boughs ["_law_state", "_law_many"] (zsr K):=by
 have aa:=zdn (P:=P) (w:=w) (base:=base) T
 refine T.K_law_boughs.ok sc_law_boughs (fun vs H Q E h=>?_) (fun cdv A outer s H vs Q E hr h=>?_)
 ·obtain⟨pen,sp,ns,m,k,rfl,_⟩:=h
  rfl
 obtain⟨pen,sp,ns,m,k,rfl,pn,k0,k1,m1,m9,q⟩:=h
 have aL:(2:Int)^62=4611686018427387904:=by decide
 have aJ:∃t,PSs (zd2 CX0 P w K mg base ["_law_state", "_law_many", "_law_groups", "_law_k", "_law_up", "_law_old", "_law_boughs_here", "_law_kids", "_law_size", "_law_low", "_law_high"] "_law_boughs" (zah zcl) a.f_law_boughs cdv A outer s H E).nox ((zqz (zba zcl) 3).drop 3) t∧∀(D:zii)(g bl l:Addr)(u lo hi:Int)(ag:List Int)(v3 v5 v8:Option V)(xs:List V)(H5:Hp),H5 l=some (.lst (ag.map V.int))→H5 bl=some (.lst xs)→xs.length≤100 →
   (∀(v:V)(H6:Hp),Same H5 H6→Dn H6 (zrt u lo hi ag) v→D.nx [some (.ref pen),some (.int (m:Int)),some (.ref g),v3,some (.int u),v5,some (.ref bl),some (.ref l),v8,some (.int lo),some (.int hi)] (L2.upd H6 bl (.lst (xs++[v])))) →
   t D [some (.ref pen),some (.int (m:Int)),some (.ref g),v3,some (.int u),v5,some (.ref bl),some (.ref l),v8,some (.int lo),some (.int hi)] H5:=by
  refine⟨_,(zai (zca (zes (K:=K) PySem.F.plainAttrs_list PySem.F.slot_list_append PySem.F.type_list_append zcz (pv 6) (zaa (zbc (zaa (pv 4) (zaa (pv 9) (zaa (pv 10) (zaa (zbt zcq rfl T.m_tuple PyProof.Rows.boot_tuple (zaa (pv 7) zac)) zac))))) zac)))),?_⟩
  intro D g bl l u lo hi ag v3 v5 v8 xs H5 hl aj few nx
  refine⟨_,rfl,.inl ⟨rfl,_,SqL.of aj⟩,_,rfl,_,rfl,_,rfl,_,rfl,l,_,rfl,.inl ⟨SqL.of hl,fun tk bK=>?_⟩⟩
  refine⟨zaq (by show 4≤1000;decide),fun tb bP=>?_⟩
  have s1:=zad bK (.tup (ag.map V.int))
  have s2:=zad bP (.tup [.int u,.int lo,.int hi,.ref tk])
  have bw:=s1.trans s2
  refine⟨bl,_,_,rfl,rfl,bw _ _ aj,zbi (by omega),?_⟩
  exact nx _ _ bw ⟨tb,_,rfl,zab,_,_,rfl,rfl,_,_,rfl,rfl,_,_,rfl,rfl,_,_,rfl,⟨tk,_,rfl,s2 _ _ zab,zpc ag⟩,rfl⟩
 obtain⟨tA,hA,rA⟩:=aJ
 refine⟨_,(zae (zar (i:=2) sc_law_boughs.nd rfl (Or.inl rfl) (zbb zac))
   (zae (zb6 PassesOwn.never rfl (zl0 rfl T.m_range (zaa zaf (zaa (pv 1) zac))) (zan (i:=3) sc_law_boughs.nd rfl (Or.inl rfl)) (zae (zar (i:=4) sc_law_boughs.nd rfl (Or.inr rfl) (zav zel (zag aa hr.lv rfl T.K_law_take (zaa (pv 0) (zaa (pv 3) zac))) (zbt zs5 rfl T.m_int PyProof.Rows.boot_int (zaa (zbo zix (zag aa hr.lv rfl T.K_law_take (zaa (pv 0) (zaa zaf zac))) zaf (zau _)) zac))))
   (zae (zed (i:=5) sc_law_boughs.nd rfl rfl rfl (N':=["_law_group", "_law_up"]) (n:=1) (kp:=[4]) rfl (piL (K:=K) (pv 2)) rfl rfl rfl (fun _ _ _ _ _=>(zan (i:=0) (of_decide_eq_true rfl) rfl (Or.inl rfl))) (fun _ _ _ _ _=>(zbv (zap zb3 (zax (ixT (K:=K)) (pv 0) zaf (fun _ _=>rfl)) (pv 1) (zau _)))) (fun _ _ _ _ _=>(pv 0)))
   (zai (za7 (PW.pt (zh8 (zap (zdd hr.units) (pv 5) (zbb zac) (zau _)) (zh5 (zap zix (zag aa hr.lv rfl T.K_law_take (zaa (pv 0) (zaa zaf zac))) zaf (zau _))))) (zai (zca (zes (K:=K) PySem.F.plainAttrs_list PySem.F.slot_list_append PySem.F.type_list_append zcz (zax (ixT (K:=K)) (zax (ixL (K:=K)) (pv 5) (zoy zkm zaf) (fun _ _=>rfl)) zaf (fun _ _=>rfl)) (zaa (pv 3) zac)))) (zai (zca (zes (K:=K) PySem.F.plainAttrs_list PySem.F.slot_list_insert PySem.F.type_list_insert zsk (pv 2) (zaa (zag aa hr.lv rfl T.K_law_take (zaa (pv 0) (zaa (zav zb9 (za3 (zer (K:=K)) rfl T.m_len PySem.boot_len (zaa (pv 2) zac)) zaf) zac))) (zaa (zbc (zaa (pv 4) (zaa (zbb (zaa (pv 3) zac)) zac))) zac))))))))))
   (zae (zar (i:=6) sc_law_boughs.nd rfl (Or.inl rfl) (zbb zac))
   (zae (zb6 PassesOwn.never rfl (piL (K:=K) (pv 2)) (pgT (K:=K) (n:=2) rfl (za0 (zan (i:=4) sc_law_boughs.nd rfl (Or.inr rfl)) (za0 (zan (i:=7) sc_law_boughs.nd rfl (Or.inl rfl)) zbq))) (zae (zar (i:=8) sc_law_boughs.nd rfl (Or.inl rfl) (za3 (zer (K:=K)) rfl T.m_len PySem.boot_len (zaa (pv 7) zac)))
   (zae (zg5 (zax (ixL (K:=K)) (zbb (zaa (zbc (zaa (pv 8) (zaa (pv 8) zac))) (zaa (zbc (zaa zaf (zaa (pv 8) zac))) (zaa (zbc (zaa zaf (zaa zaf zac))) (zaa (zbc (zaa zaf (zaa zaf zac))) zac))))) (zag aa hr.lv rfl T.K_law_take (zaa (pv 0) (zaa zaf zac))) (fun _ _=>rfl)) (pgT (K:=K) (n:=2) rfl (za0 (zan (i:=9) sc_law_boughs.nd rfl (Or.inl rfl)) (za0 (zan (i:=10) sc_law_boughs.nd rfl (Or.inl rfl)) zbq))))
   (zae (za7 (zap zb3 (zag aa hr.lv rfl T.K_law_take (zaa (pv 0) (zaa zaf zac))) zaf (zau _)) (zae (zar (i:=9) sc_law_boughs.nd rfl (Or.inl rfl) (zag aa hr.lv rfl T.K_law_take (zaa (pv 0) (zaa (zav zb9 (pv 8) zaf) zac))))
   (zai (zar (i:=10) sc_law_boughs.nd rfl (Or.inl rfl) (za3 (ziq rfl) rfl T.m_max PyProof.Rows.boot_max (zaa zaf (zaa (zav zb9 (pv 9) (zag aa hr.lv rfl T.K_law_take (zaa (pv 0) (zaa (zav zb9 (zav zgk (pv 8) (pv 9)) zaf) zac)))) zac)))))) za1)
   hA))))
   (zai (zaw (pv 6))))))),?_⟩
 refine⟨zaq (by decide),fun g hg=>?_⟩
 have bb:pen≠g:=zat pn.at_ hg
 refine⟨_,rfl,_,_,rfl,⟨by rw[aL];omega,by rw[aL];omega,by rw[aL];omega,by rw[aL];omega⟩,?_⟩
 obtain⟨Pv,aH⟩:∃Pv:Nat→St→Hp→Prop,∀i σ H2,Pv i σ H2↔(∃(v3 v4 v5:Option V)(gs:List Grp)(kk:Int),σ=[some (.ref pen),some (.int (m:Int)),some (.ref g),v3,v4,v5,none,none,none,none,none]∧SameX pen H H2∧H2 pen=some (.lst [.ref sp,.int kk])∧k≤kk∧kk≤k+4*i∧GAt H H2 g gs∧GOk ((i:Int)+1) gs):=⟨_,fun _ _ _=>Iff.rfl⟩
 refine zin (lo:=1) (n:=((m:Int)-1).toNat) Pv ((aH _ _ _).mpr ⟨none,none,none,[],k,rfl,Same.x (zad hg _),(zad hg _) _ _ pn.at_,Int.le_refl _,by omega,⟨zab,hg,(fun _ z=>nomatch z),(fun _ z=>nomatch z),List.nodup_nil⟩,⟨(fun _ z=>nomatch z),List.Perm.refl _⟩⟩) ?_ ?_
 ·rintro i σ H2 hi ar
  obtain⟨v3,v4,v5,gs,kk,rfl,sx,aq,bF,bC,GA,GK⟩:=(aH _ _ _).mp ar
  have few:=GK.few
  have i9:(i:Int)<9:=by omega
  have el:∀l:List Grp,(l.map fun x=>V.ref x.t).length=l.length:=fun l=>List.length_map _
  have e1:1+(i:Int)=(i:Int)+1:=by omega
  have e2:((i+1:Nat):Int)+1=(i:Int)+2:=by omega
  refine⟨_,rfl,_,rfl,pen,sp,ns,_,kk,rfl,pn.to sx aq,by omega,by omega,by omega,fun c c0 c1=>?_⟩
  have af:=sx.trans (za2 (pen:=pen) (H:=H2) (.lst [.ref sp,.int (kk+1)]))
  have bQ:=GA.pen (ys:=[.ref sp,.int (kk+1)]) ⟨_,pn.at_⟩ aq
  refine⟨_,rfl,pen,sp,ns,3,kk+1,rfl,pn.to af zab,by omega,by omega,by decide,fun d d0 d1=>?_⟩
  have bv:=af.trans (za2 (pen:=pen) (.lst [.ref sp,.int (kk+1+1)]))
  have aE:=bQ.pen (ys:=[.ref sp,.int (kk+1+1)]) ⟨_,pn.at_⟩ zab
  have aZ:L2.upd (L2.upd H2 pen (.lst [.ref sp,.int (kk+1)])) pen (.lst [.ref sp,.int (kk+1+1)]) pen=some (.lst [.ref sp,.int (kk+1+1)]):=zab
  generalize L2.upd (L2.upd H2 pen (.lst [.ref sp,.int (kk+1)])) pen (.lst [.ref sp,.int (kk+1+1)])=H4 at bv aE aZ ⊢
  refine⟨_,_,rfl,rfl,.inr ⟨_,rfl,?_⟩⟩
  refine⟨_,_,rfl,rfl,.inl ⟨by omega,by omega⟩,?_⟩
  obtain⟨u,hu,u0,u1⟩:∃u:Int,c*(if decide (d>0)=true then 1 else 0)=u∧0≤u∧u<(i:Int)+1:=by
   refine⟨_,rfl,?_,?_⟩<;>split<;>omega
  dsimp only
  rw[hu]
  refine⟨_,rfl,g,rfl,⟨_,SqL.of aE.at_⟩,?_⟩
  refine zbx (K:=K) (a:=g) (xs:=gs.map fun x=>V.ref x.t) (fun j ys σ H5=>(∃v,σ=[v,some (.int u)])∧H5=H4∧ys=((gs.take j).filter fun x=>decide (x.up=u)).map fun x=>V.ref x.t) ⟨⟨none,rfl⟩,rfl,rfl⟩ (fun j ys σ H5 hj pv=>?_) (fun j ys σ H5 hj pv=>?_) (fun j x ys σ H5 hx pv=>?_) (fun ys σ H5 pv ol bf=>?_)
  ·obtain⟨_,_,rfl⟩:=pv
   rw[el]
   have:=List.length_filter_le (fun x:Grp=>decide (x.up=u)) (gs.take j)
   rw[List.length_take] at this
   exact zaq (by omega)
  ·rw[pv.2.1]
   exact SqL.of aE.at_
  ·obtain⟨⟨v,rfl⟩,rfl,rfl⟩:=pv
   rw[List.getElem?_map] at hx
   obtain⟨y,hy,rfl⟩:=Option.map_eq_some_iff.mp hx
   have et:gs.take (j+1)=gs.take j++[y]:=by rw[List.take_add_one,hy,Option.toList_some]
   refine⟨_,rfl,y.t,_,_,_,rfl,rfl,sqT (aE.tup y (List.mem_of_getElem? hy)),at0,_,rfl,rfl,_,rfl,?_⟩
   by_cases cc:y.up=u
   ·refine zgw (by rw[cc]) ?_
    refine⟨_,rfl,⟨_,rfl⟩,rfl,?_⟩
    rw[et,List.filter_append,List.filter_cons_of_pos (by simpa using cc),List.map_append]
    rfl
   ·refine zb0 (fun z=>cc (by injection z)) ?_
    refine⟨⟨_,rfl⟩,rfl,?_⟩
    rw[et,List.filter_append,List.filter_cons_of_neg (by simpa using cc),List.filter_nil,List.append_nil]
  obtain⟨_,rfl,rfl⟩:=pv
  have bY:ol≠pen:=Ne.symm (zat aZ bf)
  rw[el,List.take_length] at *
  generalize aF:gs.filter (fun x=>decide (x.up=u))=ad at *
  have aA:∀x∈ad,x∈gs:=fun x hx=>by rw[←aF] at hx;exact(List.mem_filter.mp hx).1
  have s6:=zad bf (.lst (ad.map fun x=>V.ref x.t))
  have bx:=aE.same s6
  have bh:=s6 _ _ aZ
  have bj:=bv.trans (Same.x s6)
  have aK:L2.upd H5 ol (.lst (ad.map fun x=>V.ref x.t)) ol=some (.lst (ad.map fun x=>V.ref x.t)):=zab
  generalize L2.upd H5 ol (.lst (ad.map fun x=>V.ref x.t))=H6 at s6 bx bh bj aK ⊢
  refine⟨_,rfl,zaq (by decide),fun aM ba=>?_⟩
  have s7:=zad ba (.lst [])
  have aw:=bx.same s7
  have aB:=s7 _ _ bh
  have aG:=bj.trans (Same.x s7)
  have av:=s7 _ _ aK
  have ao:L2.upd H6 aM (.lst []) aM=some (.lst []):=zab
  generalize L2.upd H6 aM (.lst [])=H7 at s7 aw aB aG av ao ⊢
  refine⟨.list (ad.map zqq),.list [],⟨ol,_,rfl,av,zrk aw ad aA⟩,⟨aM,_,rfl,ao,rfl⟩,zo1 ad,zdf,_,rfl,?_⟩
  rw[zvd]
  have new:∀(k3:Int)(H8:Hp)(v5:Option V),k≤k3→k3≤k+4*i+4→SameX pen H H8→H8 pen=some (.lst [.ref sp,.int k3])→GAt H H8 g gs→∀(nl nt:Addr)(j:Nat),H8 nl=none→L2.upd H8 nl (.lst [.int (1+(i:Int))]) nt=none→j≤gs.length →
    Pv (i+1) [some (.ref pen),some (.int (m:Int)),some (.ref g),some (.int (1+(i:Int))),some (.int u),v5,none,none,none,none,none] (L2.upd (L2.upd (L2.upd H8 nl (.lst [.int (1+(i:Int))])) nt (.tup [.int u,.ref nl])) g (.lst ((gs.map fun x=>V.ref x.t).take j++V.ref nt::(gs.map fun x=>V.ref x.t).drop j))):=by
   intro k3 H8 v5 bN cq ah ai ae nl nt j ak al hj
   have s9:=(zad ak (.lst [.int (1+(i:Int))])).trans (zad al (.tup [.int u,.ref nl]))
   rw[←List.map_take,←List.map_drop]
   refine(aH _ _ _).mpr ⟨_,_,_,gs.take j++⟨nt,u,nl,[1+(i:Int)]⟩::gs.drop j,k3,rfl,SameX.put (ah.trans (Same.x s9)) hg (Ne.symm bb) (s9 _ _ ae.at_),?_,bN,by push_cast;omega,?_,?_⟩
   ·rw[zal bb]
    exact s9 _ _ ai
   ·exact GAt.ins (pre:=gs.take j) (post:=gs.drop j) (by rw[List.take_append_drop];exact ae) (ah.free ⟨_,ai⟩ ak) ak al
   ·rw[e2,e1]
    exact GOk.ins (k:=i) (by rw[List.take_append_drop];exact GK) u0 u1
  by_cases c5:ad=[]
  ·refine zfr (by rw[c5];rfl) ?_
   refine zgb ?_
   refine⟨_,rfl,.inl ⟨rfl,_,SqL.of aw.at_⟩,_,rfl,_,rfl,g,_,rfl,.inl (SqL.of aw.at_),?_⟩
   refine⟨_,_,rfl,rfl,pen,sp,ns,_,kk+1+1,rfl,pn.to aG aB,by omega,by omega,(by rw[el];omega),fun j j0 j1=>?_⟩
   rw[el] at j1
   have ah:=aG.trans (za2 (pen:=pen) (.lst [.ref sp,.int (kk+1+1+1)]))
   have ae:=aw.pen (ys:=[.ref sp,.int (kk+1+1+1)]) ⟨_,pn.at_⟩ aB
   have ai:L2.upd H7 pen (.lst [.ref sp,.int (kk+1+1+1)]) pen=some (.lst [.ref sp,.int (kk+1+1+1)]):=zab
   generalize L2.upd H7 pen (.lst [.ref sp,.int (kk+1+1+1)])=H8 at ah ae ai ⊢
   refine⟨_,rfl,_,rfl,zaq (by show 1≤1000;decide),fun nl ak=>?_⟩
   refine⟨zaq (by show 2≤1000;decide),fun nt al=>?_⟩
   have s9:=(zad ak (.lst [.int (1+(i:Int))])).trans (zad al (.tup [.int u,.ref nl]))
   refine⟨g,_,_,_,rfl,rfl,s9 _ _ ae.at_,j0,(by rw[el];omega),(by rw[el];exact zbi (by omega)),?_⟩
   exact new (kk+1+1+1) H8 _ (by omega) (by omega) ah ai ae nl nt j.toNat ak al (by omega)
  ·refine zjw (fun z=>c5 (by cases ad with|nil=>rfl|cons x r=>cases z)) ?_
   refine⟨_,rfl,pen,sp,ns,3,kk+1+1,rfl,pn.to aG aB,by omega,by omega,by decide,fun e e0 cg=>?_⟩
   have ah:=aG.trans (za2 (pen:=pen) (.lst [.ref sp,.int (kk+1+1+1)]))
   have ae:=aw.pen (ys:=[.ref sp,.int (kk+1+1+1)]) ⟨_,pn.at_⟩ aB
   have ai:L2.upd H7 pen (.lst [.ref sp,.int (kk+1+1+1)]) pen=some (.lst [.ref sp,.int (kk+1+1+1)]):=zab
   have aI:L2.upd H7 pen (.lst [.ref sp,.int (kk+1+1+1)]) ol=some (.lst (ad.map fun x=>V.ref x.t)):=by rw[zal bY];exact av
   generalize L2.upd H7 pen (.lst [.ref sp,.int (kk+1+1+1)])=H8 at ah ae ai aI ⊢
   refine⟨_,_,rfl,rfl,_,rfl,?_⟩
   refine zcw (fun c6=>?_) (fun c6=>?_)
   ·have bX:0<ad.length:=List.length_pos_iff.mpr c5
    obtain⟨x,bt⟩:∃x,ad[ad.length-1]?=some x:=⟨_,List.getElem?_eq_getElem (by omega)⟩
    have hx:=aA x (List.mem_of_getElem? bt)
    have cm:ad.length≤gs.length:=by rw[←aF];exact List.length_filter_le _ _
    obtain⟨pre,post,aU⟩:=List.append_of_mem hx
    have ty:=ae.tup x hx
    have ly:=ae.lst x hx
    refine⟨_,rfl,_,rfl,ol,_,_,.ref x.t,rfl,rfl,SqL.of aI,?_,x.t,_,_,_,rfl,rfl,sqT ty,at1,.inl ⟨rfl,_,SqL.of ly.1⟩,_,rfl,x.l,_,_,rfl,rfl,ly.1,?_,?_⟩
    ·unfold atI ixN
     rw[el,if_neg (by omega),if_pos (by omega)]
     show(List.map _ ad)[((-1:Int)+(ad.length:Int)).toNat]?=_
     rw[show((-1:Int)+(ad.length:Int)).toNat=ad.length-1 by omega,List.getElem?_map,bt]
     rfl
    ·have h1:=GK.perm.length_eq
     rw[List.length_map,List.length_range',aU,List.flatMap_append,List.flatMap_cons,List.length_append,List.length_append] at h1
     rw[List.length_map]
     exact zbi (by omega)
    have G9:GAt H _ g _:=GAt.put (k:=1+(i:Int)) (pre:=pre) (post:=post) (x:=x) (by rw[←aU];exact ae)
    refine(aH _ _ _).mpr ⟨_,_,_,_,kk+1+1+1,rfl,SameX.put ah ly.2.1 (fun z=>by have:=pn.at_;rw[←z,ly.2.1] at this;cases this) ly.1,?_,by omega,by push_cast;omega,G9,?_⟩
    ·rw[zal (fun z=>by have:=pn.at_;rw[z,ly.2.1] at this;cases this)]
     exact ai
    ·rw[e2,e1]
     exact GOk.put (k:=i) (by rw[←aU];exact GK)
   ·refine⟨_,rfl,.inl ⟨rfl,_,SqL.of ae.at_⟩,_,rfl,_,rfl,g,_,rfl,.inl (SqL.of ae.at_),?_⟩
    refine⟨_,_,rfl,rfl,pen,sp,ns,_,kk+1+1+1,rfl,pn.to ah ai,by omega,by omega,(by rw[el];omega),fun j j0 j1=>?_⟩
    rw[el] at j1
    have bz:=ah.trans (za2 (pen:=pen) (.lst [.ref sp,.int (kk+1+1+1+1)]))
    have aS:=ae.pen (ys:=[.ref sp,.int (kk+1+1+1+1)]) ⟨_,pn.at_⟩ ai
    have bp:L2.upd H8 pen (.lst [.ref sp,.int (kk+1+1+1+1)]) pen=some (.lst [.ref sp,.int (kk+1+1+1+1)]):=zab
    generalize L2.upd H8 pen (.lst [.ref sp,.int (kk+1+1+1+1)])=H9 at bz aS bp ⊢
    refine⟨_,rfl,_,rfl,zaq (by show 1≤1000;decide),fun nl ak=>?_⟩
    refine⟨zaq (by show 2≤1000;decide),fun nt al=>?_⟩
    have bS:=(zad ak (.lst [.int (1+(i:Int))])).trans (zad al (.tup [.int u,.ref nl]))
    refine⟨g,_,_,_,rfl,rfl,bS _ _ aS.at_,j0,(by rw[el];omega),(by rw[el];exact zbi (by omega)),?_⟩
    exact new (kk+1+1+1+1) H9 _ (by omega) (by omega) bz bp aS nl nt j.toNat ak al (by omega)
 ·rintro σ H2 ar
  obtain⟨v3,v4,v5,gs,kk,rfl,sx,aq,bF,bC,GA,GK⟩:=(aH _ _ _).mp ar
  have em:(((m:Int)-1).toNat:Int)+1=(m:Int):=by omega
  rw[em] at GK
  have few:=GK.few
  have el:(gs.map fun x=>V.ref x.t).length=gs.length:=List.length_map _
  refine⟨zaq (by decide),fun bl aj=>?_⟩
  have bU:H bl=none:=sx.free ⟨_,aq⟩ aj
  have aO:bl≠pen:=fun z=>by rw[z,aq] at aj;cases aj
  have cp:g≠bl:=zat GA.at_ aj
  have s3:=zad aj (.lst [])
  refine⟨_,rfl,g,rfl,⟨_,SqL.of (s3 _ _ GA.at_)⟩,?_⟩
  obtain⟨Pw,aD⟩:∃Pw:Nat→St→Hp→Prop,∀j σ H3,Pw j σ H3↔(∃(v3 v4 v5 v7 v8 v9 aY:Option V)(kc:Int)(bs:List PyData)(xs:List V),σ=[some (.ref pen),some (.int (m:Int)),some (.ref g),v3,v4,v5,some (.ref bl),v7,v8,v9,aY]∧SameX pen H2 H3∧H3 pen=some (.lst [.ref sp,.int kc])∧kk≤kc∧kc≤kk+4*j∧H3 bl=some (.lst xs)∧DnL H3 bs xs∧bs.length=j∧(∀b∈bs,ze9 m b=true)∧bs.flatMap zkv=(gs.take j).flatMap (·.kids)∧bs.all (zbs 3)=true):=⟨_,fun _ _ _=>Iff.rfl⟩
  refine zce (K:=K) (a:=g) (xs:=gs.map fun x=>V.ref x.t) Pw ((aD _ _ _).mpr ⟨_,_,_,_,_,_,_,kk,[],[],rfl,Same.x s3,s3 _ _ aq,Int.le_refl _,by omega,zab,rfl,rfl,(fun _ z=>nomatch z),rfl,rfl⟩) (fun j σ H3 _ z=>?_) ?_ ?_
  ·obtain⟨_,_,_,_,_,_,_,_,_,_,_,af,_⟩:=(aD _ _ _).mp z
   exact SqL.of (af _ _ (Ne.symm bb) GA.at_)
  ·rintro j y σ H3 hy ar
   obtain⟨v3,v4,v5,v7,v8,v9,aY,kc,bs,xs,rfl,af,aN,bH,bq,aC,dn,ln,aW,ki,fl⟩:=(aD _ _ _).mp ar
   rw[List.getElem?_map] at hy
   obtain⟨x,aP,rfl⟩:=Option.map_eq_some_iff.mp hy
   have hm:=List.mem_of_getElem? aP
   have hj:j<gs.length:=(List.getElem?_eq_some_iff.mp aP).1
   have lx:=GA.lst x hm
   have aV:x.l≠pen:=fun z=>by have:=pn.at_;rw[←z,lx.2.1] at this;cases this
   have be:=af _ _ aV lx.1
   have gx:=GK.each x hm
   have bW:(x.kids.map V.int).length=x.kids.length:=List.length_map _
   have kp:=List.length_pos_iff.mpr gx.2.1
   have kl:x.kids.length≤9:=by
    have pk:=GK.perm.length_eq
    rw[List.length_map,List.length_range'] at pk
    obtain⟨l1,l2,e⟩:=List.append_of_mem hm
    rw[e,List.flatMap_append,List.flatMap_cons,List.length_append,List.length_append] at pk
    omega
   have cj:=dn.length
   refine⟨x.t,_,rfl,sqT ((SameX.tup aq af) _ _ (GA.tup x hm)),rfl,_,_,rfl,_,_,rfl,rfl,?_⟩
   refine⟨_,rfl,x.l,_,rfl,.inl (SqL.of be),?_⟩
   rw[bW]
   have done:∀(lo hi kd:Int)(H5:Hp)(w3 w5 w8:Option V),SameX pen H3 H5→H5 pen=some (.lst [.ref sp,.int kd])→kc≤kd→kd≤kc+4→H5 bl=some (.lst xs)→0≤lo→lo≤hi→1≤hi→hi≤x.kids.length→∀(v:V)(H6:Hp),Same H5 H6→Dn H6 (zrt x.up lo hi x.kids) v →
     Pw (j+1) [some (.ref pen),some (.int (m:Int)),some (.ref g),w3,some (.int x.up),w5,some (.ref bl),some (.ref x.l),w8,some (.int lo),some (.int hi)] (L2.upd H6 bl (.lst (xs++[v]))):=by
    intro lo hi kd H5 w3 w5 w8 bu bB ce cn bI l0 l1 h1 h2 v H6 s6 dv
    have ay:=s6 _ _ bI
    have fb:=zut x.up lo hi x.kids (by omega)
    have d6:=DnL.same s6 _ _ (DnL.tupS (SameX.tup aN bu) fl dn)
    refine(aD _ _ _).mpr ⟨_,_,_,_,_,_,_,kd,bs++[zrt x.up lo hi x.kids],xs++[v],rfl,SameX.put ((af.trans bu).trans (Same.x s6)) aj aO ay,?_,by omega,by push_cast;omega,zab,?_,?_,fun b b7=>?_,?_,?_⟩
    ·rw[zal (Ne.symm aO)]
     exact s6 _ _ bB
    ·exact(DnL.pen ay fl d6).append ⟨v,[],rfl,Dn.pen ay fb dv,rfl⟩
    ·rw[List.length_append,List.length_singleton,ln]
    ·rcases List.mem_append.mp b7 with z|z
     ·exact aW b z
     ·rw[List.mem_singleton.mp z]
      exact zxv gx.1 gx.2.1 gx.2.2 l0 l1 h1 h2
    ·rw[List.flatMap_append,ki,zm3 aP]
     simp[zu3]
    ·rw[List.all_append,fl]
     simp[fb]
   refine⟨_,rfl,_,rfl,zaq (by show 2≤1000;decide),fun t1 bV=>?_⟩
   refine⟨_,rfl,zaq (by show 2≤1000;decide),fun t2 bO=>?_⟩
   refine⟨zaq (by show 2≤1000;decide),fun t3 bM=>?_⟩
   refine⟨zaq (by show 2≤1000;decide),fun t4 bG=>?_⟩
   refine⟨zaq (by show 4≤1000;decide),fun tl cb=>?_⟩
   have q1:=zad bV (.tup [.int (x.kids.length:Nat),.int (x.kids.length:Nat)])
   have q2:=zad bO (.tup [.int 0,.int (x.kids.length:Nat)])
   have q3:=zad bM (.tup [.int 1,.int 1])
   have q4:=zad bG (.tup [.int 0,.int 1])
   have q5:=zad cb (.lst [.ref t1,.ref t2,.ref t3,.ref t4])
   have sA:=(((q1.trans q2).trans q3).trans q4).trans q5
   have e1:=q5 _ _ (q4 _ _ (q3 _ _ (q2 _ _ zab)))
   have e2:=q5 _ _ (q4 _ _ (q3 _ _ zab))
   have e3:=q5 _ _ (q4 _ _ zab)
   have e4:=q5 _ _ zab
   have e5:L2.upd (L2.upd (L2.upd (L2.upd (L2.upd H3 t1 (.tup [.int (x.kids.length:Nat),.int (x.kids.length:Nat)])) t2 (.tup [.int 0,.int (x.kids.length:Nat)])) t3 (.tup [.int 1,.int 1])) t4 (.tup [.int 0,.int 1])) tl (.lst [.ref t1,.ref t2,.ref t3,.ref t4]) tl=some (.lst [.ref t1,.ref t2,.ref t3,.ref t4]):=zab
   generalize L2.upd (L2.upd (L2.upd (L2.upd (L2.upd H3 t1 (.tup [.int (x.kids.length:Nat),.int (x.kids.length:Nat)])) t2 (.tup [.int 0,.int (x.kids.length:Nat)])) t3 (.tup [.int 1,.int 1])) t4 (.tup [.int 0,.int 1])) tl (.lst [.ref t1,.ref t2,.ref t3,.ref t4])=H4 at sA e1 e2 e3 e4 e5 ⊢
   have bA:=af.trans (Same.x (pen:=pen) sA)
   have aX:=sA _ _ aN
   have ck:=sA _ _ aC
   have bJ:=pn.to (sx.trans bA) aX
   refine⟨_,rfl,pen,sp,ns,4,kc,rfl,bJ,by omega,by omega,by decide,fun y y0 y1=>?_⟩
   have bT:tl≠pen:=fun z=>by rw[z,aX] at e5;cases e5
   obtain⟨tt,ap,am,bE,ht,g1,g2,g3,g4⟩:∃(tt:Addr)(ap am:Int),atI [V.ref t1,V.ref t2,V.ref t3,V.ref t4] y=some (.ref tt)∧H4 tt=some (.tup [.int ap,.int am])∧0≤ap∧ap≤am∧1≤am∧am≤x.kids.length:=by
    have e:y=0∨y=1∨y=2∨y=3:=by omega
    rcases e with e|e|e|e<;>rw[e]
    ·exact⟨t1,_,_,rfl,e1,by omega,by omega,by omega,by omega⟩
    ·exact⟨t2,_,_,rfl,e2,by omega,by omega,by omega,by omega⟩
    ·exact⟨t3,_,_,rfl,e3,by omega,by omega,by omega,by omega⟩
    ·exact⟨t4,_,_,rfl,e4,by omega,by omega,by omega,by omega⟩
   have aR:SameX pen H3 (L2.upd H4 pen (.lst [.ref sp,.int (kc+1)])):=(Same.x (pen:=pen) sA).trans (za2 _)
   have br:L2.upd H4 pen (.lst [.ref sp,.int (kc+1)]) tt=some (.tup [.int ap,.int am]):=by rw[zal (fun z=>by rw[z,aX] at ht;cases ht)];exact ht
   have bi:L2.upd H4 pen (.lst [.ref sp,.int (kc+1)]) pen=some (.lst [.ref sp,.int (kc+1)]):=zab
   refine⟨tl,_,_,_,rfl,rfl,SqL.of (by rw[zal bT];exact e5),bE,?_⟩
   generalize L2.upd H4 pen (.lst [.ref sp,.int (kc+1)])=H5 at aR br bi ⊢
   refine⟨tt,_,rfl,sqT br,rfl,_,_,rfl,_,_,rfl,rfl,?_⟩
   have bL:=pn.to ((sx.trans af).trans aR) bi
   refine⟨_,rfl,pen,sp,ns,3,kc+1,rfl,bL,by omega,by omega,by decide,fun z z0 z1=>?_⟩
   have ax:=aR.trans (za2 (pen:=pen) (.lst [.ref sp,.int (kc+1+1)]))
   have bd:L2.upd H5 pen (.lst [.ref sp,.int (kc+1+1)]) pen=some (.lst [.ref sp,.int (kc+1+1)]):=zab
   generalize L2.upd H5 pen (.lst [.ref sp,.int (kc+1+1)])=H6 at ax bd ⊢
   refine⟨rfl,_,rfl,?_⟩
   refine zcw (fun c=>?_) (fun c=>?_)
   ·have b9:=pn.to ((sx.trans af).trans ax) bd
    refine⟨_,rfl,_,rfl,_,_,rfl,rfl,pen,sp,ns,_,kc+1+1,rfl,b9,by omega,by omega,by omega,fun lo bZ bX=>?_⟩
    have aQ:=ax.trans (za2 (pen:=pen) (.lst [.ref sp,.int (kc+1+1+1)]))
    have bo:L2.upd H6 pen (.lst [.ref sp,.int (kc+1+1+1)]) pen=some (.lst [.ref sp,.int (kc+1+1+1)]):=zab
    generalize L2.upd H6 pen (.lst [.ref sp,.int (kc+1+1+1)])=H7 at aQ bo ⊢
    have bR:=pn.to ((sx.trans af).trans aQ) bo
    refine⟨_,rfl,_,rfl,_,rfl,_,rfl,_,_,rfl,rfl,_,_,rfl,rfl,pen,sp,ns,_,kc+1+1+1,rfl,bR,by omega,by omega,by omega,fun w w0 w1=>?_⟩
    have aT:=aQ.trans (za2 (pen:=pen) (.lst [.ref sp,.int (kc+1+1+1+1)]))
    refine⟨_,_,rfl,rfl,_,_,rfl,?_⟩
    have bg:=aT _ _ aO aC
    refine rA _ g bl x.l x.up lo _ x.kids _ _ _ xs _ (aT _ _ aV be) bg (by omega) (done lo _ (kc+1+1+1+1) _ _ _ _ aT zab (by omega) (by omega) bg bZ ?_ ?_ ?_)
    all_goals split<;>omega
   ·have ay:=ax _ _ aO aC
    exact rA _ g bl x.l x.up ap am x.kids _ _ _ xs _ (ax _ _ aV be) ay (by omega) (done ap am (kc+1+1) _ _ _ _ ax bd (by omega) (by omega) ay g1 g2 g3 g4)
  ·rintro σ H3 ar
   obtain⟨v3,v4,v5,v7,v8,v9,aY,kc,bs,xs,rfl,af,aN,bH,bq,aC,dn,ln,aW,ki,fl⟩:=(aD _ _ _).mp ar
   rw[el] at ln ki bq
   rw[List.take_length] at ki
   exact⟨_,rfl,q bl bs xs kc H3 (sx.trans af) aN (by omega) (by omega) aC bU dn ⟨aW,by rw[ki];exact GK.perm⟩ (by omega) fl⟩
theorem zno(T:Txt K mg a d):FnOk P w K mg base CX0 2 a.f_law_cross d.f_law_cross ["_law_state", "_law_many", "_law_most"] (zp7 K):=by
 have aa:=zdn (P:=P) (w:=w) (base:=base) T
 refine T.K_law_cross.ok sc_law_cross (fun vs H Q E h=>?_) (fun cdv A outer s H vs Q E hr h=>?_)
 ·obtain⟨pen,sp,ns,m,ad,k,rfl,_⟩:=h
  rfl
 obtain⟨pen,sp,ns,m,ad,k,rfl,pn,k0,k1,m1,m9,bZ,bU,q⟩:=h
 have aQ:(2:Int)^62=4611686018427387904:=by decide
 have aM:∃t,PSs (zd2 CX0 P w K mg base ["_law_state", "_law_many", "_law_most", "_law_cross_here", "_law_turn", "_law_one", "_law_other", "_law_way", "_law_far", "_law_pairs", "_law_total", "_law_top"] "_law_cross" (zah zbu) a.f_law_cross cdv A outer s H E).nox ((zwb (zba zbu) [(1,false),(3,true)]).drop 3) t∧∀(D:zii)(cl pl:Addr)(af kd:Int)(ps:List PyData)(xs zs:List V)(v4 v5 v6 v7 aj ak:Option V)(H5:Hp),Pen K H5 pen sp ns kd→0≤kd→kd≤950000→H5 pl=some (.lst xs)→zjl H5 m ps xs→0<ps.length→H5 cl=some (.lst zs)→zs.length≤100→cl≠pen→pl≠pen →
   (∀(v:V)(top:Int)(ae:Option V)(H6:Hp),SameX pen H5 H6→H6 pen=some (.lst [.ref sp,.int (kd+1+1)])→Dn H6 (.tuple [.str ("most" : Str),.int top,.tuple ps]) v→H6 cl=some (.lst zs)→D.nx [some (.ref pen),some (.int (m:Int)),some (.int ad),some (.ref cl),v4,v5,v6,v7,some (.int af),some (.ref pl),ae,some (.int top)] (L2.upd H6 cl (.lst (zs++[v])))) →
   t D [some (.ref pen),some (.int (m:Int)),some (.int ad),some (.ref cl),v4,v5,v6,v7,some (.int af),some (.ref pl),aj,ak] H5:=by
  refine⟨_,(zae (zar (i:=10) sc_law_cross.nd rfl (Or.inl rfl) (za3 (zen rfl) rfl T.m_sum PyProof.Rows.boot_sum (zaa (zdu (N':=["_law_c", "_law_number"]) (n:=2) (kp:=[]) rfl (piL (K:=K) (pv 9)) rfl rfl rfl (fun _ _ _ _ _=>(pgT (K:=K) (n:=2) rfl (za0 (zan (i:=0) (of_decide_eq_true rfl) rfl (Or.inl rfl)) (za0 (zan (i:=1) (of_decide_eq_true rfl) rfl (Or.inl rfl)) zbq)))) (fun _ _ _ _ _=>zgl) (fun _ _ _ _ _=>(za3 (ziq rfl) rfl T.m_max PyProof.Rows.boot_max (zaa zaf (zaa (pv 1) zac))))) zac)))
   (zae (zar (i:=11) sc_law_cross.nd rfl (Or.inl rfl) (zav zgk (zav zgk (zag aa hr.lv rfl T.K_law_take (zaa (pv 0) (zaa (zav zb9 (pv 10) zaf) zac))) zaf) (zav zel (pv 8) (zav zq7 (zag aa hr.lv rfl T.K_law_take (zaa (pv 0) (zaa zaf zac))) zaf))))
   (zai (zca (zes (K:=K) PySem.F.plainAttrs_list PySem.F.slot_list_append PySem.F.type_list_append zcz (pv 3) (zaa (zbc (zaa zdr (zaa (pv 11) (zaa (zbt zcq rfl T.m_tuple PyProof.Rows.boot_tuple (zaa (pv 9) zac)) zac)))) zac)))))),?_⟩
  intro D cl pl af kd ps xs zs v4 v5 v6 v7 aj ak H5 aD bg br ay pt p0 ax bb ag aT nx
  have few:=pt.few
  have lx:=pt.dn.length
  refine⟨_,rfl,pl,rfl,⟨_,SqL.of ay⟩,?_⟩
  refine zbx (K:=K) (a:=pl) (xs:=xs) (fun i ys σ H7=>(∃v v',σ=[v,v'])∧H7=H5∧∃nl:List Int,ys=nl.map V.int∧0≤nl.sum∧nl.length=i) ⟨⟨none,none,rfl⟩,rfl,[],rfl,Int.le_refl _,rfl⟩ (fun i ys σ H7 hi pv=>?_) (fun i ys σ H7 hi pv=>?_) (fun i x ys σ H7 hx pv=>?_) (fun ys σ H7 pv l hl=>?_)
  ·obtain⟨_,_,nl,rfl,_,h1⟩:=pv
   rw[List.length_map]
   exact zaq (by omega)
  ·rw[pv.2.1]
   exact SqL.of ay
  ·obtain⟨⟨v,v',rfl⟩,rfl,nl,rfl,h0,h1⟩:=pv
   obtain⟨dd,bB,bu⟩:=pt.dn.get hx
   have pk:=(List.all_eq_true.mp pt.ok) dd (List.mem_of_getElem? bB)
   obtain⟨r,xa,nb,rfl,bJ⟩:∃(r:Addr)(xa:V)(nb:Int),x=.ref r∧H7 r=some (.tup [xa,.int nb]):=by
    unfold zga at pk
    split at pk
    next dx dy=>
     obtain⟨iy,rfl⟩:=zm8 pk
     obtain⟨r,ys,rfl,bK,xa,r1,rfl,ha,xb,r2,rfl,hb,aZ⟩:=zhi bu
     cases(show r2=[] from aZ)
     cases zem hb
     exact⟨r,xa,iy,rfl,bK⟩
    next=>cases pk
   refine⟨r,_,rfl,sqT bJ,rfl,_,_,rfl,_,_,rfl,rfl,?_⟩
   refine⟨_,rfl,_,_,rfl,⟨_,_,rfl⟩,rfl,nl++[if nb>0 then nb else 0],?_,?_,?_⟩
   ·rw[List.map_append]
    rfl
   ·rw[List.sum_append]
    have:0≤(if nb>0 then nb else 0):=by split<;>omega
    simp only[List.sum_cons,List.sum_nil]
    omega
   ·rw[List.length_append,List.length_singleton,h1]
  obtain⟨_,rfl,nl,rfl,h0,_⟩:=pv
  have s7:=zad hl (.lst (nl.map V.int))
  have aU:=aD.to (Same.x s7) (s7 _ _ aD.at_)
  refine⟨l,nl,rfl,SqL.of zab,?_⟩
  have aG:=s7 _ _ ax
  have ah:=s7 _ _ ay
  have d7:=DnL.same s7 _ _ pt.dn
  have x7:SameX pen H7 _:=Same.x (pen:=pen) s7
  generalize L2.upd H7 l (.lst (nl.map V.int))=H8 at s7 aU aG ah d7 x7 ⊢
  refine⟨_,rfl,_,rfl,_,_,rfl,rfl,pen,sp,ns,_,kd,rfl,aU,by omega,by omega,by omega,fun x x0 x1=>?_⟩
  have x8:=x7.trans (za2 (pen:=pen) (.lst [.ref sp,.int (kd+1)]))
  have aF:L2.upd H8 pen (.lst [.ref sp,.int (kd+1)]) cl=some (.lst zs):=by rw[zal ag];exact aG
  have aC:L2.upd H8 pen (.lst [.ref sp,.int (kd+1)]) pl=some (.lst xs):=by rw[zal aT];exact ah
  have d8:=DnL.pen (ys:=[.ref sp,.int (kd+1)]) aU.at_ pt.flat d7
  have bd:=aU.to (za2 (pen:=pen) (H:=H8) (.lst [.ref sp,.int (kd+1)])) zab
  generalize L2.upd H8 pen (.lst [.ref sp,.int (kd+1)])=H9 at x8 aF aC d8 bd ⊢
  refine⟨_,_,rfl,rfl,_,rfl,_,rfl,pen,sp,ns,4,kd+1,rfl,bd,by omega,by omega,by decide,fun y y0 y1=>?_⟩
  have x9:=x8.trans (za2 (pen:=pen) (.lst [.ref sp,.int (kd+1+1)]))
  have am:L2.upd H9 pen (.lst [.ref sp,.int (kd+1+1)]) cl=some (.lst zs):=by rw[zal ag];exact aF
  have aA:L2.upd H9 pen (.lst [.ref sp,.int (kd+1+1)]) pl=some (.lst xs):=by rw[zal aT];exact aC
  have d9:=DnL.pen (ys:=[.ref sp,.int (kd+1+1)]) bd.at_ pt.flat d8
  have aw:L2.upd H9 pen (.lst [.ref sp,.int (kd+1+1)]) pen=some (.lst [.ref sp,.int (kd+1+1)]):=zab
  generalize L2.upd H9 pen (.lst [.ref sp,.int (kd+1+1)])=HA at x9 am aA d9 aw ⊢
  have y2:0≤y/3:=Int.ediv_nonneg y0 (by decide)
  have y3:y/3≤1:=by omega
  refine⟨_,_,rfl,rfl,⟨by decide,by decide⟩,_,_,rfl,rfl,.inr ⟨by omega,by omega⟩,_,_,rfl,rfl,?_⟩
  refine⟨_,rfl,.inl ⟨rfl,_,SqL.of am⟩,_,rfl,_,rfl,pl,_,rfl,.inl ⟨SqL.of aA,fun tk bA=>?_⟩⟩
  refine⟨zaq (by show 3≤1000;decide),fun tt bG=>?_⟩
  have sa:=zad bA (.tup xs)
  have sb:=zad bG (.tup [.str ("most" : Str),.int (x-1-af*(y/3)),.ref tk])
  have aK:=sa.trans sb
  refine⟨cl,_,_,rfl,rfl,aK _ _ am,zbi (by omega),?_⟩
  exact nx _ _ _ _ (x9.trans (Same.x aK)) (aK _ _ aw) ⟨tt,_,rfl,zab,_,_,rfl,rfl,_,_,rfl,rfl,_,_,rfl,⟨tk,_,rfl,sb _ _ zab,DnL.same aK _ _ d9⟩,rfl⟩ (aK _ _ am)
 obtain⟨tC,hC,rC⟩:=aM
 have aH:∃t,PSs (zd2 CX0 P w K mg base ["_law_state", "_law_many", "_law_most", "_law_cross_here", "_law_turn", "_law_one", "_law_other", "_law_way", "_law_far", "_law_pairs", "_law_total", "_law_top"] "_law_cross" (zah zbu) a.f_law_cross cdv A outer s H E).nox (zwb (zba zbu) [(1,false),(3,true)]) t∧∀(D:zii)(cl:Addr)(one kc:Int)(zs:List V)(v4 v6 v7 v8 v9 aj ak:Option V)(H4:Hp),Pen K H4 pen sp ns kc→0≤kc→kc≤940000→0≤one→one<m→H4 cl=some (.lst zs)→zs.length≤100→cl≠pen →
   (∀(v:V)(top:Int)(ps:List PyData)(w8 w9 ae ai:Option V)(kd:Int)(H6:Hp),SameX pen H4 H6→H6 pen=some (.lst [.ref sp,.int kd])→kc≤kd→kd≤kc+21→Dn H6 (.tuple [.str ("most" : Str),.int top,.tuple ps]) v→(ps.all zga=true∧ps.all (zbs 1)=true∧zbk (m:Int) (ps.map zqa) (-1)=true∧ps.length≤m∧0<ps.length)→H6 cl=some (.lst zs)→D.nx [some (.ref pen),some (.int (m:Int)),some (.int ad),some (.ref cl),v4,some (.int one),v6,v7,w8,w9,ae,ai] (L2.upd H6 cl (.lst (zs++[v])))) →
   t D [some (.ref pen),some (.int (m:Int)),some (.int ad),some (.ref cl),v4,some (.int one),v6,v7,v8,v9,aj,ak] H4:=by
  refine⟨_,(zae (zar (i:=8) sc_law_cross.nd rfl (Or.inr rfl) (zax (ixL (K:=K)) (zbb (zaa zaf (zaa (zav zxf zaf zaf) zac))) (zag aa hr.lv rfl T.K_law_take (zaa (pv 0) (zaa zaf zac))) (fun _ _=>rfl)))
   (zae (zed (i:=9) sc_law_cross.nd rfl rfl rfl (N':=["_law_c", "_law_state", "_law_far"]) (n:=1) (kp:=[0,8]) rfl (zdc rfl T.m_range (zaa (pv 1) zac)) rfl rfl rfl (fun _ _ _ _ _=>(zan (i:=0) (of_decide_eq_true rfl) rfl (Or.inl rfl))) (fun _ _ _ _ _=>(zbv (zap zix (zag aa hr.lv rfl T.K_law_take (zaa (pv 1) (zaa zaf zac))) zaf (zau _)))) (fun _ _ _ _ _=>(zbc (zaa (pv 0) (zaa (zav zgk (zag aa hr.lv rfl T.K_law_take (zaa (pv 1) (zaa (zav zel zaf (pv 2)) zac))) (zav zq7 (pv 2) zaf)) zac)))))
   (zae (za7 (zap (zrq hr.units) (pv 9) (zbb zac) (zau _)) (zai (zar (i:=9) sc_law_cross.nd rfl (Or.inl rfl) (zbb (zaa (zbc (zaa (pv 5) (zaa (pv 8) zac))) zac)))) za1)
   hC))),?_⟩
  intro D cl one kc zs v4 v6 v7 v8 v9 aj ak H4 ap bV bW o0 o1 aq bb ag nx
  refine⟨_,_,rfl,rfl,⟨by decide,by decide,by decide⟩,zaq (by show 2≤1000;decide),fun aP bj=>?_⟩
  have sf:=zad bj (.lst [.int 4,.int (10^(57:Int).toNat)])
  have xf:=Same.x (pen:=pen) sf
  have bF:aP≠pen:=Ne.symm (zat ap.at_ bj)
  refine⟨_,rfl,pen,sp,ns,2,kc,rfl,ap.to xf (sf _ _ ap.at_),by omega,by omega,by decide,fun y y0 y1=>?_⟩
  have xg:=xf.trans (za2 (pen:=pen) (.lst [.ref sp,.int (kc+1)]))
  obtain⟨af,aV,f0⟩:∃af:Int,atI [V.int 4,V.int (10^(57:Int).toNat)] y=some (.int af)∧0<af:=by
   have e:y=0∨y=1:=by omega
   rcases e with e|e<;>rw[e]
   ·exact⟨_,rfl,by decide⟩
   ·exact⟨_,rfl,by decide +kernel⟩
  refine⟨aP,_,_,_,rfl,rfl,SqL.of (by rw[zal bF];exact zab),aV,?_⟩
  have aY:L2.upd (L2.upd H4 aP (.lst [.int 4,.int (10^(57:Int).toNat)])) pen (.lst [.ref sp,.int (kc+1)]) pen=some (.lst [.ref sp,.int (kc+1)]):=zab
  generalize L2.upd (L2.upd H4 aP (.lst [.int 4,.int (10^(57:Int).toNat)])) pen (.lst [.ref sp,.int (kc+1)])=H5 at xg aY ⊢
  generalize bY:kc+1=kd at *
  have aD:=ap.to xg aY
  refine⟨_,rfl,_,rfl,by rw[aQ];omega,by rw[aQ];omega,?_⟩
  rw[Int.toNat_natCast]
  refine zh6 (k:=m) (fun j ys σ H6=>(∃v,σ=[v,some (.ref pen),some (.int af)])∧SameX pen H5 H6∧j≤m∧∃(kq:Int)(ps:List PyData),H6 pen=some (.lst [.ref sp,.int kq])∧kd≤kq∧kq≤kd+2*j∧zjl H6 j ps ys) ⟨⟨none,rfl⟩,SameX.refl _ _,Nat.zero_le _,kd,[],aY,Int.le_refl _,by omega,⟨rfl,rfl,rfl,rfl,Nat.le_refl _⟩⟩ (fun j ys σ H6 hj pv=>?_) (fun j ys σ H6 hj pv=>?_) (fun ys σ H6 pv pl ay=>?_)
  ·obtain⟨_,_,jm,kq,ps,_,_,_,pt⟩:=pv
   have:=pt.few
   have:=pt.dn.length
   exact zaq (by omega)
  ·obtain⟨⟨v,rfl⟩,ar,jm,kq,ps,al,bH,bN,pt⟩:=pv
   have few:=pt.few
   have bC:=aD.to ar al
   refine⟨_,rfl,pen,sp,ns,3,kq,rfl,bC,by omega,by omega,by decide,fun b b0 b1=>?_⟩
   have xh:=ar.trans (za2 (pen:=pen) (.lst [.ref sp,.int (kq+1)]))
   have d7:=DnL.pen (ys:=[.ref sp,.int (kq+1)]) al pt.flat pt.dn
   have ao:L2.upd H6 pen (.lst [.ref sp,.int (kq+1)]) pen=some (.lst [.ref sp,.int (kq+1)]):=zab
   generalize L2.upd H6 pen (.lst [.ref sp,.int (kq+1)])=H7 at xh d7 ao ⊢
   refine⟨_,_,rfl,rfl,_,rfl,?_⟩
   refine zcw (fun c=>?_) (fun c=>?_)
   ·refine⟨_,rfl,_,rfl,_,rfl,_,_,rfl,rfl,.inl ⟨by decide,by decide⟩,pen,sp,ns,_,kq+1,rfl,aD.to xh ao,by omega,by omega,by omega,fun e e0 e1=>?_⟩
    have xi:=xh.trans (za2 (pen:=pen) (.lst [.ref sp,.int (kq+1+1)]))
    have d8:=DnL.pen (ys:=[.ref sp,.int (kq+1+1)]) ao pt.flat d7
    have bp:L2.upd H7 pen (.lst [.ref sp,.int (kq+1+1)]) pen=some (.lst [.ref sp,.int (kq+1+1)]):=zab
    generalize L2.upd H7 pen (.lst [.ref sp,.int (kq+1+1)])=H8 at xi d8 bp ⊢
    refine⟨_,rfl,_,_,rfl,rfl,⟨by decide,by decide⟩,_,_,rfl,rfl,zaq (by show 2≤1000;decide),fun tp aJ=>?_⟩
    have s9:=zad aJ (.tup [.int (j:Int),.int (e-af/2)])
    refine⟨⟨_,rfl⟩,xi.trans (Same.x s9),hj,kq+1+1,ps++[.tuple [.int (j:Int),.int (e-af/2)]],s9 _ _ bp,by omega,by push_cast;omega,⟨?_,?_,?_,?_,?_⟩⟩
    ·exact(DnL.same s9 _ _ d8).append ⟨_,[],rfl,⟨tp,_,rfl,zab,_,_,rfl,rfl,_,_,rfl,rfl,rfl⟩,rfl⟩
    ·rw[List.all_append,pt.ok]
     rfl
    ·rw[List.all_append,pt.flat]
     rfl
    ·rw[List.map_append]
     show zbk ((j+1:Nat):Int) (ps.map zqa++[.int (j:Int)]) (-1)=true
     exact zf8 (by omega) pt.ris (by omega)
    ·rw[List.length_append,List.length_singleton]
     omega
   ·exact⟨⟨_,rfl⟩,xh,hj,kq+1,ps,ao,by omega,by push_cast;omega,⟨d7,pt.ok,pt.flat,zeg (by omega) pt.ris,by omega⟩⟩
  obtain⟨_,ar,_,kq,ps,al,bH,bN,pt⟩:=pv
  have few:=pt.few
  have bP:=pt.dn.length
  have s7:=zad ay (.lst ys)
  have x7:=xg.trans (ar.trans (Same.x s7))
  have ao:=s7 _ _ al
  have d7:=DnL.same s7 _ _ pt.dn
  have ah:L2.upd H6 pl (.lst ys) pl=some (.lst ys):=zab
  have aT:pl≠pen:=Ne.symm (zat al ay)
  generalize L2.upd H6 pl (.lst ys)=H7 at s7 x7 ao d7 ah ⊢
  refine⟨_,rfl,zaq (by decide),fun nl bO=>?_⟩
  have s8:=zad bO (.lst [])
  refine⟨pl,nl,ys,rfl,rfl,s8 _ _ ah,zab,_,rfl,?_⟩
  by_cases ye:ys=[]
  ·refine zgw ye ?_
   refine⟨_,rfl,_,rfl,zaq (by show 2≤1000;decide),fun tp aJ=>?_⟩
   have s9:=zad aJ (.tup [.int one,.int af])
   refine⟨zaq (by show 1≤1000;decide),fun bw aN=>?_⟩
   have bq:=zad aN (.lst [.ref tp])
   have sA:=(s8.trans s9).trans bq
   have xA:=x7.trans (Same.x (pen:=pen) sA)
   have aI:zjl _ m [.tuple [.int one,.int af]] [.ref tp]:=⟨⟨_,[],rfl,⟨tp,_,rfl,bq _ _ zab,_,_,rfl,rfl,_,_,rfl,rfl,rfl⟩,rfl⟩,rfl,rfl,by
    show(decide ((-1:Int)+1≤one)&&decide (one≤(m:Int)-1)&&true)=true
    rw[decide_eq_true (by omega),decide_eq_true (by omega)]
    rfl,by show 1≤m;omega⟩
   refine rC _ cl bw af kq _ _ zs _ _ _ _ _ _ _ (ap.to xA (sA _ _ ao)) (by omega) (by omega) zab aI (by show 0<1;decide) (xA _ _ ag aq) (by omega) ag (Ne.symm (zat ((s8.trans s9) _ _ ao) aN)) (fun v top ae H9 x9 aw dv aW=>?_)
   exact nx v top _ _ _ _ _ (kq+1+1) H9 (xA.trans x9) aw (by omega) (by omega) dv ⟨rfl,rfl,aI.ris,aI.few,by show 0<1;decide⟩ aW
  ·refine zb0 ye ?_
   have xA:=x7.trans (Same.x (pen:=pen) s8)
   have p0:0<ps.length:=by
    rw[bP]
    exact List.length_pos_iff.mpr ye
   have aI:zjl _ m ps ys:=⟨DnL.same s8 _ _ d7,pt.ok,pt.flat,pt.ris,pt.few⟩
   refine rC _ cl pl af kq _ _ zs _ _ _ _ _ _ _ (ap.to xA (s8 _ _ ao)) (by omega) (by omega) (s8 _ _ ah) aI p0 (xA _ _ ag aq) (by omega) ag aT (fun v top ae H9 x9 aw dv aW=>?_)
   exact nx v top _ _ _ _ _ (kq+1+1) H9 (xA.trans x9) aw (by omega) (by omega) dv ⟨pt.ok,pt.flat,pt.ris,pt.few,p0⟩ aW
 obtain⟨tE,hE,rE⟩:=aH
 refine⟨_,(zae (zar (i:=3) sc_law_cross.nd rfl (Or.inl rfl) (zbb zac))
   (zae (zb6 PassesOwn.never rfl (zdc rfl T.m_range (zaa (zag aa hr.lv rfl T.K_law_take (zaa (pv 0) (zaa (zav zb9 (pv 2) zaf) zac))) zac)) (zan (i:=4) sc_law_cross.nd rfl (Or.inl rfl)) (zae (zar (i:=5) sc_law_cross.nd rfl (Or.inl rfl) (zag aa hr.lv rfl T.K_law_take (zaa (pv 0) (zaa (pv 1) zac))))
   (zae (zar (i:=6) sc_law_cross.nd rfl (Or.inl rfl) (zav zf1 (zav zb9 (zav zb9 (pv 5) zaf) (zag aa hr.lv rfl T.K_law_take (zaa (pv 0) (zaa (za3 (ziq rfl) rfl T.m_max PyProof.Rows.boot_max (zaa zaf (zaa (zav zgk (pv 1) zaf) zac))) zac)))) (pv 1)))
   (zae (zar (i:=7) sc_law_cross.nd rfl (Or.inl rfl) (zag aa hr.lv rfl T.K_law_take (zaa (pv 0) (zaa zaf zac))))
   (zai (za7 (PW.pt (zh8 (zap zoa (pv 7) zaf (zau _)) (zh5 (zap zix (pv 1) zaf (zau _))))) (zai (zca (zes (K:=K) PySem.F.plainAttrs_list PySem.F.slot_list_append PySem.F.type_list_append zcz (pv 3) (zaa (zbc (zaa (zax (ixL (K:=K)) (zbb (zaa zdr (zaa zdr zac))) (pv 7) (fun _ _=>rfl)) (zaa (pv 5) (zaa (pv 6) zac)))) zac)))) hE))))))
   (zai (zaw (pv 3))))),?_⟩
 refine⟨zaq (by decide),fun cl ax=>?_⟩
 have ag:cl≠pen:=Ne.symm (zat pn.at_ ax)
 have s1:=zad ax (.lst [])
 have bi:=pn.to (Same.x s1) (s1 _ _ pn.at_)
 have aL:L2.upd H cl (.lst []) cl=some (.lst []):=zab
 have x1:SameX pen H _:=Same.x (pen:=pen) s1
 generalize L2.upd H cl (.lst [])=H1 at s1 bi aL x1 ⊢
 refine⟨_,rfl,_,rfl,_,_,rfl,rfl,pen,sp,ns,_,k,rfl,bi,by omega,by omega,by omega,fun n n0 n1=>?_⟩
 have x2:=x1.trans (za2 (pen:=pen) (.lst [.ref sp,.int (k+1)]))
 have aE:L2.upd H1 pen (.lst [.ref sp,.int (k+1)]) cl=some (.lst []):=by rw[zal ag];exact aL
 have bo:L2.upd H1 pen (.lst [.ref sp,.int (k+1)]) pen=some (.lst [.ref sp,.int (k+1)]):=zab
 generalize L2.upd H1 pen (.lst [.ref sp,.int (k+1)])=H2 at x2 aE bo ⊢
 refine⟨_,rfl,by rw[aQ];omega,by rw[aQ];omega,?_⟩
 refine zfk (n:=n.toNat) (fun i σ H3=>∃(v4 v5 v6 v7 v8 v9 aj ak:Option V)(kc:Int)(cs:List PyData)(zs:List V),σ=[some (.ref pen),some (.int (m:Int)),some (.int ad),some (.ref cl),v4,v5,v6,v7,v8,v9,aj,ak]∧SameX pen H H3∧H3 pen=some (.lst [.ref sp,.int kc])∧k≤kc∧kc≤k+1+26*i∧H3 cl=some (.lst zs)∧DnL H3 cs zs∧cs.length=i∧(∀c∈cs,zi3 m c=true)∧cs.all (zbs 3)=true)
  ⟨_,_,_,_,_,_,_,_,k+1,[],[],rfl,x2,bo,by omega,by omega,aE,rfl,rfl,(fun _ z=>nomatch z),rfl⟩ ?_ ?_
 ·rintro i σ H3 hi ⟨v4,v5,v6,v7,v8,v9,aj,ak,kc,cs,zs,rfl,sx,aS,bz,bE,be,dn,ln,ba,fl⟩
  have i8:i≤8:=by omega
  have lz:=dn.length
  have aO:=pn.to sx aS
  have done:∀(dd:PyData)(v:V)(kd:Int)(H6:Hp)(w4 w5 w6 w7 w8 w9 ae ai:Option V),SameX pen H3 H6→H6 pen=some (.lst [.ref sp,.int kd])→kc≤kd→kd≤kc+26→H6 cl=some (.lst zs)→Dn H6 dd v→zi3 m dd=true→zbs 3 dd=true →
    (∃(v4 v5 v6 v7 v8 v9 aj ak:Option V)(kc:Int)(cs:List PyData)(zs':List V),[some (.ref pen),some (.int (m:Int)),some (.int ad),some (.ref cl),w4,w5,w6,w7,w8,w9,ae,ai]=[some (.ref pen),some (.int (m:Int)),some (.int ad),some (.ref cl),v4,v5,v6,v7,v8,v9,aj,ak]∧SameX pen H (L2.upd H6 cl (.lst (zs++[v])))∧(L2.upd H6 cl (.lst (zs++[v]))) pen=some (.lst [.ref sp,.int kc])∧k≤kc∧kc≤k+1+26*((i+1:Nat):Int)∧(L2.upd H6 cl (.lst (zs++[v]))) cl=some (.lst zs')∧DnL (L2.upd H6 cl (.lst (zs++[v]))) cs zs'∧cs.length=i+1∧(∀c∈cs,zi3 m c=true)∧cs.all (zbs 3)=true):=by
   intro dd v kd H6 w4 w5 w6 w7 w8 w9 ae ai ar al bg br aB dv ti fd
   refine⟨_,_,_,_,_,_,_,_,kd,cs++[dd],zs++[v],rfl,SameX.put (sx.trans ar) ax ag aB,?_,by omega,by push_cast;omega,zab,?_,?_,fun c bR=>?_,?_⟩
   ·rw[zal (Ne.symm ag)]
    exact al
   ·exact(DnL.pen aB fl (DnL.tupS (SameX.tup aS ar) fl dn)).append ⟨v,[],rfl,Dn.pen aB fd dv,rfl⟩
   ·rw[List.length_append,List.length_singleton,ln]
   ·rcases List.mem_append.mp bR with z|z
    ·exact ba c z
    ·rw[List.mem_singleton.mp z]
     exact ti
   ·rw[List.all_append,fl]
    simp[fd]
  refine⟨_,rfl,_,rfl,pen,sp,ns,m,kc,rfl,aO,by omega,by omega,by omega,fun one o0 o1=>?_⟩
  have xa:=za2 (pen:=pen) (H:=H3) (.lst [.ref sp,.int (kc+1)])
  refine⟨_,rfl,_,_,rfl,rfl,_,rfl,_,rfl,_,_,rfl,rfl,_,_,rfl,pen,sp,ns,_,kc+1,rfl,aO.to xa zab,by omega,by omega,(by split<;>omega),fun x x0 x1=>?_⟩
  have xb:=xa.trans (za2 (pen:=pen) (.lst [.ref sp,.int (kc+1+1)]))
  refine⟨_,_,rfl,rfl,_,rfl,_,_,rfl,rfl,(by show(0:Int)<m;omega),?_⟩
  refine⟨_,rfl,pen,sp,ns,4,kc+1+1,rfl,aO.to xb zab,by omega,by omega,by decide,fun av w0 w1=>?_⟩
  have xc:=xb.trans (za2 (pen:=pen) (.lst [.ref sp,.int (kc+1+1+1)]))
  have bf:L2.upd (L2.upd (L2.upd H3 pen (.lst [.ref sp,.int (kc+1)])) pen (.lst [.ref sp,.int (kc+1+1)])) pen (.lst [.ref sp,.int (kc+1+1+1)]) pen=some (.lst [.ref sp,.int (kc+1+1+1)]):=zab
  generalize L2.upd (L2.upd (L2.upd H3 pen (.lst [.ref sp,.int (kc+1)])) pen (.lst [.ref sp,.int (kc+1+1)])) pen (.lst [.ref sp,.int (kc+1+1+1)])=H4 at xc bf ⊢
  have aq:=xc _ _ ag be
  have ap:=aO.to xc bf
  refine⟨_,rfl,_,_,rfl,rfl,_,rfl,?_⟩
  have aX:(av<2∧(1:Int)<m)∨¬(av<2∧(1:Int)<m):=Decidable.em _
  rcases aX with⟨c',bh⟩|nb
  ·refine zln (decide_eq_true c') ?_
   refine⟨_,rfl,_,_,rfl,rfl,_,rfl,?_⟩
   refine zln (decide_eq_true bh) ?_
   refine⟨_,rfl,.inl ⟨rfl,_,SqL.of aq⟩,zaq (by show 2≤1000;decide),fun lp bS=>?_⟩
   have sn:=zad bS (.lst [.str ("needs" : Str),.str ("bans" : Str)])
   obtain⟨sN,sk,bM,bt,aV⟩:∃sN:Str,(sN=("needs" : Str)∨sN=("bans" : Str))∧¬sN=("most" : Str)∧PyData.strOk sN=true∧atI ([.str ("needs" : Str),.str ("bans" : Str)]:List V) av=some (.str sN):=by
    have e:av=0∨av=1:=by omega
    rcases e with e|e<;>rw[e]
    ·exact⟨_,.inl rfl,by decide +kernel,zor,rfl⟩
    ·exact⟨_,.inr rfl,by decide +kernel,zp2,rfl⟩
   refine⟨_,rfl,lp,_,_,_,rfl,rfl,SqL.of zab,aV,_,rfl,_,rfl,zaq (by show 3≤1000;decide),fun tp aJ=>?_⟩
   have x2:x<(m:Int)-1:=by revert x1;split<;>omega
   obtain⟨bI,bT,bv⟩:=zva (many:=m) bh (by omega) o0 o1 x0 x2
   have st:=zad aJ (.tup [.str sN,.int one,.int ((one+1+x)%(m:Int))])
   have aR:=sn.trans st
   refine⟨cl,_,_,rfl,rfl,aR _ _ aq,zbi (by omega),?_⟩
   refine done (.tuple [.str sN,.int one,.int ((one+1+x)%(m:Int))]) _ (kc+1+1+1) _ _ _ _ _ _ _ _ _ (xc.trans (Same.x aR)) (aR _ _ bf) (by omega) (by omega) (aR _ _ aq) ⟨tp,_,rfl,zab,_,_,rfl,rfl,_,_,rfl,rfl,_,_,rfl,rfl,rfl⟩ ?_ ?_
   ·show zry m sN _ _=true
    unfold zry
    rw[if_neg bM,if_pos sk]
    show((decide ((0:Int)≤_)&&decide (_≤(m:Int)-1))&&((decide ((0:Int)≤_)&&decide (_≤(m:Int)-1))&&!decide (_=_)))=true
    rw[decide_eq_true o0,decide_eq_true (by omega),decide_eq_true bI,decide_eq_true (by omega),decide_eq_false bv]
    rfl
   ·show(true&&(zbs 2 (.str sN)&&(true&&(true&&true))))=true
    rw[show zbs 2 (.str sN)=true from bt]
    rfl
  ·have mk:∀(v:V)(top:Int)(ps:List PyData)(w6 w8 w9 ae ai:Option V)(kd:Int)(H6:Hp),SameX pen H4 H6→H6 pen=some (.lst [.ref sp,.int kd])→kc+1+1+1≤kd→kd≤kc+1+1+1+21→Dn H6 (.tuple [.str ("most" : Str),.int top,.tuple ps]) v→(ps.all zga=true∧ps.all (zbs 1)=true∧zbk (m:Int) (ps.map zqa) (-1)=true∧ps.length≤m∧0<ps.length)→H6 cl=some (.lst zs)→_:=fun v top ps w6 w8 w9 ae ai kd H6 x6 al bg br dv pp aB=>done (.tuple [.str ("most" : Str),.int top,.tuple ps]) v kd H6 (some (.int (i:Int))) (some (.int one)) w6 (some (.int av)) w8 w9 ae ai (xc.trans x6) al (by omega) (by omega) aB dv (by
     obtain⟨bx,_,bQ,_,p0⟩:=pp
     show zry m ("most" : Str) (.int top) (.tuple ps)=true
     unfold zry
     rw[if_pos rfl]
     show(true&&(decide (0<ps.length)&&ps.all zga&&zbk m (ps.map zqa) (-1)))=true
     rw[decide_eq_true p0,bx,bQ]
     rfl) (by
     obtain⟨_,bL,_,bX,_⟩:=pp
     have f2:zbs 2 (.tuple ps)=true:=by
      show(decide (ps.length≤1000)&&ps.all (zbs 1))=true
      rw[decide_eq_true (by omega),bL]
      rfl
     show(true&&(zbs 2 (.str ("most" : Str))&&(zbs 2 (.int top)&&(zbs 2 (.tuple ps)&&true))))=true
     rw[show zbs 2 (.str ("most" : Str))=true from zpu,f2]
     rfl)
   by_cases c:av<2
   ·refine zln (decide_eq_true c) ?_
    refine⟨_,rfl,_,_,rfl,rfl,_,rfl,?_⟩
    refine zhw (decide_eq_false fun z=>nb ⟨c,z⟩) ?_
    exact rE _ cl one (kc+1+1+1) zs _ _ _ _ _ _ _ H4 ap (by omega) (by omega) o0 o1 aq (by omega) ag fun v top ps w8 w9 ae ai=>mk v top ps _ w8 w9 ae ai
   ·refine zhw (decide_eq_false c) ?_
    refine zgb ?_
    exact rE _ cl one (kc+1+1+1) zs _ _ _ _ _ _ _ H4 ap (by omega) (by omega) o0 o1 aq (by omega) ag fun v top ps w8 w9 ae ai=>mk v top ps _ w8 w9 ae ai
 ·rintro σ H3 ⟨v4,v5,v6,v7,v8,v9,aj,ak,kc,cs,zs,rfl,sx,aS,bz,bE,be,dn,ln,ba,fl⟩
  exact⟨_,rfl,q cl cs zs kc H3 sx aS (by omega) (by omega) be ax dn ba (by omega) fl⟩
theorem zov(T:Txt K mg a d):FnOk P w K mg base CX0 3 a.f_law_wood d.f_law_wood ["_law_state", "_law_most"] (zvu K):=by
 have aa:=zdn (P:=P) (w:=w) (base:=base) T
 have ad:=zlc (P:=P) (w:=w) (base:=base) T
 have ae:=zno (P:=P) (w:=w) (base:=base) T
 refine T.K_law_wood.ok sc_law_wood (fun vs H Q E h=>?_) (fun cdv A outer s H vs Q E hr h=>?_)
 ·obtain⟨pen,sp,ns,af,k,rfl,_⟩:=h
  rfl
 obtain⟨pen,sp,ns,af,k,rfl,pn,k0,k1,aF,ay,q⟩:=h
 obtain⟨aE,ax,aC⟩:=zvv (X:=(zd2 CX0 P w K mg base ["_law_state", "_law_most", "_law_many"] "_law_wood" (zah zd9) a.f_law_wood cdv A outer s H E).nox) (st:=(zba zd9).drop 2) (zai (zaw (zbc (zaa (pv 2) (zaa (zbt zcq rfl T.m_tuple PyProof.Rows.boot_tuple (zaa (zag ad hr.lv rfl T.K_law_boughs (zaa (pv 0) (zaa (pv 2) zac))) zac)) (zaa (zbt zcq rfl T.m_tuple PyProof.Rows.boot_tuple (zaa (zag ae hr.lv rfl T.K_law_cross (zaa (pv 0) (zaa (pv 2) (zaa (pv 1) zac)))) zac)) zac))))))
 have tail:∀(m:Nat)(k1:Int)(H1:Hp),SameX pen H H1→H1 pen=some (.lst [.ref sp,.int k1])→k≤k1→k1≤k+3→1≤m→m≤9→aE { nx:=fun _ H'=>Q .non H',rt:=Q } [some (.ref pen),some (.int af),some (.int (m:Int))] H1:=by
  intro m k1 H1 am ap aM aH m1 m9
  refine aC _ _ _ ?_
  refine⟨_,rfl,_,rfl,_,rfl,pen,sp,ns,m,k1,rfl,pn.to am ap,by omega,by omega,m1,m9,fun l bs xs k2 H2 aA aD aL aI aw nl dn gb b8 fb=>?_⟩
  have lx:=dn.length
  refine⟨l,_,rfl,.inl ⟨SqL.of aw,fun t1 aB=>?_⟩⟩
  have s3:=zad aB (.tup xs)
  have ag:L2.upd H2 t1 (.tup xs) t1=some (.tup xs):=zab
  have ak:=s3 _ _ aD
  have aj:=(am.trans aA).trans (Same.x (pen:=pen) s3)
  have d3:=DnL.same s3 _ _ dn
  generalize L2.upd H2 t1 (.tup xs)=H3 at s3 ag ak aj d3 ⊢
  refine⟨_,rfl,_,rfl,_,rfl,pen,sp,ns,m,af,k2,rfl,pn.to aj ak,by omega,by omega,m1,m9,aF,ay,fun cl cs zs k4 H4 al ar aK aJ aG nc dc ao lc fc=>?_⟩
  refine⟨cl,_,rfl,.inl ⟨SqL.of aG,fun t2 av=>?_⟩⟩
  have s5:=zad av (.tup zs)
  refine⟨zaq (by show 3≤1000;decide),fun wd aq=>?_⟩
  have s6:=zad aq (.tup [.int (m:Int),.ref t1,.ref t2])
  have ah:=s5.trans s6
  have tS:=SameX.tup ak al
  refine q wd m bs cs k4 _ ((aj.trans al).trans (Same.x ah)) (ah _ _ ar) (by omega) (by omega) m1 m9 ⟨⟨xs,zs,⟨t1,t2,zab,ah _ _ (tS _ _ ag),s6 _ _ zab⟩,DnL.same ah _ _ (DnL.tupS tS fb d3),DnL.same ah _ _ dc⟩,gb,ao,by omega,by omega,fb,fc,m1,m9⟩ lc
 have ai:∀(H1:Hp)(k1:Int),SameX pen H H1→SameX pen H (L2.upd H1 pen (.lst [.ref sp,.int (k1+1)])):=fun H1 k1 sx=>sx.trans (za2 (pen:=pen) (.lst [.ref sp,.int (k1+1)]))
 refine⟨_,(zae (zar (i:=2) sc_law_wood.nd rfl (Or.inl rfl) (zav zb9 zaf (zag aa hr.lv rfl T.K_law_take (zaa (pv 0) (zaa zaf zac)))))
   (zae (za7 (zap zb3 (zag aa hr.lv rfl T.K_law_take (zaa (pv 0) (zaa zaf zac))) zaf (zau _)) (zai (zar (i:=2) sc_law_wood.nd rfl (Or.inl rfl) (zav zb9 zaf (zag aa hr.lv rfl T.K_law_take (zaa (pv 0) (zaa zaf zac)))))) za1)
   ax)),?_⟩
 refine⟨_,rfl,pen,sp,ns,6,k,rfl,pn,k0,by omega,by decide,fun c c0 c1=>?_⟩
 refine⟨_,_,rfl,rfl,?_⟩
 have x1:=ai H k (SameX.refl pen H)
 have h1:L2.upd H pen (.lst [.ref sp,.int (k+1)]) pen=some (.lst [.ref sp,.int (k+1)]):=zab
 generalize L2.upd H pen (.lst [.ref sp,.int (k+1)])=H1 at x1 h1 ⊢
 refine⟨_,rfl,pen,sp,ns,8,k+1,rfl,pn.to x1 h1,by omega,by omega,by decide,fun e e0 e1=>?_⟩
 have x2:=ai H1 (k+1) x1
 have h2:L2.upd H1 pen (.lst [.ref sp,.int (k+1+1)]) pen=some (.lst [.ref sp,.int (k+1+1)]):=zab
 generalize L2.upd H1 pen (.lst [.ref sp,.int (k+1+1)])=H2 at x2 h2 ⊢
 refine⟨rfl,_,rfl,?_⟩
 refine zcw (fun _=>?_) (fun _=>?_)
 ·refine⟨_,rfl,pen,sp,ns,3,k+1+1,rfl,pn.to x2 h2,by omega,by omega,by decide,fun g g0 g1=>?_⟩
  refine⟨_,_,rfl,rfl,?_⟩
  have x3:=ai H2 (k+1+1) x2
  have h3:L2.upd H2 pen (.lst [.ref sp,.int (k+1+1+1)]) pen=some (.lst [.ref sp,.int (k+1+1+1)]):=zab
  have t:=tail (7+g).toNat _ _ x3 h3 (by omega) (by omega) (by omega) (by omega)
  rw[show(((7+g).toNat:Nat):Int)=7+g by omega] at t
  exact t
 ·have t:=tail (1+c).toNat _ _ x2 h2 (by omega) (by omega) (by omega) (by omega)
  rw[show(((1+c).toNat:Nat):Int)=1+c by omega] at t
  exact t
theorem zml(T:Txt K mg a d):FnOk P w K mg base CX0 1 a.f_law_keeps d.f_law_keeps ["_law_tie", "_law_some"] zv9:=by
 refine T.K_law_keeps.ok sc_law_keeps (fun vs H Q E h=>?_) (fun cdv A outer s H vs Q E hr h=>?_)
 ·obtain⟨t,m,n,v,rfl,_⟩:=h
  rfl
 obtain⟨t,m,n,v,rfl,hd,ok,hm,q⟩:=h
 have q0:=q H (Same.refl H)
 refine⟨_,(zae (za7 (zap zb3 (zax (ixT (K:=K)) (pv 0) zaf (fun _ _=>rfl)) zdr (zau _)) (zai (zaw (zbo zl8 (zav zc6 (zav zet (pv 1) (zax (ixT (K:=K)) (pv 0) zaf (fun _ _=>rfl))) zaf) (zav zc6 (zav zet (pv 1) (zax (ixT (K:=K)) (pv 0) zaf (fun _ _=>rfl))) zaf) (zau _)))) za1)
   (zae (za7 (zap zb3 (zax (ixT (K:=K)) (pv 0) zaf (fun _ _=>rfl)) zdr (zau _)) (zai (zaw (zbo zb3 (zav zc6 (zav zc6 (zav zet (pv 1) (zax (ixT (K:=K)) (pv 0) zaf (fun _ _=>rfl))) (zav zet (pv 1) (zax (ixT (K:=K)) (pv 0) zaf (fun _ _=>rfl)))) zaf) zaf (zau _)))) za1)
   (zae (za7 (zap zb3 (zax (ixT (K:=K)) (pv 0) zaf (fun _ _=>rfl)) zdr (zau _)) (zai (zaw (zbo zl8 (za3 (zen rfl) rfl T.m_sum PyProof.Rows.boot_sum (zaa (zdu (N':=["_law_c", "_law_number", "_law_some"]) (n:=2) (kp:=[1]) rfl (piT (K:=K) (zax (ixT (K:=K)) (pv 0) zaf (fun _ _=>rfl))) rfl rfl rfl (fun _ _ _ _ _=>(pgT (K:=K) (n:=2) rfl (za0 (zan (i:=0) (of_decide_eq_true rfl) rfl (Or.inl rfl)) (za0 (zan (i:=1) (of_decide_eq_true rfl) rfl (Or.inl rfl)) zbq)))) (fun _ _ _ _ _=>(zbv (zap zb3 (zav zc6 (zav zet (pv 2) (pv 0)) zaf) zaf (zau _)))) (fun _ _ _ _ _=>(pv 1))) zac)) (zax (ixT (K:=K)) (pv 0) zaf (fun _ _=>rfl)) (zau _)))) za1)
   (zae (zg5 (pv 0) (pgT (K:=K) (n:=4) rfl (za0 (zan (i:=2) sc_law_keeps.nd rfl (Or.inl rfl)) (za0 (zan (i:=3) sc_law_keeps.nd rfl (Or.inl rfl)) (za0 (zan (i:=4) sc_law_keeps.nd rfl (Or.inl rfl)) (za0 (zan (i:=5) sc_law_keeps.nd rfl (Or.inl rfl)) zbq))))))
   (zae (zar (i:=6) sc_law_keeps.nd rfl (Or.inl rfl) (za3 (zer (K:=K)) rfl T.m_len PySem.boot_len (zaa (zdu (N':=["_law_k", "_law_some"]) (n:=1) (kp:=[1]) rfl (piT (K:=K) (pv 5)) rfl rfl rfl (fun _ _ _ _ _=>(zan (i:=0) (of_decide_eq_true rfl) rfl (Or.inl rfl))) (fun _ _ _ _ _=>(zbv (zap zb3 (zav zc6 (zav zet (pv 1) (pv 0)) zaf) zaf (zau _)))) (fun _ _ _ _ _=>(pv 0))) zac)))
   (zae (za7 (zap zb3 (zav zc6 (zav zet (pv 1) (pv 2)) zaf) zaf (zau _)) (zai (zaw (ztv zl8 zl8 (pv 3) (pv 6) (pv 4)))) za1)
   (zai (zaw (zbo zb3 (pv 6) zaf (zau _)))))))))),?_⟩
 cases t with
 |needs x y=>
  obtain⟨p,rfl,hp⟩:=zjd hd
  refine⟨_,rfl,p,_,_,_,rfl,rfl,sqT hp,at0,rfl,_,rfl,?_⟩
  refine zgw rfl ?_
  refine⟨_,rfl,_,rfl,p,_,_,_,rfl,rfl,sqT hp,at1,_,_,rfl,rfl,by omega,_,_,rfl,rfl,_,rfl,_,rfl,p,_,_,_,rfl,rfl,sqT hp,at2,_,_,rfl,rfl,by omega,_,_,rfl,rfl,_,_,rfl,rfl,?_⟩
  dsimp only
  rw[zjh,zjh,zwg]
  exact q0
 |bans x y=>
  obtain⟨p,rfl,hp⟩:=zjd hd
  refine⟨_,rfl,p,_,_,_,rfl,rfl,sqT hp,at0,rfl,_,rfl,?_⟩
  refine zb0 zjz ?_
  refine⟨_,rfl,p,_,_,_,rfl,rfl,sqT hp,at0,rfl,_,rfl,?_⟩
  refine zgw rfl ?_
  refine⟨_,rfl,_,rfl,p,_,_,_,rfl,rfl,sqT hp,at1,_,_,rfl,rfl,by omega,_,rfl,_,rfl,p,_,_,_,rfl,rfl,sqT hp,at2,_,_,rfl,rfl,by omega,_,_,rfl,rfl,_,_,rfl,rfl,rfl,?_⟩
  dsimp only
  rw[two_bits]
  exact q0
 |most top ps=>
  obtain⟨p,pq,xs,rfl,hp,hq,ae⟩:=zrg hd
  have lx:xs.length=ps.length:=by rw[←ae.length,List.length_map]
  have few:ps.length≤m:=ok.2.2.2
  refine⟨_,rfl,p,_,_,_,rfl,rfl,sqT hp,at0,rfl,_,rfl,?_⟩
  refine zb0 zkw ?_
  refine⟨_,rfl,p,_,_,_,rfl,rfl,sqT hp,at0,rfl,_,rfl,?_⟩
  refine zb0 zma ?_
  refine⟨_,rfl,p,_,_,_,rfl,rfl,sqT hp,at0,rfl,_,rfl,?_⟩
  refine zgw rfl ?_
  refine⟨_,rfl,p,_,_,_,rfl,rfl,sqT hp,at2,pq,rfl,⟨_,sqT hq⟩,?_⟩
  refine zm4 (K:=K) (a:=pq) (xs:=xs) (fun i ys σ H2=>(∃v v',σ=[v,v',some (.int n)])∧H2=H∧i≤ps.length∧ys=(((ps.take i).filter fun p=>n.testBit p.1).map (·.2)).map V.int) ⟨⟨none,none,rfl⟩,rfl,Nat.zero_le _,rfl⟩ (fun i ys σ H2 hi pv=>?_) (fun i ys σ H2 hi pv=>?_) (fun i x ys σ H2 hx pv=>?_) (fun ys σ H2 pv l hl=>?_)
  ·obtain⟨_,_,h1,rfl⟩:=pv
   rw[List.length_map,List.length_map]
   refine zaq (Nat.le_trans (List.length_filter_le _ _) ?_)
   rw[List.length_take]
   omega
  ·rw[pv.2.1]
   exact sqT hq
  ·obtain⟨⟨v,v',rfl⟩,rfl,h1,rfl⟩:=pv
   obtain⟨pr,r,ad,rfl,ag⟩:=zq0 ae hx
   have hj:i<ps.length:=(List.getElem?_eq_some_iff.mp ad).1
   have ee:=PySem.take_succ_filter (fun p:Nat×Int=>n.testBit p.1) ps i pr ad
   refine⟨r,_,rfl,sqT ag,rfl,_,_,rfl,_,_,rfl,rfl,?_⟩
   refine⟨_,rfl,_,rfl,_,_,rfl,rfl,by omega,_,_,rfl,rfl,rfl,_,rfl,?_⟩
   rw[zf6]
   refine zcw (fun c=>?_) (fun c=>?_)
   ·refine⟨_,rfl,⟨_,_,rfl⟩,rfl,hj,?_⟩
    rw[ee,if_pos c,List.map_append,List.map_append]
    rfl
   ·refine⟨⟨_,_,rfl⟩,rfl,hj,?_⟩
    rw[ee,if_neg c,List.append_nil]
  ·obtain⟨_,rfl,_,rfl⟩:=pv
   have sm:=zad hl (.lst ((((ps.take xs.length).filter fun p=>n.testBit p.1).map (·.2)).map V.int))
   refine⟨l,_,rfl,SqL.of zab,_,rfl,p,_,_,_,rfl,rfl,sqT (sm _ _ hp),at1,_,_,rfl,rfl,?_⟩
   have q1:=q _ sm
   have e:(Tie.most top ps).keep n=decide ((((ps.take xs.length).filter fun p=>n.testBit p.1).map (·.2)).sum≤top):=by
    rw[lx,List.take_length]
    rfl
   rw[e] at q1
   exact q1
 |bough u lo hi ks=>
  obtain⟨p,pk,rfl,hp,aa⟩:=zk5 hd
  have ah:Tie.BoughOkW m u lo hi ks:=ok
  have few:=ah.few
  refine⟨_,rfl,p,_,_,_,rfl,rfl,sqT hp,at0,rfl,_,rfl,?_⟩
  refine zb0 int_str ?_
  refine⟨_,rfl,p,_,_,_,rfl,rfl,sqT hp,at0,rfl,_,rfl,?_⟩
  refine zb0 int_str ?_
  refine⟨_,rfl,p,_,_,_,rfl,rfl,sqT hp,at0,rfl,_,rfl,?_⟩
  refine zb0 int_str ?_
  refine⟨_,rfl,p,_,rfl,sqT hp,rfl,_,_,rfl,_,_,rfl,_,_,rfl,_,_,rfl,rfl,?_⟩
  refine⟨_,rfl,pk,rfl,⟨_,sqT aa⟩,?_⟩
  refine zm4 (K:=K) (a:=pk) (xs:=zam ks) (fun i ys σ H2=>(∃v,σ=[v,some (.int n)])∧H2=H∧ys=zam ((ks.take i).filter fun k=>n.testBit k)) ⟨⟨none,rfl⟩,rfl,rfl⟩ (fun i ys σ H2 hi pv=>?_) (fun i ys σ H2 hi pv=>?_) (fun i x ys σ H2 hx pv=>?_) (fun ys σ H2 pv l hl=>?_)
  ·obtain⟨_,_,rfl⟩:=pv
   rw[List.length_map]
   refine zaq (Nat.le_trans (List.length_filter_le _ _) ?_)
   rw[List.length_take]
   omega
  ·rw[pv.2.1]
   exact sqT aa
  ·obtain⟨⟨v,rfl⟩,rfl,rfl⟩:=pv
   rw[List.getElem?_map] at hx
   obtain⟨k,af,rfl⟩:=Option.map_eq_some_iff.mp hx
   have et:ks.take (i+1)=ks.take i++[k]:=by rw[List.take_add_one,af,Option.toList_some]
   refine⟨_,rfl,_,rfl,_,_,rfl,rfl,by omega,_,_,rfl,rfl,rfl,_,rfl,?_⟩
   rw[zf6]
   refine zcw (fun c=>?_) (fun c=>?_)
   ·refine⟨_,rfl,⟨_,rfl⟩,rfl,?_⟩
    rw[et,List.filter_append,List.filter_cons_of_pos c]
    show _=List.map _ (_++_)
    rw[List.map_append]
    rfl
   ·refine⟨⟨_,rfl⟩,rfl,?_⟩
    rw[et,List.filter_append,List.filter_cons_of_neg c,List.filter_nil,List.append_nil]
  ·obtain⟨_,rfl,rfl⟩:=pv
   rw[List.length_map,List.take_length] at *
   have sm:=zad hl (.lst (zam (ks.filter fun k=>n.testBit k)))
   refine⟨l,_,rfl,.inl (SqL.of zab),?_⟩
   have ec:(((zam (ks.filter fun k=>n.testBit k)).length:Nat):Int)=(cnt ks n:Int):=by
    rw[List.length_map]
    rfl
   rw[ec]
   have q1:=q _ sm
   refine⟨_,rfl,_,rfl,_,_,rfl,rfl,by omega,_,_,rfl,rfl,rfl,_,rfl,?_⟩
   rw[zf6]
   refine zcw (fun c=>?_) (fun c=>?_)
   ·rw[zwh c] at q1
    refine⟨_,rfl,_,rfl,_,_,rfl,rfl,_,rfl,?_⟩
    refine zcw (fun c2=>?_) (fun c2=>?_)
    ·rw[c2,Bool.true_and] at q1
     exact⟨_,rfl,_,_,rfl,rfl,q1⟩
    ·rw[Bool.eq_false_iff.mpr c2,Bool.false_and] at q1
     exact q1
   ·rw[zvh c,←zh1] at q1
    exact⟨_,rfl,rfl,q1⟩
theorem zk9(T:Txt K mg a d):FnOk P w K mg base CX0 2 a.f_law_broken d.f_law_broken ["_law_wood_here"] zsj:=by
 have aa:=zml (P:=P) (w:=w) (base:=base) T
 refine T.K_law_broken.ok sc_law_broken (fun vs H Q E h=>?_) (fun cdv A outer s H vs Q E hr h=>?_)
 ·obtain⟨wd,m,ts,rfl,_⟩:=h
  rfl
 obtain⟨wd,m,ts,rfl,W,m9,tl,q⟩:=h
 obtain⟨xs,ys,⟨tb,tc,hw,hb,hc⟩,dn⟩:=W.ex
 have ag:(2:Int)^62=4611686018427387904:=by decide
 have pm:=zt8 m
 have aD:2^m≤512:=Nat.le_trans (Nat.pow_le_pow_right (by decide) m9) (by decide)
 have aA:xs.length+ys.length=ts.length:=by
  have:=dn.length
  rw[List.length_map,List.length_append] at this
  omega
 refine⟨_,(zae (zed (i:=1) sc_law_broken.nd rfl rfl rfl (N':=["_law_some"]) (n:=1) (kp:=[]) rfl (zdc rfl T.m_range (zaa (zav zio zaf (zax (ixT (K:=K)) (pv 0) zaf (fun _ _=>rfl))) zac)) rfl rfl rfl (fun _ _ _ _ _=>(zan (i:=0) (of_decide_eq_true rfl) rfl (Or.inl rfl))) (fun _ _ _ _ _=>zgl) (fun _ _ _ _ _=>zaf))
   (zae (zb6 PassesOwn.never rfl (zwa rfl T.m_enumerate (zaa (zav zdp (zbt zfm rfl T.m_list PyProof.Rows.boot_list (zaa (zax (ixT (K:=K)) (pv 0) zaf (fun _ _=>rfl)) zac)) (zbt zfm rfl T.m_list PyProof.Rows.boot_list (zaa (zax (ixT (K:=K)) (pv 0) zaf (fun _ _=>rfl)) zac))) zac)) (pgT (K:=K) (n:=2) rfl (za0 (zan (i:=2) sc_law_broken.nd rfl (Or.inl rfl)) (za0 (zan (i:=3) sc_law_broken.nd rfl (Or.inl rfl)) zbq))) (zai (zb6 PassesOwn.never rfl (zdc rfl T.m_range (zaa (zav zio zaf (zax (ixT (K:=K)) (pv 0) zaf (fun _ _=>rfl))) zac)) (zan (i:=4) sc_law_broken.nd rfl (Or.inl rfl)) (zai (za7 (zkl (zcv (zag aa hr.lv rfl T.K_law_keeps (zaa (pv 3) (zaa (pv 4) zac))))) (zai (zg5 (zav zob (zax (ixL (K:=K)) (pv 1) (pv 4) (fun _ _=>rfl)) (zav zio zaf (pv 2))) (ztn (pv 1) (pv 4) zoe))) za1)))))
   (zai (zaw (pv 1))))),?_⟩
 refine⟨_,rfl,wd,_,_,_,rfl,rfl,sqT hw,at0,_,_,rfl,rfl,⟨by omega,by omega,by decide⟩,_,rfl,by rw[zll,ag];omega,by rw[zll,ag];omega,?_⟩
 rw[zll,Int.toNat_natCast]
 refine zh6 (k:=2^m) (fun i zs σ H2=>(∃v,σ=[v])∧H2=H∧zs=zam ((List.range i).map fun s=>brk ts s 0)) ⟨⟨none,rfl⟩,rfl,rfl⟩ (fun i zs σ H2 hi pv=>?_) (fun i zs σ H2 hi pv=>?_) (fun zs σ H2 pv fl am=>?_)
 ·obtain⟨_,_,rfl⟩:=pv
  rw[List.length_map,List.length_map,List.length_range]
  exact zaq (by omega)
 ·obtain⟨⟨v,rfl⟩,rfl,rfl⟩:=pv
  refine⟨⟨_,rfl⟩,rfl,?_⟩
  rw[List.range_succ,List.map_append]
  show _=List.map _ (_++_)
  rw[List.map_append]
  rfl
 obtain⟨_,rfl,rfl⟩:=pv
 have s3:=zad am (.lst (zam ((List.range (2^m)).map fun s=>brk ts s 0)))
 have ae:L2.upd H2 fl (.lst (zam ((List.range (2^m)).map fun s=>brk ts s 0))) fl=some (.lst (zam ((List.range (2^m)).map fun s=>brk ts s 0))):=zab
 generalize L2.upd H2 fl (.lst (zam ((List.range (2^m)).map fun s=>brk ts s 0)))=H3 at s3 ae ⊢
 refine⟨_,rfl,wd,_,_,_,rfl,rfl,sqT (s3 _ _ hw),at1,tb,_,rfl,.inr (sqT (s3 _ _ hb)),fun l1 aB=>?_⟩
 have s4:=zad aB (.lst xs)
 refine⟨_,rfl,wd,_,_,_,rfl,rfl,sqT (s4 _ _ (s3 _ _ hw)),at2,tc,_,rfl,.inr (sqT (s4 _ _ (s3 _ _ hc))),fun l2 ay=>?_⟩
 have s5:=zad ay (.lst ys)
 refine⟨l1,l2,_,_,rfl,rfl,s5 _ _ zab,zab,zaq (by omega),fun l3 aq=>?_⟩
 have s6:=zad aq (.lst (xs++ys))
 have al:=(s4.trans s5).trans s6
 have ad:L2.upd (L2.upd (L2.upd H3 l1 (.lst xs)) l2 (.lst ys)) l3 (.lst (xs++ys)) l3=some (.lst (xs++ys)):=zab
 have n3:fl≠l3:=zat ((s4.trans s5) _ _ ae) aq
 generalize L2.upd (L2.upd (L2.upd H3 l1 (.lst xs)) l2 (.lst ys)) l3 (.lst (xs++ys))=H6 at al ad ⊢
 have ax:=s3.trans al
 have ak:=al _ _ ae
 have aC:∀i:Nat,(zam ((List.range (2^m)).map fun s=>brk ts s i)).length=2^m:=fun i=>by rw[List.length_map,List.length_map,List.length_range]
 refine⟨false,l3,rfl,⟨_,SqL.of ad⟩,?_⟩
 refine ztr (K:=K) (b:=false) (a:=l3) (xs:=xs++ys) (fun i σ H7=>∃(v2 v3 v4:Option V),σ=[some (.ref wd),some (.ref fl),v2,v3,v4]∧Same H2 H7∧H7 l3=some (.lst (xs++ys))∧H7 fl=some (.lst (zam ((List.range (2^m)).map fun s=>brk ts s i)))) ⟨_,_,_,rfl,ax,ad,ak⟩ (fun i σ H7 _ z=>?_) ?_ ?_
 ·obtain⟨_,_,_,_,_,h7,_⟩:=z
  exact SqL.of h7
 ·rintro i x σ H7 hx ⟨v2,v3,v4,rfl,s7,av,ai⟩ TT hT
  have il:i<ts.length:=by
   have:=(List.getElem?_eq_some_iff.mp hx).1
   rw[List.length_append] at this
   omega
  obtain⟨t,ht,hd⟩:=zxn dn hx
  have s8:=zad hT (.tup [.int (i:Int),x])
  refine⟨TT,_,rfl,sqT zab,rfl,_,_,rfl,_,_,rfl,rfl,?_⟩
  have ap:=s7.trans s8
  have ar:=s8 _ _ av
  have aw:=s8 _ _ ai
  generalize L2.upd H7 TT (.tup [.int (i:Int),x])=H8 at s8 ap ar aw ⊢
  refine⟨_,rfl,wd,_,_,_,rfl,rfl,sqT (ap _ _ hw),at0,_,_,rfl,rfl,⟨by omega,by omega,by decide⟩,_,rfl,by rw[zll,ag];omega,by rw[zll,ag];omega,?_⟩
  rw[zll,Int.toNat_natCast]
  refine zfk (n:=2^m) (fun j σ H9=>∃(v4:Option V),σ=[some (.ref wd),some (.ref fl),some (.int (i:Int)),some x,v4]∧Same H2 H9∧H9 l3=some (.lst (xs++ys))∧H9 fl=some (.lst (zam ((List.range (2^m)).map fun s=>if s<j then brk ts s (i+1) else brk ts s i)))) ⟨_,rfl,ap,ar,?_⟩ ?_ ?_
  ·rw[aw]
   simp
  ·rintro j σ H9 hj ⟨v4,rfl,s9,ah,ao⟩
   have af:(ts[i]?.map fun t=>t.keep j).getD true=t.keep j:=by rw[ht];rfl
   refine⟨_,rfl,_,rfl,t,m,j,x,rfl,Dn.same s9 _ _ hd,W.ok t (List.mem_of_getElem? ht),by omega,fun HA sA=>?_⟩
   refine⟨_,rfl,?_⟩
   have aj:=sA _ _ ao
   have same:∀g:Nat→Nat,(∀s,s<2^m→g s=if s<j+1 then brk ts s (i+1) else brk ts s i)→zam ((List.range (2^m)).map g)=zam ((List.range (2^m)).map fun s=>if s<j+1 then brk ts s (i+1) else brk ts s i):=fun g hg=>by
    congr 1
    exact List.map_congr_left fun s hs=>hg s (List.mem_range.mp hs)
   cases hk:t.keep j
   ·refine zkg ?_
    refine⟨_,rfl,_,rfl,fl,_,_,_,rfl,rfl,SqL.of aj,zq9 hj,_,rfl,_,_,rfl,rfl,⟨by omega,by omega,by decide⟩,_,_,rfl,rfl,?_⟩
    refine⟨_,rfl,_,rfl,fl,_,_,j,rfl,rfl,aj,?_,?_⟩
    ·unfold ixN
     rw[List.length_map,List.length_map,List.length_range,if_pos (by omega),if_pos (by omega),Int.toNat_natCast]
    ·have ev:Builtin.bitOr ((if j<j then brk ts j (i+1) else brk ts j i:Nat):Int) (1*(2:Int)^((i:Nat):Int).toNat)=((brk ts j (i+1):Nat):Int):=by
      rw[if_neg (Nat.lt_irrefl _),zll,zhr]
      show _=((brk ts j i|||_:Nat):Int)
      rw[af,hk,if_neg (by decide)]
     dsimp only
     rw[ev]
     have es:=zuy (m:=2^m) (k:=j) (f:=fun s=>if s<j then brk ts s (i+1) else brk ts s i) (g:=fun s=>if s<j+1 then brk ts s (i+1) else brk ts s i) (fun s=>by
      by_cases z:s=j
      ·rw[if_pos z,z]
      ·rw[if_neg z]
       by_cases z2:s<j
       ·rw[if_pos z2,if_pos (by omega)]
       ·rw[if_neg z2,if_neg (by omega)]) hj
     rw[if_pos (Nat.lt_succ_self j)] at es
     rw[es]
     have nl:l3≠fl:=Ne.symm n3
     refine⟨_,rfl,Same.put (s9.trans sA) am aj,?_,zab⟩
     rw[zal nl]
     exact sA _ _ ah
   ·refine zgb ?_
    refine⟨_,rfl,s9.trans sA,sA _ _ ah,?_⟩
    rw[aj]
    refine congrArg some (congrArg HO.lst (same _ fun s hs=>?_))
    by_cases z:s<j
    ·rw[if_pos z,if_pos (by omega)]
    ·rw[if_neg z]
     by_cases z2:s=j
     ·subst z2
      rw[if_pos (Nat.lt_succ_self _)]
      show _=brk ts s i|||_
      rw[af,hk,if_pos rfl,Nat.or_zero]
     ·rw[if_neg (by omega)]
  ·rintro σ H9 ⟨v4,rfl,s9,ah,ao⟩
   refine⟨_,_,_,rfl,s9,ah,?_⟩
   rw[ao]
   refine congrArg some (congrArg HO.lst ?_)
   congr 1
   exact List.map_congr_left fun s hs=>if_pos (List.mem_range.mp hs)
 ·rintro σ H7 ⟨v2,v3,v4,rfl,s7,av,ai⟩
  rw[List.length_append,aA] at ai
  exact⟨_,rfl,q fl _ s7 am ai⟩
theorem zhl(T:Txt K mg a d):FnOk P w K mg base CX0 2 a.f_law_stand d.f_law_stand ["_law_chosen"] zqc:=by
 refine T.K_law_stand.ok sc_law_stand (fun vs H Q E h=>?_) (fun cdv A outer s H vs Q E hr h=>?_)
 ·obtain⟨pl,ps,rfl,_⟩:=h
  rfl
 obtain⟨pl,ps,rfl,PA,q⟩:=h
 obtain⟨xs,aa,pk⟩:=PA.ex
 have lx:=pk.length
 refine⟨_,(zae (zar (i:=1) sc_law_stand.nd rfl (Or.inl rfl) zaf)
   (zae (zar (i:=2) sc_law_stand.nd rfl (Or.inl rfl) zaf)
   (zae (zb6 PassesOwn.never rfl (piL (K:=K) (pv 0)) (pgT (K:=K) (n:=2) rfl (za0 (zan (i:=3) sc_law_stand.nd rfl (Or.inl rfl)) (za0 (zan (i:=4) sc_law_stand.nd rfl (Or.inl rfl)) zbq))) (zai (za7 (zcv (pv 4)) (zai (zar (i:=1) sc_law_stand.nd rfl (Or.inl rfl) (zav zob (pv 1) (zav zio zaf (pv 3))))) (zai (zar (i:=2) sc_law_stand.nd rfl (Or.inl rfl) (zav zob (pv 2) (zav zio zaf (pv 3))))))))
   (zai (zaw (zbc (zaa (pv 1) (zaa (pv 2) zac)))))))),?_⟩
 refine⟨_,rfl,pl,rfl,⟨_,SqL.of aa⟩,?_⟩
 refine zce (K:=K) (a:=pl) (xs:=xs) (fun i σ H2=>(∃v3 v4:Option V,σ=[some (.ref pl),some (.int (zaj (ps.take i):Int)),some (.int (zao (ps.take i):Int)),v3,v4])∧H2=H) ⟨⟨none,none,rfl⟩,rfl⟩ (fun i σ H2 _ z=>by rw[z.2];exact SqL.of aa) ?_ ?_
 ·rintro i x σ H2 hx ⟨⟨v3,v4,rfl⟩,rfl⟩
  obtain⟨p,t,hp,rfl,ht⟩:=pk.get hx
  have et:ps.take (i+1)=ps.take i++[p]:=by rw[List.take_add_one,hp,Option.toList_some]
  have ad:=PA.le p (List.mem_of_getElem? hp)
  refine⟨t,_,rfl,sqT ht,rfl,_,_,rfl,_,_,rfl,rfl,?_⟩
  refine⟨_,rfl,_,rfl,?_⟩
  cases e:p.2
  ·refine zgb ?_
   refine⟨_,rfl,_,rfl,_,_,rfl,rfl,⟨by omega,by omega,by decide⟩,_,_,rfl,rfl,?_⟩
   refine⟨⟨some (.int (p.1:Int)),some (.bl false),?_⟩,rfl⟩
   rw[et,zf2,zhy,e,if_neg Bool.false_ne_true,if_neg Bool.false_ne_true,←zhr,←zll]
   rfl
  ·refine zkg ?_
   refine⟨_,rfl,_,rfl,_,_,rfl,rfl,⟨by omega,by omega,by decide⟩,_,_,rfl,rfl,?_⟩
   refine⟨⟨some (.int (p.1:Int)),some (.bl true),?_⟩,rfl⟩
   rw[et,zf2,zhy,e,if_pos rfl,if_pos rfl,←zhr,←zll]
   rfl
 ·rintro σ H2 ⟨⟨v3,v4,rfl⟩,rfl⟩
  rw[←lx,List.take_length]
  refine⟨_,rfl,_,rfl,zaq (by show 2≤1000;decide),fun t ht=>?_⟩
  exact q t _ (zad ht _) zab
theorem ziz(T:Txt K mg a d):FnOk P w K mg base CX0 4 a.f_law_sets d.f_law_sets ["_law_broken_here", "_law_ties", "_law_chosen"] zv1:=by
 have aa:=zhl (P:=P) (w:=w) (base:=base) T
 refine T.K_law_sets.ok sc_law_sets (fun vs H Q E h=>?_) (fun cdv A outer s H vs Q E hr h=>?_)
 ·obtain⟨bl,pl,B,ti,ps,rfl,_⟩:=h
  rfl
 obtain⟨bl,pl,B,ti,ps,rfl,hB,few,PA,q⟩:=h
 have ae:(2:Int)^62=4611686018427387904:=by decide
 refine⟨_,(zae (zg5 (zag aa hr.lv rfl T.K_law_stand (zaa (pv 2) zac)) (pgT (K:=K) (n:=2) rfl (za0 (zan (i:=3) sc_law_sets.nd rfl (Or.inl rfl)) (za0 (zan (i:=4) sc_law_sets.nd rfl (Or.inl rfl)) zbq))))
   (zae (zar (i:=5) sc_law_sets.nd rfl (Or.inl rfl) (zbb zac))
   (zae (zb6 PassesOwn.never rfl (zdc rfl T.m_range (zaa (za3 (zer (K:=K)) rfl T.m_len PySem.boot_len (zaa (pv 0) zac)) zac)) (zan (i:=6) sc_law_sets.nd rfl (Or.inl rfl)) (zai (za7 (PW.pt (zh8 (zap zb3 (zav zc6 (pv 6) (pv 3)) (pv 3) (zau _)) (zh8 (zap zb3 (zav zc6 (pv 6) (pv 4)) zaf (zau _)) (zh5 (zap zb3 (zav zc6 (zax (ixL (K:=K)) (pv 0) (pv 6) (fun _ _=>rfl)) (pv 1)) zaf (zau _)))))) (zai (zca (zes (K:=K) PySem.F.plainAttrs_list PySem.F.slot_list_append PySem.F.type_list_append zcz (pv 5) (zaa (pv 6) zac)))) za1)))
   (zai (zaw (pv 5)))))),?_⟩
 refine⟨_,rfl,pl,ps,rfl,PA,fun t H1 s1 ht=>?_⟩
 refine⟨t,_,rfl,sqT ht,rfl,_,_,rfl,_,_,rfl,rfl,?_⟩
 refine⟨zaq (by show 0≤1000;decide),fun lf ad=>?_⟩
 have s2:=s1.trans (zad ad (.lst []))
 have g2:L2.upd H1 lf (.lst []) lf=some (.lst []):=zab
 have nf:=s1.free ad
 generalize L2.upd H1 lf (.lst [])=H2 at s2 g2 ⊢
 have lB:(zam B).length=B.length:=List.length_map _
 refine⟨_,rfl,bl,_,rfl,.inl (SqL.of (s2 _ _ hB)),_,rfl,by rw[lB,ae];omega,by rw[lB,ae];omega,?_⟩
 rw[lB,Int.toNat_natCast]
 refine zfk (n:=B.length) (fun i σ H3=>∃v6:Option V,σ=[some (.ref bl),some (.int ti),some (.ref pl),some (.int (zaj ps:Int)),some (.int (zao ps:Int)),some (.ref lf),v6]∧Same H H3∧H3 lf=some (.lst (zam ((List.range i).filter (zfx B ti (zaj ps) (zao ps)))))) ⟨none,rfl,s2,g2⟩ ?_ ?_
 ·rintro i σ H3 hi ⟨v6,rfl,s3,g3⟩
  have af:H3 bl=some (.lst (zam B)):=s3 _ _ hB
  have ag:((List.range i).filter (zfx B ti (zaj ps) (zao ps))).length≤i:=by
   have:=List.length_filter_le (zfx B ti (zaj ps) (zao ps)) (List.range i)
   rwa [List.length_range] at this
  have step:∀b,zfx B ti (zaj ps) (zao ps) i=b→(List.range (i+1)).filter (zfx B ti (zaj ps) (zao ps))=(List.range i).filter (zfx B ti (zaj ps) (zao ps))++(if b=true then [i] else []):=fun b e=>by
   rw[List.range_succ,List.filter_append]
   cases b<;>simp[e]
  have no:zfx B ti (zaj ps) (zao ps) i=false→∃v6:Option V,[some (.ref bl),some (.int ti),some (.ref pl),some (.int (zaj ps:Int)),some (.int (zao ps:Int)),some (.ref lf),some (V.int (i:Int))]=[some (.ref bl),some (.int ti),some (.ref pl),some (.int (zaj ps:Int)),some (.int (zao ps:Int)),some (.ref lf),v6]∧Same H H3∧H3 lf=some (.lst (zam ((List.range (i+1)).filter (zfx B ti (zaj ps) (zao ps))))):=fun e=>⟨_,rfl,s3,by rw[step _ e,if_neg Bool.false_ne_true,List.append_nil];exact g3⟩
  refine⟨_,rfl,_,rfl,_,_,rfl,rfl,_,rfl,rfl,_,rfl,?_⟩
  by_cases c1:i&&&zaj ps=zaj ps
  ·refine zgw (show V.int (Builtin.bitAnd (i:Int) (zaj ps:Int))=V.int (zaj ps:Int) by rw[zew,c1]) ?_
   refine⟨_,rfl,_,rfl,_,_,rfl,rfl,rfl,_,rfl,?_⟩
   by_cases c2:i&&&zao ps=0
   ·refine zgw (show V.int (Builtin.bitAnd (i:Int) (zao ps:Int))=V.int 0 by rw[zew,c2];rfl) ?_
    have gi:B[i]?=some B[i]:=List.getElem?_eq_getElem hi
    refine⟨_,rfl,_,rfl,bl,_,_,.int (B[i]:Int),rfl,rfl,SqL.of af,zc5 (by rw[List.getElem?_map,gi];rfl),_,rfl,_,_,rfl,rfl,rfl,_,rfl,?_⟩
    by_cases c3:Builtin.bitAnd (B[i]:Int) ti=0
    ·refine zgw (show V.int (Builtin.bitAnd (B[i]:Int) ti)=V.int 0 by rw[c3]) ?_
     have e:zfx B ti (zaj ps) (zao ps) i=true:=by
      unfold zfx
      rw[gi,Option.getD_some,decide_eq_true c1,decide_eq_true c2,decide_eq_true c3]
      rfl
     refine⟨_,rfl,.inl ⟨rfl,_,SqL.of g3⟩,_,rfl,lf,_,_,rfl,rfl,g3,zbi (by rw[List.length_map];omega),?_⟩
     refine⟨_,rfl,Same.put s3 nf g3,?_⟩
     rw[step _ e,if_pos rfl,zif]
     exact zab
    ·refine zb0 (fun z:V.int (Builtin.bitAnd (B[i]:Int) ti)=V.int 0=>c3 (by injection z)) ?_
     refine no ?_
     unfold zfx
     rw[gi,Option.getD_some,decide_eq_false c3,Bool.and_false,Bool.and_false]
   ·refine zb0 (fun z:V.int (Builtin.bitAnd (i:Int) (zao ps:Int))=V.int 0=>by
     injection z with z
     rw[zew] at z
     exact c2 (by omega)) ?_
    refine zgb ?_
    refine no ?_
    unfold zfx
    rw[decide_eq_false c2,Bool.false_and,Bool.and_false]
  ·refine zb0 (fun z:V.int (Builtin.bitAnd (i:Int) (zaj ps:Int))=V.int (zaj ps:Int)=>by
    injection z with z
    rw[zew] at z
    exact c1 (by omega)) ?_
   refine zgb ?_
   refine no ?_
   unfold zfx
   rw[decide_eq_false c1,Bool.false_and]
 ·rintro σ H3 ⟨v6,rfl,s3,g3⟩
  exact⟨_,rfl,q lf _ s3 nf g3⟩
theorem zdb(T:Txt K mg a d):FnOk P w K mg base CX0 20 a.f_Choice_choose d.f_Choice_choose ["self", "k", "value"] (zum a.x_Choice):=by
 have ad:=zg7 (P:=P) (w:=w) (base:=base) T
 have aa:=zfy (P:=P) (w:=w) (base:=base) T
 refine T.K_Choice_choose.ok zij (fun vs H Q E h=>?_) (fun cdv A outer s H vs Q E hr h=>?_)
 ·obtain⟨c,dx,wd,pl,m,ts,ps,k,b,rfl,_⟩:=h
  rfl
 obtain⟨c,dx,wd,pl,m,ts,ps,k,b,rfl,hc,PA,W,m9,m1,ar,ak,ko,S,wS,q⟩:=h
 obtain⟨ap,am,WA,_⟩:=W.ex
 refine⟨_,(zae (za7 (PW.pt (zjr (zap zd1 (pv 1) (zag ad hr.lv rfl T.K_open_at (zaa (zb8 (pv 0) rfl) (zaa (zb8 (pv 0) rfl) zac))) (by with_unfolding_all rfl)) (zid (zkl (zcv (zag aa hr.lv rfl T.K_leads_on (zaa (zb8 (pv 0) rfl) (zaa (zb8 (pv 0) rfl) (zaa (zbc (zaa (pv 1) (zaa (pv 2) zac))) zac))))))))) (zai zh0) za1)
   (zai (zca (zes (K:=K) PySem.F.plainAttrs_list PySem.F.slot_list_append PySem.F.type_list_append zcz (zb8 (pv 0) rfl) (zaa (zbc (zaa (pv 1) (zaa (pv 2) zac))) zac))))),?_⟩
 refine⟨_,rfl,_,rfl,c,_,_,_,_,rfl,hc,T.C_Choice,T.n_Choice_wood,rfl,_,rfl,c,_,_,_,_,rfl,hc,T.C_Choice,T.n_Choice_picks,rfl,?_⟩
 refine⟨wd,pl,m,ap,am,ps,rfl,WA,by omega,PA,fun l H1 s1 nl hl=>?_⟩
 refine⟨l,_,rfl,.inl (SqL.of hl),rfl,zgo _,_,rfl,?_⟩
 refine zrm (show(!inV (.int (k:Int)) (zam (zaz m (zaj ps) (zao ps))))=false by rw[zf5,decide_eq_true ko];rfl) ?_
 have ah:H1 c=_:=s1 _ _ hc
 refine⟨_,rfl,c,_,_,_,_,rfl,ah,T.C_Choice,T.n_Choice_wood,rfl,_,rfl,c,_,_,_,_,rfl,ah,T.C_Choice,T.n_Choice_picks,rfl,_,rfl,_,rfl,zaq (by show 2≤1000;decide),fun tp aq=>?_⟩
 have s2:=s1.trans (zad aq (.tup [.int (k:Int),.bl b]))
 have h2:L2.upd H1 tp (.tup [.int (k:Int),.bl b]) tp=some (.tup [.int (k:Int),.bl b]):=zab
 generalize L2.upd H1 tp (.tup [.int (k:Int),.bl b])=H2 at s2 h2 ⊢
 refine⟨wd,pl,tp,m,ts,ps,(k,b),rfl,W.same s2,m9,m1,PA.same s2,by omega,ak,h2,S,fun H3 o s3 ho=>?_⟩
 obtain⟨s0,rfl⟩:=zj4 ho wS
 refine⟨_,rfl,?_⟩
 refine zgb ?_
 have af:=s2.trans s3
 have ai:H3 c=some (.ins a.x_Choice dx (chF wd pl)):=af _ _ hc
 obtain⟨xs,aj,pk⟩:=(PA.same af).ex
 have lx:=pk.length
 refine⟨_,rfl,c,_,_,_,_,rfl,ai,T.C_Choice,T.n_Choice_picks,rfl,.inl ⟨rfl,_,SqL.of aj⟩,_,rfl,_,rfl,zaq (by show 2≤1000;decide),fun tq ao=>?_⟩
 have s4:=zad ao (.tup [.int (k:Int),.bl b])
 have h4:L2.upd H3 tq (.tup [.int (k:Int),.bl b]) tq=some (.tup [.int (k:Int),.bl b]):=zab
 generalize L2.upd H3 tq (.tup [.int (k:Int),.bl b])=H4 at s4 h4 ⊢
 have ae:H4 pl=some (.lst xs):=s4 _ _ aj
 have ag:H4 c=some (.ins a.x_Choice dx (chF wd pl)):=s4 _ _ ai
 have al:c≠pl:=fun z=>by rw[z,ae] at ag;cases ag
 refine⟨pl,_,_,rfl,rfl,ae,zbi (by omega),?_⟩
 have t5:=zd7 (o':=.lst (xs++[.ref tq])) ae (fun _ z=>nomatch z)
 refine q _ (zak (Same.tup (af.trans s4)) t5) (ze5 (zka (af.trans s4)) (zgq ae)) (by rw[zal al];exact ag) ⟨⟨_,zab,?_⟩,by rw[List.length_append,List.length_singleton];omega,fun x hx=>?_⟩
 ·exact PickL.snoc (p:=(k,b)) (t5 _ _ h4) ((pk.same (Same.tup s4)).same t5)
 ·rcases List.mem_append.mp hx with z|z
  ·exact PA.le x z
  ·rw[List.mem_singleton.mp z];exact ak
theorem zgv(T:Txt K mg a d):FnOk P w K mg base CX0 1 a.f_Choice_take_back d.f_Choice_take_back ["self", "k"] (zw5 a.x_Choice):=by
 refine T.K_Choice_take_back.ok zgu (fun vs H Q E h=>?_) (fun cdv A outer s H vs Q E hr h=>?_)
 ·obtain⟨c,dx,wd,pl,ps,k,rfl,_⟩:=h
  rfl
 obtain⟨c,dx,wd,pl,ps,k,rfl,hc,PA,km,q⟩:=h
 obtain⟨xs,af,pk⟩:=PA.ex
 have lx:=pk.length
 have few:=PA.few
 refine⟨_,(zae (za7 (zap zd1 (pv 1) (zdu (N':=["option", "value"]) (n:=2) (kp:=[]) rfl (piL (K:=K) (zb8 (pv 0) rfl)) rfl rfl rfl (fun _ _ _ _ _=>(pgT (K:=K) (n:=2) rfl (za0 (zan (i:=0) (of_decide_eq_true rfl) rfl (Or.inl rfl)) (za0 (zan (i:=1) (of_decide_eq_true rfl) rfl (Or.inl rfl)) zbq)))) (fun _ _ _ _ _=>zgl) (fun _ _ _ _ _=>(pv 0))) (by with_unfolding_all rfl)) (zai zh0) za1)
   (zai (zpx (pv 0) (zdu (N':=["pick", "k"]) (n:=1) (kp:=[1]) rfl (piL (K:=K) (zb8 (pv 0) rfl)) rfl rfl rfl (fun _ _ _ _ _=>(zan (i:=0) (of_decide_eq_true rfl) rfl (Or.inl rfl))) (fun _ _ _ _ _=>(zbv (zap zos (zax (ixT (K:=K)) (pv 0) zaf (fun _ _=>rfl)) (pv 1) (zau _)))) (fun _ _ _ _ _=>(pv 0))) rfl))),?_⟩
 refine⟨_,rfl,_,rfl,c,_,_,_,_,rfl,hc,T.C_Choice,T.n_Choice_picks,rfl,pl,rfl,⟨_,SqL.of af⟩,?_⟩
 refine zbx (K:=K) (a:=pl) (xs:=xs) (fun i ys σ H2=>(∃v v',σ=[v,v'])∧H2=H∧ys=zam ((ps.take i).map (·.1))) ⟨⟨none,none,rfl⟩,rfl,rfl⟩ (fun i ys σ H2 hi pv=>?_) (fun i ys σ H2 hi pv=>?_) (fun i x ys σ H2 hx pv=>?_) (fun ys σ H2 pv l1 aj=>?_)
 ·obtain⟨_,_,rfl⟩:=pv
  rw[List.length_map,List.length_map,List.length_take]
  exact zaq (by omega)
 ·rw[pv.2.1]
  exact SqL.of af
 ·obtain⟨⟨v,v',rfl⟩,rfl,rfl⟩:=pv
  obtain⟨p,t,hp,rfl,ht⟩:=pk.get hx
  refine⟨t,_,rfl,sqT ht,rfl,_,_,rfl,_,_,rfl,rfl,?_⟩
  refine⟨_,rfl,⟨_,_,rfl⟩,rfl,?_⟩
  rw[List.take_add_one,hp,Option.toList_some,List.map_append,zif]
  rfl
 obtain⟨_,rfl,rfl⟩:=pv
 rw[←lx,List.take_length]
 have s1:=zad aj (.lst (zam (ps.map (·.1))))
 have g1:L2.upd H2 l1 (.lst (zam (ps.map (·.1)))) l1=some (.lst (zam (ps.map (·.1)))):=zab
 generalize L2.upd H2 l1 (.lst (zam (ps.map (·.1))))=H1 at s1 g1 ⊢
 refine⟨l1,_,rfl,.inl (SqL.of g1),rfl,zgo _,_,rfl,?_⟩
 refine zrm (show(!inV (.int (k:Int)) (zam (ps.map (·.1))))=false by rw[zf5,decide_eq_true km];rfl) ?_
 have ai:H1 c=some (.ins a.x_Choice dx (chF wd pl)):=s1 _ _ hc
 have ad:H1 pl=some (.lst xs):=s1 _ _ af
 refine⟨_,rfl,c,_,_,_,_,rfl,ai,T.C_Choice,T.n_Choice_picks,rfl,pl,rfl,⟨_,SqL.of ad⟩,?_⟩
 refine zbx (K:=K) (a:=pl) (xs:=xs) (fun i ys σ H2=>(∃v,σ=[v,some (.int (k:Int))])∧H2=H1∧ys.length≤i∧PickL H1 (woP (ps.take i) k) ys) ⟨⟨none,rfl⟩,rfl,Nat.le_refl _,rfl⟩ (fun i ys σ H2 hi pv=>?_) (fun i ys σ H2 hi pv=>?_) (fun i x ys σ H2 hx pv=>?_) (fun ys σ H2 pv l2 ag=>?_)
 ·exact zaq (by have:=pv.2.2.1;omega)
 ·rw[pv.2.1]
  exact SqL.of ad
 ·obtain⟨⟨v,rfl⟩,rfl,h1,h2⟩:=pv
  obtain⟨p,t,hp,rfl,ht⟩:=(pk.same (Same.tup s1)).get hx
  have et:woP (ps.take (i+1)) k=woP (ps.take i) k++(if p.1=k then [] else [p]):=by
   unfold woP
   rw[List.take_add_one,hp,Option.toList_some,List.filter_append]
   by_cases z:p.1=k<;>simp[z]
  refine⟨_,rfl,t,_,_,_,rfl,rfl,sqT ht,at0,_,rfl,rfl,_,rfl,?_⟩
  by_cases z:p.1=k
  ·refine zfr (by rw[z]) ?_
   refine⟨⟨_,rfl⟩,rfl,by omega,?_⟩
   rw[et,if_pos z,List.append_nil]
   exact h2
  ·refine zln ?_ ?_
   ·rw[Bool.not_eq_true',decide_eq_false_iff_not]
    intro y
    injection y with y
    omega
   ·refine⟨_,rfl,⟨_,rfl⟩,rfl,by rw[List.length_append,List.length_singleton];omega,?_⟩
    rw[et,if_neg z]
    exact PickL.snoc (p:=p) ht h2
 ·obtain⟨_,rfl,_,h2⟩:=pv
  rw[←lx,List.take_length] at h2
  have s2:=zad ag (.lst ys)
  have g2:L2.upd H2 l2 (.lst ys) l2=some (.lst ys):=zab
  have ah:=h2.same (Same.tup s2)
  generalize L2.upd H2 l2 (.lst ys)=H3 at s2 g2 ah ⊢
  have ae:=s1.trans s2
  have aa:H3 c=some (.ins a.x_Choice dx (chF wd pl)):=ae _ _ hc
  refine⟨_,rfl,c,_,_,_,rfl,aa,T.C_Choice,T.n_Choice_picks,(by show 2<1000;decide),?_⟩
  have n2:l2≠c:=fun z=>by rw[z,aa] at g2;cases g2
  have tp:=zd7 (o':=.ins a.x_Choice dx (chF wd l2)) aa (fun _ z=>nomatch z)
  refine q l2 _ (zak (Same.tup ae) tp) (zff (zmp ae) (zke aa (fun _ z=>nomatch z))) (ze5 (zka ae) (zgq aa)) (s1.free ag) zab ⟨⟨ys,?_,ah.same tp⟩,Nat.le_trans (List.length_filter_le _ _) few,fun x hx=>PA.le x (List.mem_filter.mp hx).1⟩
  rw[zal n2]
  exact g2
theorem zlh(T:Txt K mg a d):FnOk P w K mg base CX0 25 a.f_law_played d.f_law_played ["_law_state", "_law_choice", "_law_broken_here", "_law_many"] (zth K a.x_Choice):=by
 have aa:=zdn (P:=P) (w:=w) (base:=base) T
 have ag:=ziz (P:=P) (w:=w) (base:=base) T
 have ae:=zdb (P:=P) (w:=w) (base:=base) T
 have ad:=zgv (P:=P) (w:=w) (base:=base) T
 refine T.K_law_played.ok sc_law_played (fun vs H Q E h=>?_) (fun cdv A outer s H vs Q E hr h=>?_)
 ·obtain⟨pen,sp,ns,k,c,dx,wd,pl,lb,m,ts,rfl,_⟩:=h
  rfl
 obtain⟨pen,sp,ns,k,c,dx,wd,aj,lb,m,ts,rfl,aN,aH,k0,k9,hc,bt,bW,bG,bf,aX,m1,m9,bi,q⟩:=h
 have bv:(2:Int)^62=4611686018427387904:=by decide
 have pw:2^m≤512:=zur m9
 have aV:c≠pen:=fun z=>by rw[z,aH] at hc;cases hc
 have bd:lb≠c:=fun z=>by rw[z,hc] at bf;cases bf
 have bN:lb∉[pen,c,aj]:=zn9 aX bd bW
 have aK:∃t,PSs (zd2 CX0 P w K mg base ["_law_state", "_law_choice", "_law_broken_here", "_law_many", "_law_chosen", "_law_turn", "_law_k", "_law_value", "_law_left"] "_law_played" (zah zck) a.f_law_played cdv A outer s H E).nox ((zqz (zba zck) 1).drop 4) t∧∀(D:zii)(kn:Nat)(b:Bool)(kd:Int)(pl lc:Addr)(ps:List (Nat×Bool))(v5 v8:Option V)(H2:Hp),KeepA [pen,c,aj] H H2→zcp H H2→H2 pen=some (.lst [.ref sp,.int kd])→0≤kd→kd≤990000→H2 c=some (.ins a.x_Choice dx (chF wd pl))→PicksAt H2 pl ps→PicksAt H2 lc ps→lc≠pl→(pl=aj∨H pl=none)→H lc=none→PickOk m ps→(∃s,s<2^m∧InS (zaj ps) (zao ps) s∧zbh ts s=true)→kn∉ps.map (·.1)→kn<m →
   (∀(pl lc:Addr)(ps:List (Nat×Bool))(v7:Option V)(k':Int)(H2:Hp),KeepA [pen,c,aj] H H2→zcp H H2→H2 pen=some (.lst [.ref sp,.int k'])→kd≤k'→k'≤kd+1→H2 c=some (.ins a.x_Choice dx (chF wd pl))→PicksAt H2 pl ps→PicksAt H2 lc ps→lc≠pl→(pl=aj∨H pl=none)→H lc=none→PickOk m ps→(∃s,s<2^m∧InS (zaj ps) (zao ps) s∧zbh ts s=true)→D.nx [some (.ref pen),some (.ref c),some (.ref lb),some (.int (m:Int)),some (.ref lc),v5,some (.int (kn:Int)),v7,v8] H2) →
   t D [some (.ref pen),some (.ref c),some (.ref lb),some (.int (m:Int)),some (.ref lc),v5,some (.int (kn:Int)),some (.bl b),v8] H2:=by
  refine⟨_,(zai (za7 (PW.pt (zh8 (zap zix (pv 6) zaf (zau _)) (zh5 (zap zix (zag aa hr.lv rfl T.K_law_take (zaa (pv 0) (zaa zaf zac))) zaf (zau _))))) (zae (za7 (zap (zg8 hr.units) (zag ag hr.lv rfl T.K_law_sets (zaa (pv 2) (zaa (zoy zkm zaf) (zaa (zav zdp (pv 4) (zbb (zaa (zbc (zaa (pv 6) (zaa (pv 7) zac))) zac))) zac)))) (zbb zac) (zau _)) (zai (zar (i:=7) sc_law_played.nd rfl (Or.inl rfl) (zjt (pv 7)))) za1)
   (zae (zca (zfq (pv 1) T.C_Choice T.g_Choice_choose ae hr.lv T.K_Choice_choose.B .nil zc1 (zaa (pv 6) (zaa (pv 7) zac))))
   (zai (zca (zes (K:=K) PySem.F.plainAttrs_list PySem.F.slot_list_append PySem.F.type_list_append zcz (pv 4) (zaa (zbc (zaa (pv 6) (zaa (pv 7) zac))) zac)))))) za1)),?_⟩
  intro D kn b kd pl lc ps v5 v8 H2 aI t2 ap cg cu aQ aC aL ai ak al ok wr bS bR nx
  have p9:=ok.len
  refine⟨_,rfl,_,_,rfl,rfl,_,rfl,?_⟩
  refine zcw (fun c1=>?_) (fun c1=>?_)
  rotate_left
  ·refine zgb ?_
   exact nx pl lc ps _ kd H2 aI t2 ap (by omega) (by omega) aQ aC aL ai ak al ok wr
  refine⟨_,rfl,pen,sp,ns,4,kd,rfl,aN _ _ aI ap,by omega,by omega,by decide,fun w3 cq cp=>?_⟩
  have x3:=za2 (pen:=pen) (H:=H2) (.lst [.ref sp,.int (kd+1)])
  have g3:L2.upd H2 pen (.lst [.ref sp,.int (kd+1)]) pen=some (.lst [.ref sp,.int (kd+1)]):=zab
  generalize L2.upd H2 pen (.lst [.ref sp,.int (kd+1)])=H3 at x3 g3 ⊢
  have aq:=aI.pen x3 (.inl List.mem_cons_self) ap g3
  have t3:=zak t2 (SameX.tup ap x3)
  have av:=aC.x ap (zbz aC ap) x3
  have ar:=aL.x ap (zbz aL ap) x3
  have aG:H3 c=some (.ins a.x_Choice dx (chF wd pl)):=x3 _ _ aV aQ
  refine⟨_,_,rfl,rfl,_,rfl,?_⟩
  refine zcw (fun c3=>?_) (fun c3=>?_)
  rotate_left
  ·exact nx pl lc ps _ (kd+1) H3 aq t3 g3 (by omega) (by omega) aG av ar ai ak al ok wr
  obtain⟨xs,be,bH⟩:=ar.ex
  have lx:=bH.length
  refine⟨_,rfl,1,rfl,_,rfl,_,rfl,_,rfl,zaq (by show 2≤1000;decide),fun tk bQ=>?_⟩
  have s4:=zad bQ (.tup [.int (kn:Int),.bl b])
  have g4:L2.upd H3 tk (.tup [.int (kn:Int),.bl b]) tk=some (.tup [.int (kn:Int),.bl b]):=zab
  generalize L2.upd H3 tk (.tup [.int (kn:Int),.bl b])=H4 at s4 g4 ⊢
  refine⟨zaq (by show 1≤1000;decide),fun lk bU=>?_⟩
  have bI:=zad bU (.lst [.ref tk])
  have s5:=s4.trans bI
  have g5:L2.upd H4 lk (.lst [.ref tk]) lk=some (.lst [.ref tk]):=zab
  have bA:=bI _ _ g4
  generalize L2.upd H4 lk (.lst [.ref tk])=H5 at s5 g5 bA ⊢
  refine⟨lc,lk,_,_,rfl,rfl,s5 _ _ be,g5,zaq (by rw[List.length_cons,List.length_nil];omega),fun lf aT=>?_⟩
  have bz:=zad aT (.lst (xs++[.ref tk]))
  have s6:=s5.trans bz
  have g6:L2.upd H5 lf (.lst (xs++[.ref tk])) lf=some (.lst (xs++[.ref tk])):=zab
  have aF:=PickL.snoc (p:=(kn,b)) (bz _ _ bA) (bH.same (Same.tup s6))
  generalize L2.upd H5 lf (.lst (xs++[.ref tk]))=H6 at s6 g6 aF ⊢
  have br:H6 lb=some (.lst (zam (brN m ts))):=(aq.same s6).lst bN bf
  refine⟨lb,lf,brN m ts,-1,ps++[(kn,b)],rfl,br,by rw[zh4];exact pw,⟨⟨_,g6,aF⟩,by rw[List.length_append,List.length_singleton];omega,fun x hx=>?_⟩,fun ls H7 s7 cr bP=>?_⟩
  ·rcases List.mem_append.mp hx with z|z
   ·exact aC.le x z
   ·rw[List.mem_singleton.mp z];show kn≤20;omega
  refine⟨zaq (by show 0≤1000;decide),fun le b9=>?_⟩
  have bx:=zad b9 (.lst [])
  have s8:=(s6.trans s7).trans bx
  have g8:L2.upd H7 le (.lst []) le=some (.lst []):=zab
  have bC:=bx _ _ bP
  generalize L2.upd H7 le (.lst [])=H8 at s8 g8 bC ⊢
  refine⟨ls,le,(zg2 (brN m ts) (-1) (zaj (ps++[(kn,b)])) (zao (ps++[(kn,b)]))).map (fun k:Nat=>(k:Int)),[],rfl,rfl,SqL.of (by rw[zmc];exact bC),SqL.of g8,_,rfl,?_⟩
  have bB:=aq.same s8
  have t8:=zak t3 (Same.tup s8)
  have aP:=av.same s8
  have aR:=ar.same s8
  have aD:H8 c=some (.ins a.x_Choice dx (chF wd pl)):=s8 _ _ aG
  have aE:=s8 _ _ g3
  have cx:(0:Int)<(kn:Int):=of_decide_eq_true c1
  have bM:1≤kn:=by omega
  have ho:kn∈zaz m (zaj ps) (zao ps):=mem_openP.mpr ⟨bR,bM,bS⟩
  by_cases e:zg2 (brN m ts) (-1) (zaj (ps++[(kn,b)])) (zao (ps++[(kn,b)]))=[]
  ·refine zgw (by rw[e];rfl) ?_
   have L:=zp6 wr (sets_lead.mp e)
   refine⟨_,rfl,_,rfl,?_⟩
   generalize (!b)=b' at L ⊢
   have aM:=leadP_iff.mp L
   refine⟨_,rfl,c,_,_,rfl,aD,rfl,_,rfl,_,rfl,c,dx,wd,pl,m,ts,ps,kn,b',rfl,aD,aP,bG _ t8,m9,m1,by omega,by omega,ho,(ok.snoc ho).stand m1,aM,fun H9 t9 ay aw aB=>?_⟩
   obtain⟨ys,af,aJ⟩:=(aR.ch ai t9 ay).ex
   have ly:=aJ.length
   refine⟨_,rfl,.inl ⟨rfl,_,SqL.of af⟩,_,rfl,_,rfl,zaq (by show 2≤1000;decide),fun tq aW=>?_⟩
   have sA:=zad aW (.tup [.int (kn:Int),.bl b'])
   have gA:L2.upd H9 tq (.tup [.int (kn:Int),.bl b']) tq=some (.tup [.int (kn:Int),.bl b']):=zab
   generalize L2.upd H9 tq (.tup [.int (kn:Int),.bl b'])=HA at sA gA ⊢
   have ah:HA lc=some (.lst ys):=sA _ _ af
   refine⟨lc,_,_,rfl,rfl,ah,zbi (by omega),?_⟩
   have tB:=zd7 (o':=.lst (ys++[.ref tq])) ah (fun _ z=>nomatch z)
   have cB:ChS lc HA (L2.upd HA lc (.lst (ys++[.ref tq]))):=zgq ah
   have gB:L2.upd HA lc (.lst (ys++[.ref tq])) lc=some (.lst (ys++[.ref tq])):=zab
   generalize L2.upd HA lc (.lst (ys++[.ref tq]))=HB at tB cB gB ⊢
   have bo:=PickL.snoc (p:=(kn,b')) (tB _ _ gA) ((aJ.same (Same.tup sA)).same tB)
   have bp:pen≠pl:=Ne.symm (zbz aP aE)
   have bb:pen≠lc:=Ne.symm (zbz aR aE)
   have aZ:=((bB.ch ay (ak.imp (fun z=>by rw[z];simp) id)).same sA).ch cB (.inr al)
   have bq:c≠lc:=fun z=>by rw[z,af] at aw;cases aw
   exact nx pl lc (ps++[(kn,b')]) _ (kd+1) HB aZ (zak t8 (zak t9 (zak (Same.tup sA) tB))) (cB.lst bb (sA _ _ (ay.lst bp aE))) (by omega) (by omega) (cB.ins bq (sA _ _ aw)) ((aB.same sA).ch (Ne.symm ai) tB cB) ⟨⟨_,gB,bo⟩,aB.few,aB.le⟩ ai ak al (ok.snoc ho) aM
  ·refine zb0 (fun z=>e (by simpa using z)) ?_
   have L:zch ts m (zaj (ps++[(kn,b)])) (zao (ps++[(kn,b)]))=true:=by
    rw[←Bool.not_eq_false]
    exact fun z=>e (sets_lead.mpr z)
   have aM:=leadP_iff.mp L
   refine⟨_,rfl,c,_,_,rfl,aD,rfl,_,rfl,_,rfl,c,dx,wd,pl,m,ts,ps,kn,b,rfl,aD,aP,bG _ t8,m9,m1,by omega,by omega,ho,(ok.snoc ho).stand m1,aM,fun H9 t9 ay aw aB=>?_⟩
   obtain⟨ys,af,aJ⟩:=(aR.ch ai t9 ay).ex
   have ly:=aJ.length
   refine⟨_,rfl,.inl ⟨rfl,_,SqL.of af⟩,_,rfl,_,rfl,zaq (by show 2≤1000;decide),fun tq aW=>?_⟩
   have sA:=zad aW (.tup [.int (kn:Int),.bl b])
   have gA:L2.upd H9 tq (.tup [.int (kn:Int),.bl b]) tq=some (.tup [.int (kn:Int),.bl b]):=zab
   generalize L2.upd H9 tq (.tup [.int (kn:Int),.bl b])=HA at sA gA ⊢
   have ah:HA lc=some (.lst ys):=sA _ _ af
   refine⟨lc,_,_,rfl,rfl,ah,zbi (by omega),?_⟩
   have tB:=zd7 (o':=.lst (ys++[.ref tq])) ah (fun _ z=>nomatch z)
   have cB:ChS lc HA (L2.upd HA lc (.lst (ys++[.ref tq]))):=zgq ah
   have gB:L2.upd HA lc (.lst (ys++[.ref tq])) lc=some (.lst (ys++[.ref tq])):=zab
   generalize L2.upd HA lc (.lst (ys++[.ref tq]))=HB at tB cB gB ⊢
   have bo:=PickL.snoc (p:=(kn,b)) (tB _ _ gA) ((aJ.same (Same.tup sA)).same tB)
   have bp:pen≠pl:=Ne.symm (zbz aP aE)
   have bb:pen≠lc:=Ne.symm (zbz aR aE)
   have aZ:=((bB.ch ay (ak.imp (fun z=>by rw[z];simp) id)).same sA).ch cB (.inr al)
   have bq:c≠lc:=fun z=>by rw[z,af] at aw;cases aw
   exact nx pl lc (ps++[(kn,b)]) _ (kd+1) HB aZ (zak t8 (zak t9 (zak (Same.tup sA) tB))) (cB.lst bb (sA _ _ (ay.lst bp aE))) (by omega) (by omega) (cB.ins bq (sA _ _ aw)) ((aB.same sA).ch (Ne.symm ai) tB cB) ⟨⟨_,gB,bo⟩,aB.few,aB.le⟩ ai ak al (ok.snoc ho) aM
 obtain⟨tA,hA,rA⟩:=aK
 refine⟨_,(zae (zar (i:=4) sc_law_played.nd rfl (Or.inl rfl) (zbb zac))
   (zae (zb6 PassesOwn.never rfl (zdc rfl T.m_range (zaa (zag aa hr.lv rfl T.K_law_take (zaa (pv 0) (zaa (zav zb9 (pv 3) zaf) zac))) zac)) (zan (i:=5) sc_law_played.nd rfl (Or.inl rfl)) (zae (zar (i:=6) sc_law_played.nd rfl (Or.inr rfl) (zag aa hr.lv rfl T.K_law_take (zaa (pv 0) (zaa (pv 3) zac))))
   (zae (zar (i:=7) sc_law_played.nd rfl (Or.inl rfl) (zbo zb3 (zag aa hr.lv rfl T.K_law_take (zaa (pv 0) (zaa zaf zac))) zaf (zau _)))
   (zae (zed (i:=8) sc_law_played.nd rfl rfl rfl (N':=["_law_one", "_law_k"]) (n:=1) (kp:=[6]) rfl (piL (K:=K) (pv 4)) rfl rfl rfl (fun _ _ _ _ _=>(zan (i:=0) (of_decide_eq_true rfl) rfl (Or.inl rfl))) (fun _ _ _ _ _=>(zbv (zap zos (zax (ixT (K:=K)) (pv 0) zaf (fun _ _=>rfl)) (pv 1) (zau _)))) (fun _ _ _ _ _=>(pv 0)))
   (zae (za7 (zap zoa (za3 (zer (K:=K)) rfl T.m_len PySem.boot_len (zaa (pv 8) zac)) (za3 (zer (K:=K)) rfl T.m_len PySem.boot_len (zaa (pv 4) zac)) (zau _)) (zae (zca (zfq (pv 1) T.C_Choice T.g_Choice_take_back ad hr.lv T.K_Choice_take_back.B .nil zc1 (zaa (pv 6) zac)))
   (zai (zar (i:=4) sc_law_played.nd rfl (Or.inl rfl) (pv 8)))) za1)
   hA)))))
   (zai (zaw (pv 4))))),?_⟩
 refine⟨zaq (by show 0≤1000;decide),fun ax ao=>?_⟩
 have s1:=zad ao (.lst [])
 have g1:L2.upd H ax (.lst []) ax=some (.lst []):=zab
 generalize L2.upd H ax (.lst [])=H1 at s1 g1 ⊢
 have aA:H1 pen=some (.lst [.ref sp,.int k]):=s1 _ _ aH
 refine⟨_,rfl,_,rfl,_,_,rfl,rfl,pen,sp,ns,((m:Int)+4),k,rfl,aN _ _ ((KeepA.refl _ H).same s1) aA,by omega,by omega,by omega,fun w1 ce cj=>?_⟩
 have x2:=za2 (pen:=pen) (H:=H1) (.lst [.ref sp,.int (k+1)])
 have g2:L2.upd H1 pen (.lst [.ref sp,.int (k+1)]) pen=some (.lst [.ref sp,.int (k+1)]):=zab
 generalize L2.upd H1 pen (.lst [.ref sp,.int (k+1)])=H2 at x2 g2 ⊢
 have aI:=((KeepA.refl [pen,c,aj] H).same s1).pen x2 (.inl List.mem_cons_self) aA g2
 have t2:=zak (Same.tup s1) (SameX.tup aA x2)
 have aQ:H2 c=some (.ins a.x_Choice dx (chF wd aj)):=x2 _ _ aV (s1 _ _ hc)
 have bu:=bt.same s1
 have aC:=bu.x aA (zbz bu aA) x2
 have aL:PicksAt H2 ax []:=(show PicksAt H1 ax [] from⟨⟨[],g1,rfl⟩,by decide,fun _ z=>nomatch z⟩).x aA (fun z=>by rw[z,aA] at g1;cases g1) x2
 have bj:ax≠aj:=fun z=>by
  obtain⟨xs,h1,_⟩:=bt.ex
  rw[z,h1] at ao
  cases ao
 refine⟨_,rfl,by rw[bv];omega,by rw[bv];omega,?_⟩
 refine zfk (n:=w1.toNat) (fun i σ H8=>∃(pl lc:Addr)(ps:List (Nat×Bool))(k8:Int)(v5 v6 v7 v8:Option V),σ=[some (.ref pen),some (.ref c),some (.ref lb),some (.int (m:Int)),some (.ref lc),v5,v6,v7,v8]∧KeepA [pen,c,aj] H H8∧zcp H H8∧H8 pen=some (.lst [.ref sp,.int k8])∧k≤k8∧k8≤k+1+3*i∧H8 c=some (.ins a.x_Choice dx (chF wd pl))∧PicksAt H8 pl ps∧PicksAt H8 lc ps∧lc≠pl∧(pl=aj∨H pl=none)∧H lc=none∧PickOk m ps∧(∃s,s<2^m∧InS (zaj ps) (zao ps) s∧zbh ts s=true)) ⟨aj,ax,[],k+1,none,none,none,none,rfl,aI,t2,g2,by omega,by omega,aQ,aC,aL,bj,.inl rfl,ao,PickOk.nil m,bi⟩ ?_ ?_
 ·rintro i σ H3 hi ⟨pl,lc,ps,k8,v5,v6,v7,v8,rfl,aq,t3,am,bF,b7,aG,av,ar,ai,ak,al,ok,wr⟩
  have p9:=ok.len
  refine⟨_,rfl,_,rfl,pen,sp,ns,(m:Int),k8,rfl,aN _ _ aq am,by omega,by omega,by omega,fun wk cn ck=>?_⟩
  have x4:=za2 (pen:=pen) (H:=H3) (.lst [.ref sp,.int (k8+1)])
  have g4:L2.upd H3 pen (.lst [.ref sp,.int (k8+1)]) pen=some (.lst [.ref sp,.int (k8+1)]):=zab
  generalize L2.upd H3 pen (.lst [.ref sp,.int (k8+1)])=H4 at x4 g4 ⊢
  have bK:=aq.pen x4 (.inl List.mem_cons_self) am g4
  refine⟨_,rfl,pen,sp,ns,2,k8+1,rfl,aN _ _ bK g4,by omega,by omega,by decide,fun wv cm cb=>?_⟩
  have x5:=za2 (pen:=pen) (H:=H4) (.lst [.ref sp,.int (k8+1+1)])
  have g5:L2.upd H4 pen (.lst [.ref sp,.int (k8+1+1)]) pen=some (.lst [.ref sp,.int (k8+1+1)]):=zab
  generalize L2.upd H4 pen (.lst [.ref sp,.int (k8+1+1)])=H5 at x5 g5 ⊢
  have bw:=bK.pen x5 (.inl List.mem_cons_self) g4 g5
  have aS:=x4.trans x5
  have t5:=zak t3 (SameX.tup am aS)
  have bT:=av.x am (zbz av am) aS
  have bE:=ar.x am (zbz ar am) aS
  have bV:H5 c=some (.ins a.x_Choice dx (chF wd pl)):=aS _ _ aV aG
  obtain⟨kn,rfl⟩:∃kn:Nat,wk=(kn:Int):=⟨wk.toNat,by omega⟩
  obtain⟨b,hb⟩:∃b,b=decide (V.int wv=V.int 1):=⟨_,rfl⟩
  refine⟨rfl,?_⟩
  rw[←hb]
  obtain⟨xs,bg,pk⟩:=bE.ex
  have lx:=pk.length
  refine⟨_,rfl,lc,rfl,⟨_,SqL.of bg⟩,?_⟩
  refine zbx (K:=K) (a:=lc) (xs:=xs) (fun i ys σ H6=>(∃v,σ=[v,some (.int (kn:Int))])∧H6=H5∧ys.length≤i∧PickL H5 (woP (ps.take i) kn) ys) ⟨⟨none,rfl⟩,rfl,Nat.le_refl _,rfl⟩ (fun i ys σ H6 hi pv=>?_) (fun i ys σ H6 hi pv=>?_) (fun i x ys σ H6 hx pv=>?_) (fun ys σ H6 pv lf aT=>?_)
  ·exact zaq (by have:=pv.2.2.1;omega)
  ·rw[pv.2.1]
   exact SqL.of bg
  ·obtain⟨⟨v,rfl⟩,rfl,h1,h2⟩:=pv
   obtain⟨p,t,hp,rfl,ht⟩:=pk.get hx
   have et:woP (ps.take (i+1)) kn=woP (ps.take i) kn++(if p.1=kn then [] else [p]):=by
    unfold woP
    rw[List.take_add_one,hp,Option.toList_some,List.filter_append]
    by_cases z:p.1=kn<;>simp[z]
   refine⟨_,rfl,t,_,_,_,rfl,rfl,sqT ht,at0,_,rfl,rfl,_,rfl,?_⟩
   by_cases z:p.1=kn
   ·refine zfr (by rw[z]) ?_
    refine⟨⟨_,rfl⟩,rfl,by omega,?_⟩
    rw[et,if_pos z,List.append_nil]
    exact h2
   ·refine zln ?_ ?_
    ·rw[Bool.not_eq_true',decide_eq_false_iff_not]
     intro y
     injection y with y
     exact z (by omega)
    ·refine⟨_,rfl,⟨_,rfl⟩,rfl,by rw[List.length_append,List.length_singleton];omega,?_⟩
     rw[et,if_neg z]
     exact PickL.snoc (p:=p) ht h2
  obtain⟨_,rfl,_,h2⟩:=pv
  rw[←lx,List.take_length] at h2
  have s6:=zad aT (.lst ys)
  have g6:L2.upd H6 lf (.lst ys) lf=some (.lst ys):=zab
  have aF:=h2.same (Same.tup s6)
  have ly:=aF.length
  generalize L2.upd H6 lf (.lst ys)=H7 at s6 g6 aF ⊢
  have bh:H7 lc=some (.lst xs):=s6 _ _ bg
  have aU:=bw.same s6
  have t7:=zak t5 (Same.tup s6)
  have bJ:=bT.same s6
  have bY:=bE.same s6
  have ba:H7 c=some (.ins a.x_Choice dx (chF wd pl)):=s6 _ _ bV
  have bL:H lf=none:=bw.dom _ aT
  refine⟨_,rfl,lf,_,rfl,.inl (SqL.of g6),_,rfl,lc,_,rfl,.inl (SqL.of bh),_,_,rfl,rfl,_,rfl,?_⟩
  have few:=av.few
  by_cases aO:kn∈ps.map (·.1)
  ·have bX:=zuv aO
   refine zln (decide_eq_true (by omega)) ?_
   refine⟨_,rfl,c,_,_,rfl,ba,rfl,_,rfl,c,dx,wd,pl,ps,kn,rfl,ba,bJ,aO,fun bO H8 t8 l8 bZ n8 aD P8=>?_⟩
   have aY:H8 lf=some (.lst ys):=l8 _ _ g6
   refine⟨_,rfl,?_⟩
   refine rA _ kn b (k8+1+1) bO lf (woP ps kn) _ _ H8 (aU.ch bZ (.inl (by simp))) (zak t7 t8) (l8 _ _ (s6 _ _ g5)) (by omega) (by omega) aD P8 ⟨⟨ys,aY,aF.same t8⟩,P8.few,P8.le⟩ (fun z=>by rw[←z,g6] at n8;cases n8) (.inr (aU.dom _ n8)) bL ok.wo ?_ (zv7 ps kn) (by omega) ?_
   ·obtain⟨sw,h1,h2,h3⟩:=wr
    exact⟨sw,h1,zxt h2,h3⟩
   ·intro pl lc ps v7 k' H9 A1 A2 A3 A4 A5 A6 A7 A8 A9 B1 B2 B3 B4
    exact⟨pl,lc,ps,k',_,_,_,_,rfl,A1,A2,A3,by omega,by omega,A6,A7,A8,A9,B1,B2,B3,B4⟩
  ·have e:=zux (ps:=ps) (k:=(kn:Int)) fun j h=>by rw[←Int.ofNat.inj h];exact aO
   rw[zvg] at e
   rw[e] at ly
   refine zb0 (fun z=>by omega) ?_
   refine rA _ kn b (k8+1+1) pl lc ps _ _ H7 aU t7 (s6 _ _ g5) (by omega) (by omega) ba bJ bY ai ak al ok wr aO (by omega) ?_
   intro pl lc ps v7 k' H9 A1 A2 A3 A4 A5 A6 A7 A8 A9 B1 B2 B3 B4
   exact⟨pl,lc,ps,k',_,_,_,_,rfl,A1,A2,A3,by omega,by omega,A6,A7,A8,A9,B1,B2,B3,B4⟩
 ·rintro σ H3 ⟨pl,lc,ps,k8,v5,v6,v7,v8,rfl,aq,t3,am,bF,b7,aG,av,ar,ai,ak,al,ok,wr⟩
  exact⟨_,rfl,q lc pl ps k8 H3 aq t3 am bF (by omega) aG av ar ai ak al ok wr⟩
theorem zec(T:Txt K mg a d):FnOk P w K mg base CX0 19 a.f_Choice___init__ d.f_Choice___init__ ["self", "wood"] (zx4 a.x_Choice):=by
 have aa:=ze3 (P:=P) (w:=w) (base:=base) T
 refine T.K_Choice___init__.ok zg6 (fun vs H Q E h=>?_) (fun cdv A outer s H vs Q E hr h=>?_)
 ·obtain⟨c,dx,wd,m,ts,rfl,_⟩:=h
  rfl
 obtain⟨c,dx,wd,m,ts,rfl,hc,W,m9,m1,⟨sw,sm,sW⟩,q⟩:=h
 refine⟨_,(zae (za7 (zap zmy (zag aa hr.lv rfl T.K_first_ware_at (zaa (pv 1) (zaa (zbb zac) zac))) zcu (zau _)) (zai zh0) za1)
   (zae (zpx (pv 0) (pv 1) rfl)
   (zai (zpx (pv 0) (zbb zac) rfl)))),?_⟩
 refine⟨_,rfl,zaq (by show 0≤1000;decide),fun l1 ak=>?_⟩
 have s1:=zad ak (.lst [])
 have h1:L2.upd H l1 (.lst []) l1=some (.lst []):=zab
 generalize L2.upd H l1 (.lst [])=H1 at s1 h1 ⊢
 refine⟨wd,l1,m,ts,[],rfl,W.same s1,m9,m1,⟨⟨[],h1,rfl⟩,by decide,(fun _ z=>nomatch z)⟩,zq8 m1,fun H2 o s2 ho=>?_⟩
 obtain⟨s0,rfl⟩:=zj4 ho ⟨sw,sm,zuo sW,sW⟩
 refine⟨rfl,_,rfl,?_⟩
 refine zb0 (fun z=>nomatch z) ?_
 have ae:=s1.trans s2
 have af:H2 c=some (.ins a.x_Choice dx []):=ae _ _ hc
 refine⟨_,rfl,_,rfl,c,_,_,_,rfl,af,T.C_Choice,T.n_Choice_wood,by decide,?_⟩
 have t3:=zd7 (o':=.ins a.x_Choice dx [(("wood" : Str),.ref wd)]) af (fun _ z=>nomatch z)
 have ah:L2.upd H2 c (.ins a.x_Choice dx [(("wood" : Str),.ref wd)]) c=some (.ins a.x_Choice dx [(("wood" : Str),.ref wd)]):=zab
 refine⟨zaq (by show 0≤1000;decide),fun l2 aj=>?_⟩
 have ad:L2.upd H2 c (.ins a.x_Choice dx [(("wood" : Str),.ref wd)]) l2=none:=aj
 have s4:=zad ad (.lst [])
 have h4:L2.upd (L2.upd H2 c (.ins a.x_Choice dx [(("wood" : Str),.ref wd)])) l2 (.lst []) l2=some (.lst []):=zab
 have ag:L2.upd (L2.upd H2 c (.ins a.x_Choice dx [(("wood" : Str),.ref wd)])) l2 (.lst []) c=some (.ins a.x_Choice dx [(("wood" : Str),.ref wd)]):=s4 _ _ ah
 have ai:l2≠c:=fun z=>by rw[z,ah] at ad;cases ad
 refine⟨_,rfl,c,_,_,_,rfl,ag,T.C_Choice,T.n_Choice_picks,(by show 1<1000;decide),?_⟩
 refine q l2 _ (zak (zak (zak (Same.tup ae) t3) (Same.tup s4)) (zd7 ag (fun _ z=>nomatch z))) (zff (zff (zff (zmp ae) (zke (o':=.ins a.x_Choice dx [(("wood" : Str),.ref wd)]) af (fun _ z=>nomatch z))) (zmp s4)) (zke ag (fun _ z=>nomatch z))) (ze5 (ze5 (ze5 (zka ae) (zgq af)) (zka s4)) (zgq ag)) (ae.free (by rw[zal ai] at ad;exact ad)) zab ⟨⟨[],?_,rfl⟩,by decide,(fun _ z=>nomatch z)⟩
 rw[zal ai]
 exact h4
theorem zev(T:Txt K mg a d):FnOk P w K mg base CX0 20 a.f_Choice_offers d.f_Choice_offers ["self"] (zu1 a.x_Choice):=by
 have ad:=zg7 (P:=P) (w:=w) (base:=base) T
 have aa:=zfy (P:=P) (w:=w) (base:=base) T
 refine T.K_Choice_offers.ok sc_Choice_offers (fun vs H Q E h=>?_) (fun cdv A outer s H vs Q E hr h=>?_)
 ·obtain⟨c,dx,wd,pl,m,ts,ps,rfl,_⟩:=h
  rfl
 obtain⟨c,dx,wd,pl,m,ts,ps,rfl,hc,PA,W,m9,m1,aF,S,q⟩:=h
 have of:=zc8 m (zaj ps) (zao ps)
 refine⟨_,(zae (zar (i:=1) sc_Choice_offers.nd rfl (Or.inl rfl) (zbb zac))
   (zae (zb6 PassesOwn.never rfl (piL (K:=K) (zag ad hr.lv rfl T.K_open_at (zaa (zb8 (pv 0) rfl) (zaa (zb8 (pv 0) rfl) zac)))) (zan (i:=2) sc_Choice_offers.nd rfl (Or.inl rfl)) (zai (zca (zes (K:=K) PySem.F.plainAttrs_list PySem.F.slot_list_extend PySem.F.type_list_extend zsw (pv 1) (zaa (zbb (zaa (zbc (zaa (pv 2) (zaa zfv zac))) (zaa (zbc (zaa (pv 2) (zaa zfv zac))) zac))) zac)))))
   (zai (zaw (zdu (N':=["pair", "self"]) (n:=1) (kp:=[0]) rfl (piL (K:=K) (pv 1)) rfl rfl rfl (fun _ _ _ _ _=>(zan (i:=0) (of_decide_eq_true rfl) rfl (Or.inl rfl))) (fun _ _ _ _ _=>(zbv (zcv (zag aa hr.lv rfl T.K_leads_on (zaa (zrf (K:=K) (pv 1) rfl) (zaa (zrf (K:=K) (pv 1) rfl) (zaa (pv 0) zac))))))) (fun _ _ _ _ _=>(pv 0))))))),?_⟩
 refine⟨zaq (by show 0≤1000;decide),fun lp av=>?_⟩
 have s1:=zad av (.lst [])
 have h1:L2.upd H lp (.lst []) lp=some (.lst []):=zab
 generalize L2.upd H lp (.lst [])=H1 at s1 h1 ⊢
 have ap:H1 c=some (.ins a.x_Choice dx (chF wd pl)):=s1 _ _ hc
 obtain⟨aE,ax,WA,_⟩:=(W.same s1).ex
 refine⟨_,rfl,c,_,_,_,_,rfl,ap,T.C_Choice,T.n_Choice_wood,rfl,_,rfl,c,_,_,_,_,rfl,ap,T.C_Choice,T.n_Choice_picks,rfl,?_⟩
 refine⟨wd,pl,m,aE,ax,ps,rfl,WA,by omega,PA.same s1,fun lo H2 s2 ar ao=>?_⟩
 have aD:=s1.trans s2
 have h2:H2 lp=some (.lst []):=s2 _ _ h1
 refine⟨lo,rfl,⟨_,SqL.of ao⟩,?_⟩
 refine zce (K:=K) (a:=lo) (xs:=zam (zaz m (zaj ps) (zao ps))) (fun i σ H3=>∃(v2:Option V)(zs:List V),σ=[some (.ref c),some (.ref lp),v2]∧Same H H3∧H3 lo=some (.lst (zam (zaz m (zaj ps) (zao ps))))∧H3 lp=some (.lst zs)∧PickL H3 (ze4 ((zaz m (zaj ps) (zao ps)).take i)) zs) ⟨none,[],rfl,aD,ao,h2,rfl⟩ (fun i σ H3 _ z=>?_) ?_ ?_
 ·obtain⟨_,_,_,_,h,_⟩:=z
  exact SqL.of h
 ·rintro i x σ H3 hx ⟨v2,zs,rfl,s3,ai,ae,ag⟩
  rw[List.getElem?_map] at hx
  obtain⟨k,hk,rfl⟩:=Option.map_eq_some_iff.mp hx
  have il:=(List.getElem?_eq_some_iff.mp hk).1
  have et:(zaz m (zaj ps) (zao ps)).take (i+1)=(zaz m (zaj ps) (zao ps)).take i++[k]:=by rw[List.take_add_one,hk,Option.toList_some]
  have lz:=ag.length
  rw[zoj,List.length_take] at lz
  refine⟨_,rfl,.inl ⟨rfl,_,SqL.of ae⟩,?_⟩
  refine⟨_,rfl,zaq (by show 2≤1000;decide),fun a1 aC=>?_⟩
  have sA:=zad aC (.tup [.int (k:Int),.bl false])
  have gA:L2.upd H3 a1 (.tup [.int (k:Int),.bl false]) a1=some (.tup [.int (k:Int),.bl false]):=zab
  generalize L2.upd H3 a1 (.tup [.int (k:Int),.bl false])=HA at sA gA ⊢
  refine⟨_,rfl,zaq (by show 2≤1000;decide),fun a2 aA=>?_⟩
  have sB:=zad aA (.tup [.int (k:Int),.bl true])
  have gB:L2.upd HA a2 (.tup [.int (k:Int),.bl true]) a2=some (.tup [.int (k:Int),.bl true]):=zab
  generalize L2.upd HA a2 (.tup [.int (k:Int),.bl true])=HB at sB gB ⊢
  refine⟨zaq (by show 2≤1000;decide),fun a3 aB=>?_⟩
  have sC:=zad aB (.lst [.ref a1,.ref a2])
  have gC:L2.upd HB a3 (.lst [.ref a1,.ref a2]) a3=some (.lst [.ref a1,.ref a2]):=zab
  generalize L2.upd HB a3 (.lst [.ref a1,.ref a2])=HC at sC gC ⊢
  have ak:=sA.trans (sB.trans sC)
  have af:HC lp=some (.lst zs):=ak _ _ ae
  have am:HC lo=some (.lst (zam (zaz m (zaj ps) (zao ps)))):=ak _ _ ai
  have al:lo≠lp:=fun z=>by rw[z,h1] at ar;cases ar
  refine⟨lp,a3,_,_,rfl,rfl,af,gC,zaq (by show zs.length+2≤1000;omega),?_⟩
  have tD:=zd7 (o':=.lst (zs++[.ref a1,.ref a2])) af (fun _ z=>nomatch z)
  refine⟨some (.int (k:Int)),zs++[.ref a1,.ref a2],rfl,Same.put (s3.trans ak) av af,by rw[zal al];exact am,zab,?_⟩
  have z:=PickL.snoc (p:=(k,true)) (tD _ _ (sC _ _ gB)) (PickL.snoc (p:=(k,false)) (tD _ _ ((sB.trans sC) _ _ gA)) ((ag.same (Same.tup ak)).same tD))
  rw[List.append_assoc,List.append_assoc] at z
  rw[et,zr5]
  exact z
 ·rintro σ H3 ⟨v2,zs,rfl,s3,ai,ae,ag⟩
  rw[List.length_map,List.take_length] at ag
  have lz:=ag.length
  rw[zoj] at lz
  have ay:H3 c=some (.ins a.x_Choice dx (chF wd pl)):=s3 _ _ hc
  refine⟨_,rfl,lp,rfl,⟨_,SqL.of ae⟩,?_⟩
  refine zbx (K:=K) (a:=lp) (xs:=zs) (fun i ys σ H4=>(∃v,σ=[v,some (.ref c)])∧Same H3 H4∧ys.length≤i∧PickL H4 (((ze4 (zaz m (zaj ps) (zao ps))).take i).filter fun p=>zch ts m (zaj (ps++[p])) (zao (ps++[p]))) ys) ⟨⟨none,rfl⟩,Same.refl _,Nat.le_refl _,rfl⟩ (fun i ys σ H4 hi pv=>?_) (fun i ys σ H4 hi pv=>?_) (fun i x ys σ H4 hx pv=>?_) (fun ys σ H4 pv l hl=>?_)
  ·exact zaq (by have:=pv.2.2.1;omega)
  ·exact SqL.of (pv.2.1 _ _ ae)
  ·obtain⟨⟨v,rfl⟩,s4,h4,ah⟩:=pv
   obtain⟨p,t,hp,rfl,ht⟩:=ag.get hx
   have po:=zo3 (List.mem_of_getElem? hp)
   have pm:=(mem_open.mp po).1
   have et:(ze4 (zaz m (zaj ps) (zao ps))).take (i+1)=(ze4 (zaz m (zaj ps) (zao ps))).take i++[p]:=by rw[List.take_add_one,hp,Option.toList_some]
   have aw:H4 c=some (.ins a.x_Choice dx (chF wd pl)):=s4 _ _ ay
   have aj:=s3.trans s4
   have aq:H4 t=some (.tup [.int (p.1:Int),.bl p.2]):=s4 _ _ ht
   refine⟨_,rfl,c,_,_,_,_,rfl,aw,T.C_Choice,T.n_Choice_wood,rfl,_,rfl,c,_,_,_,_,rfl,aw,T.C_Choice,T.n_Choice_picks,rfl,_,rfl,?_⟩
   refine⟨wd,pl,t,m,ts,ps,p,rfl,W.same aj,m9,m1,PA.same aj,by omega,by omega,aq,zqe S po,fun H5 o s5 ho=>?_⟩
   rw[zjx ho]
   refine⟨_,rfl,?_⟩
   refine zcw (fun cl=>?_) (fun cl=>?_)
   ·refine⟨_,rfl,⟨_,rfl⟩,s4.trans s5,by rw[List.length_append,List.length_singleton];omega,?_⟩
    rw[et,List.filter_append,List.filter_cons_of_pos (p:=fun p=>zch ts m (zaj (ps++[p])) (zao (ps++[p]))) (a:=p) cl]
    exact PickL.snoc (p:=p) (s5 _ _ aq) (ah.same (Same.tup s5))
   ·refine⟨⟨_,rfl⟩,s4.trans s5,by omega,?_⟩
    rw[et,List.filter_append,List.filter_cons_of_neg (p:=fun p=>zch ts m (zaj (ps++[p])) (zao (ps++[p]))) (a:=p) cl,List.filter_nil,List.append_nil]
    exact ah.same (Same.tup s5)
  ·obtain⟨_,s4,_,ah⟩:=pv
   rw[←ag.length,List.take_length] at ah
   have s5:=zad hl (.lst ys)
   have aj:=s3.trans s4
   exact q l ys _ (aj.trans s5) (aj.free hl) zab (ah.same (Same.tup s5))
theorem zg1(T:Txt K mg a d)(LB:zkp mg base a.c_cases_of a.t_cases_of):FnOk P w K mg base CX0 21 a.f_Choice_why d.f_Choice_why ["self", "k", "value"] (spT a.t_cases_of (zyn a.x_Choice)):=by
 have ae:=zg7 (P:=P) (w:=w) (base:=base) T
 have ad:=zfy (P:=P) (w:=w) (base:=base) T
 have aa:=zk7 (P:=P) (w:=w) (base:=base) T LB
 refine T.K_Choice_why.ok zlo (fun vs H Q E h=>?_) (fun cdv A outer s H vs Q E hr h=>?_)
 ·obtain⟨_,c,dx,wd,pl,m,ts,ps,k,b,rfl,_⟩:=h
  rfl
 obtain⟨tb,c,dx,wd,pl,m,ts,ps,k,b,rfl,hc,PA,W,m9,m1,ai,ok,ko,q⟩:=h
 have p9:=ok.len
 have km:=mem_openP.mp ko
 obtain⟨ao,aj,WA,_⟩:=W.ex
 refine⟨_,(zae (za7 (zap zd1 (pv 1) (zag ae hr.lv rfl T.K_open_at (zaa (zb8 (pv 0) rfl) (zaa (zb8 (pv 0) rfl) zac))) (by with_unfolding_all rfl)) (zai zh0) za1)
   (zae (za7 (zcv (zag ad hr.lv rfl T.K_leads_on (zaa (zb8 (pv 0) rfl) (zaa (zb8 (pv 0) rfl) (zaa (zbc (zaa (pv 1) (zaa (pv 2) zac))) zac))))) (zai (zaw zcu)) za1)
   (zai (zaw (zag aa hr.lv rfl T.K_why_barred (zaa (zb8 (pv 0) rfl) (zaa (zb8 (pv 0) rfl) (zaa (zbc (zaa (pv 1) (zaa (pv 2) zac))) zac)))))))),?_⟩
 refine⟨_,rfl,_,rfl,c,_,_,_,_,rfl,hc,T.C_Choice,T.n_Choice_wood,rfl,_,rfl,c,_,_,_,_,rfl,hc,T.C_Choice,T.n_Choice_picks,rfl,?_⟩
 refine⟨wd,pl,m,ao,aj,ps,rfl,WA,by omega,PA,fun l H1 s1 nl hl=>?_⟩
 refine⟨l,_,rfl,.inl (SqL.of hl),rfl,zgo _,_,rfl,?_⟩
 refine zrm (show(!inV (.int (k:Int)) (zam (zaz m (zaj ps) (zao ps))))=false by rw[zf5,decide_eq_true ko];rfl) ?_
 have af:H1 c=_:=s1 _ _ hc
 refine⟨_,rfl,c,_,_,_,_,rfl,af,T.C_Choice,T.n_Choice_wood,rfl,_,rfl,c,_,_,_,_,rfl,af,T.C_Choice,T.n_Choice_picks,rfl,_,rfl,_,rfl,zaq (by show 2≤1000;decide),fun tp al=>?_⟩
 have s2:=s1.trans (zad al (.tup [.int (k:Int),.bl b]))
 have h2:L2.upd H1 tp (.tup [.int (k:Int),.bl b]) tp=some (.tup [.int (k:Int),.bl b]):=zab
 generalize L2.upd H1 tp (.tup [.int (k:Int),.bl b])=H2 at s2 h2 ⊢
 refine⟨wd,pl,tp,m,ts,ps,(k,b),rfl,W.same s2,m9,m1,PA.same s2,by omega,by show k≤20;omega,h2,(ok.snoc ko).stand m1,fun H3 o s3 ho=>?_⟩
 have e:=zjx ho
 refine⟨_,rfl,?_⟩
 by_cases z:o.isSome=true
 ·rw[z] at e ⊢
  refine zkg ?_
  exact q _ _ (s2.trans s3) (fun _=>rfl) (fun z=>by rw[←e] at z;cases z)
 ·rw[Bool.eq_false_iff.mpr z] at e ⊢
  refine zgb ?_
  have ah:=s2.trans s3
  have ag:H3 c=_:=ah _ _ hc
  refine⟨_,rfl,c,_,_,_,_,rfl,ag,T.C_Choice,T.n_Choice_wood,rfl,_,rfl,c,_,_,_,_,rfl,ag,T.C_Choice,T.n_Choice_picks,rfl,_,rfl,_,rfl,zaq (by show 2≤1000;decide),fun tq am=>?_⟩
  have s4:=ah.trans (zad am (.tup [.int (k:Int),.bl b]))
  have h4:L2.upd H3 tq (.tup [.int (k:Int),.bl b]) tq=some (.tup [.int (k:Int),.bl b]):=zab
  generalize L2.upd H3 tq (.tup [.int (k:Int),.bl b])=H4 at s4 h4 ⊢
  refine⟨s4.tab tb,wd,pl,tq,m,ts,ps,(k,b),rfl,W.same s4,ai,m9,PA.same s4,by omega,ok.nd,h4,by show k≤20;omega,fun v H5 ak sp s5 wy=>?_⟩
  exact q _ _ (s4.trans s5) (fun z=>by rw[←e] at z;cases z) (fun _=>⟨ak,sp,wy⟩)
theorem zn4(T:Txt K mg a d)(LB:zkp mg base a.c_cases_of a.t_cases_of):FnOk P w K mg base CX0 24 a.f_law_anew d.f_law_anew ["_law_wood_here", "_law_left", "_law_put"] (zxc a.t_cases_of):=by
 have ag:=zg0 (P:=P) (w:=w) (base:=base) T
 have ad:=zec (P:=P) (w:=w) (base:=base) T
 have aa:=zev (P:=P) (w:=w) (base:=base) T
 have ae:=zdb (P:=P) (w:=w) (base:=base) T
 have af:=zg1 (P:=P) (w:=w) (base:=base) T LB
 refine T.K_law_anew.ok sc_law_anew (fun vs H Q E h=>?_) (fun cdv A outer s H vs Q E hr h=>?_)
 ·obtain⟨wd,ll,tp,m,ts,ps,p,rfl,_⟩:=h
  rfl
 obtain⟨wd,ll,tp,m,ts,ps,p,rfl,tb,ai,m1,m9,aT,PL,ax,aQ,L,q⟩:=h
 have ah:PickOk m ps:=ax.subl (List.sublist_append_left _ _)
 have p9:=ah.len
 have aK:=ax.in_ p (List.mem_append.mpr (.inr (List.mem_singleton.mpr rfl)))
 have aY:p.1∈zaz m (zaj ps) (zao ps):=mem_openP.mpr ⟨aK.2,aK.1,fun z=>by
  have nd:=ax.nd
  rw[List.map_append,List.nodup_append] at nd
  exact nd.2.2 p.1 z p.1 (List.mem_singleton.mpr rfl) rfl⟩
 refine⟨_,(zae (za7 (zap zmy (zag ag hr.lv rfl T.K_first_ware (zaa (pv 0) (zaa zaf (zaa zaf zac)))) zcu (zau _)) (zai (zaw zfv)) za1)
   (zae (zar (i:=3) sc_law_anew.nd rfl (Or.inl rfl) (znt T.g_Choice___init__ ad hr.lv rfl T.g_Choice T.K_Choice___init__.B .nil zc1 (zaa (pv 0) zac)))
   (zae (zb6 PassesOwn.never rfl (piL (K:=K) (pv 1)) (pgT (K:=K) (n:=2) rfl (za0 (zan (i:=4) sc_law_anew.nd rfl (Or.inl rfl)) (za0 (zan (i:=5) sc_law_anew.nd rfl (Or.inl rfl)) zbq))) (zae (za7 (zap (zdh hr.units65) (zbc (zaa (pv 4) (zaa (pv 5) zac))) (ze8 (pv 3) T.C_Choice T.g_Choice_offers aa hr.lv T.K_Choice_offers.B .nil zc1) (by with_unfolding_all rfl)) (zai (zaw zfv)) za1)
   (zai (zca (zfq (pv 3) T.C_Choice T.g_Choice_choose ae hr.lv T.K_Choice_choose.B .nil zc1 (zaa (pv 4) (zaa (pv 5) zac)))))))
   (zai (zaw (zeo (zbo (zdh hr.units65) (pv 2) (ze8 (pv 3) T.C_Choice T.g_Choice_offers aa hr.lv T.K_Choice_offers.B .nil zc1) (by with_unfolding_all rfl)) (zfj (zbo zgt (zfq (pv 3) T.C_Choice T.g_Choice_why af hr.lv T.K_Choice_why.B .nil zc1 (zaa (zax (ixT (K:=K)) (pv 2) zaf (fun _ _=>rfl)) (zaa (zax (ixT (K:=K)) (pv 2) zaf (fun _ _=>rfl)) zac))) zcu (zau _))))))))),?_⟩
 refine⟨_,rfl,wd,m,ts,1,0,rfl,ai H (zd4 H),m9,m1,zq8 m1,fun H1 o s1 ho=>?_⟩
 refine⟨rfl,_,rfl,?_⟩
 cases o with
 |none=>
  refine zgw rfl ?_
  exact q _ ((KeepA.refl _ H).same s1) (Same.tup s1)
 |some s0=>
 refine zb0 (by intro z;cases z) ?_
 refine⟨_,rfl,fun x dx hx aW nd=>?_⟩
 have t1:=zad aW (.own x)
 have t2:=t1.trans (zad (show L2.upd H1 dx (.own x) x=none by rw[zal (Ne.symm nd)];exact hx) (.ins a.x_Choice dx []))
 have aI:L2.upd (L2.upd H1 dx (.own x)) x (.ins a.x_Choice dx []) x=some (.ins a.x_Choice dx []):=zab
 generalize L2.upd (L2.upd H1 dx (.own x)) x (.ins a.x_Choice dx [])=H2 at t2 aI ⊢
 have s2:=s1.trans t2
 refine⟨x,dx,wd,m,ts,rfl,aI,ai _ (Same.tup s2),m9,m1,⟨s0,ho.1,ho.2.2.1⟩,fun pl H3 t3 l3 c3 n3 aR aX=>⟨rfl,?_⟩⟩
 have xn:H x=none:=s1.free hx
 have aG:H pl=none:=s2.free n3
 have aJ:=((KeepA.refl [] H).same s2).ch c3 (.inr xn)
 have aN:=zak (Same.tup s2) t3
 obtain⟨ls,ar,aE⟩:=PL.ex
 have aO:=aE.length
 have bd:ll≠pl:=fun z=>by rw[z,aG] at ar;cases ar
 have aB:H3 ll=some (.lst ls):=aJ.lst (fun z=>nomatch z) ar
 refine⟨_,rfl,ll,rfl,⟨_,SqL.of aB⟩,?_⟩
 refine zce (K:=K) (a:=ll) (xs:=ls) (fun i σ H4=>(∃v4 v5:Option V,σ=[some (.ref wd),some (.ref ll),some (.ref tp),some (.ref x),v4,v5])∧KeepA [] H H4∧zcp H H4∧H4 x=some (.ins a.x_Choice dx (chF wd pl))∧PicksAt H4 pl (ps.take i)) ⟨⟨none,none,rfl⟩,aJ,aN,aR,aX⟩ (fun i σ H4 _ z=>SqL.of (z.2.1.lst (fun z=>nomatch z) ar)) ?_ ?_
 ·rintro i xv σ H4 bb ⟨⟨v4,v5,rfl⟩,ap,t4,aq,am⟩
  obtain⟨r,t,hr,rfl,ht⟩:=(aE.same t4).get bb
  have et:ps.take (i+1)=ps.take i++[r]:=by rw[List.take_add_one,hr,Option.toList_some]
  have aD:=List.mem_of_getElem? hr
  have aF:PickOk m (ps.take i++[r]):=by rw[←et];exact ah.subl (List.take_sublist _ _)
  have aM:PickOk m (ps.take i):=ah.subl (List.take_sublist _ _)
  have l0:=aM.len
  have aU:r.1∈zaz m (zaj (ps.take i)) (zao (ps.take i)):=mem_openP.mpr ⟨(ah.in_ r aD).2,(ah.in_ r aD).1,fun z=>by
   have nd:=aF.nd
   rw[List.map_append,List.nodup_append] at nd
   exact nd.2.2 r.1 z r.1 (List.mem_singleton.mpr rfl) rfl⟩
  refine⟨t,_,rfl,sqT ht,rfl,_,_,rfl,_,_,rfl,rfl,?_⟩
  refine⟨_,rfl,_,rfl,zaq (by show 2≤1000;decide),fun tk ba=>?_⟩
  have s5:=zad ba (.tup [.int (r.1:Int),.bl r.2])
  have g5:L2.upd H4 tk (.tup [.int (r.1:Int),.bl r.2]) tk=some (.tup [.int (r.1:Int),.bl r.2]):=zab
  generalize L2.upd H4 tk (.tup [.int (r.1:Int),.bl r.2])=H5 at s5 g5 ⊢
  have aC:=s5 _ _ aq
  have aH:=am.same s5
  have t5:=zak t4 (Same.tup s5)
  refine⟨_,rfl,x,_,_,rfl,aC,rfl,x,dx,wd,pl,m,ts,ps.take i,rfl,aC,aH,ai _ t5,m9,m1,by omega,aM.stand m1,fun lo os H6 s6 aV aw ay=>?_⟩
  refine⟨.tuple [.int (r.1:Int),.bool r.2],(zi8 ts m (ps.take i)).map za9,⟨tk,_,rfl,s6 _ _ g5,_,_,rfl,rfl,_,_,rfl,rfl,rfl⟩,⟨lo,_,rfl,aw,ay.dn⟩,zfi _ _,zbf _,_,rfl,?_⟩
  have al:=s5.trans s6
  refine zcw (fun ca=>?_) (fun ca=>?_)
  ·exact q _ (ap.same al) (zak t4 (Same.tup al))
  ·rw[Bool.not_eq_true',Bool.not_eq_false] at ca
   obtain⟨kn,ek,av⟩:=(zil _ _ _).mp ca
   have aA:=Int.ofNat.inj ek
   have wr:=leadP_iff.mp (mem_offL.mp av).2
   rw[←aA] at wr
   have aj:=s6 _ _ aC
   have aP:=PL.le r aD
   refine⟨_,rfl,x,_,_,rfl,aj,rfl,_,rfl,_,rfl,x,dx,wd,pl,m,ts,ps.take i,r.1,r.2,rfl,aj,aH.same s6,ai _ (zak t4 (Same.tup al)),m9,m1,by omega,aP,aU,aF.stand m1,wr,fun H7 t7 c7 aS aZ=>?_⟩
   refine⟨⟨_,_,rfl⟩,(ap.same al).ch c7 (.inr aG),zak t4 (zak (Same.tup al) t7),aS,?_⟩
   rw[et]
   exact aZ
 ·rintro σ H4 ⟨⟨v4,v5,rfl⟩,ap,t4,aq,am⟩
  rw[←aO,List.take_length] at am
  have ao:H4 tp=some (.tup [.int (p.1:Int),.bl p.2]):=t4 _ _ aQ
  refine⟨_,rfl,_,rfl,x,_,_,rfl,aq,rfl,x,dx,wd,pl,m,ts,ps,rfl,aq,am,ai _ t4,m9,m1,by omega,ah.stand m1,fun lo os H6 s6 aV aw ay=>?_⟩
  refine⟨.tuple [.int (p.1:Int),.bool p.2],(zi8 ts m ps).map za9,⟨tp,_,rfl,s6 _ _ ao,_,_,rfl,rfl,_,_,rfl,rfl,rfl⟩,⟨lo,_,rfl,aw,ay.dn⟩,zfi _ _,zbf _,_,rfl,?_⟩
  have no:((zi8 ts m ps).map za9).any (fun e=>PyData.eqv e (.tuple [.int (p.1:Int),.bool p.2]))=false:=by
   rw[Bool.eq_false_iff]
   intro z
   obtain⟨kn,ek,av⟩:=(zil _ _ _).mp z
   have aA:=Int.ofNat.inj ek
   have:=(mem_offL.mp av).2
   rw[←aA,L] at this
   cases this
  refine zln (by rw[no];rfl) ?_
  have aj:=s6 _ _ aq
  have ak:=s6 _ _ ao
  refine⟨_,rfl,x,_,_,rfl,aj,rfl,_,rfl,tp,_,_,_,rfl,rfl,sqT ak,at0,_,rfl,tp,_,_,_,rfl,rfl,sqT ak,at1,(ap.same s6).tab _ tb,x,dx,wd,pl,m,ts,ps,p.1,p.2,rfl,aj,am.same s6,ai _ (zak t4 (Same.tup s6)),m9,m1,aT,ah,aY,fun v H7 s7 vt vf=>?_⟩
  obtain⟨be,_,wy⟩:=vf L
  obtain⟨qa,_,_,_,_,_,_,_,_,rfl,_⟩:=wy.ex
  refine⟨rfl,?_⟩
  have aL:=s6.trans s7
  exact q _ (ap.same aL) (zak t4 (Same.tup aL))
theorem zmq(T:Txt K mg a d):FnOk P w K mg base CX0 1 a.f_law_shown d.f_law_shown ["_law_broken_here", "_law_ties", "_law_left", "_law_put", "_law_others"] zuq:=by
 refine T.K_law_shown.ok sc_law_shown (fun vs H Q E h=>?_) (fun cdv A outer s H vs Q E hr h=>?_)
 ·obtain⟨lb,lf,lp,tp,ol,m,ts,il,left,p,es,os,rfl,_⟩:=h
  rfl
 obtain⟨lb,lf,lp,tp,ol,m,ts,il,left,p,es,os,rfl,m9,bo,aS,ai,bx,bG,PL,bA,bg,bd,aG,EN,bF,ax,bq,q⟩:=h
 have pw:2^m≤2^9:=Nat.pow_le_pow_right (by decide) m9
 have p9:2^9=512:=by decide
 obtain⟨ls,aW,av⟩:=PL.ex
 have ll:=av.length
 have lo:=EN.len
 refine⟨_,(zae (za7 (zap (zdd hr.units) (zdu (N':=["_law_one", "_law_some"]) (n:=2) (kp:=[]) rfl (piL (K:=K) (pv 4)) rfl rfl rfl (fun _ _ _ _ _=>(pgT (K:=K) (n:=2) rfl (za0 (zan (i:=0) (of_decide_eq_true rfl) rfl (Or.inl rfl)) (za0 (zan (i:=1) (of_decide_eq_true rfl) rfl (Or.inl rfl)) zbq)))) (fun _ _ _ _ _=>zgl) (fun _ _ _ _ _=>(pv 0))) (zav zdp (pv 1) (pv 2)) (zau _)) (zai (zaw zfv)) za1)
   (zae (zb6 PassesOwn.never rfl (piL (K:=K) (pv 4)) (pgT (K:=K) (n:=2) rfl (za0 (zan (i:=5) sc_law_shown.nd rfl (Or.inl rfl)) (za0 (zan (i:=6) sc_law_shown.nd rfl (Or.inr rfl)) zbq))) (zae (zed (i:=7) sc_law_shown.nd rfl rfl rfl (N':=["_law_t", "_law_broken_here", "_law_some"]) (n:=1) (kp:=[0,6]) rfl (piL (K:=K) (pv 1)) rfl rfl rfl (fun _ _ _ _ _=>(zan (i:=0) (of_decide_eq_true rfl) rfl (Or.inl rfl))) (fun _ _ _ _ _=>(zbv (zap zb3 (zav zc6 (zav zet (zax (ixL (K:=K)) (pv 1) (pv 2) (fun _ _=>rfl)) (pv 0)) zaf) zaf (zau _)))) (fun _ _ _ _ _=>(pv 0)))
   (zae (zed (i:=8) sc_law_shown.nd rfl rfl rfl (N':=["_law_choice", "_law_some"]) (n:=1) (kp:=[6]) rfl (piL (K:=K) (zav zdp (pv 2) (zbb (zaa (pv 3) zac)))) rfl rfl rfl (fun _ _ _ _ _=>(zan (i:=0) (of_decide_eq_true rfl) rfl (Or.inl rfl))) (fun _ _ _ _ _=>(zbv (zap zos (zbo zb3 (zav zc6 (zav zet (pv 1) (zax (ixT (K:=K)) (pv 0) zaf (fun _ _=>rfl))) zaf) zaf (zau _)) (zax (ixT (K:=K)) (pv 0) zaf (fun _ _=>rfl)) (zau _)))) (fun _ _ _ _ _=>(pv 0)))
   (zai (za7 (PW.pt (zjr (zap zb3 (zav zc6 (pv 6) zaf) zaf (zau _)) (zid (zap (zdd hr.units) (zav zdp (pv 7) (pv 8)) (zbb (zaa (pv 5) zac)) (zau _))))) (zai (zaw zfv)) za1)))))
   (zai (zaw zfv)))),?_⟩
 refine⟨_,rfl,ol,rfl,⟨_,SqL.of aG⟩,?_⟩
 refine zbx (K:=K) (a:=ol) (xs:=os) (fun i ys σ H2=>(∃v v',σ=[v,v'])∧H2=H∧ys.length=i∧DnL H ((es.take i).map (·.1)) ys) ⟨⟨none,none,rfl⟩,rfl,rfl,rfl⟩ (fun i ys σ H2 hi pv=>?_) (fun i ys σ H2 hi pv=>?_) (fun i x ys σ H2 hx pv=>?_) (fun ys σ H2 pv l1 bv=>?_)
 ·exact zaq (by have:=pv.2.2.1;omega)
 ·rw[pv.2.1]
  exact SqL.of aG
 ·obtain⟨⟨v,v',rfl⟩,rfl,hl,hd⟩:=pv
  have ai:i<es.length:=by
   have:=(List.getElem?_eq_some_iff.mp hx).1
   omega
  obtain⟨qa,vo,e1,e2,e3⟩:=EN.at_ i _ (List.getElem?_eq_getElem ai)
  rw[hx] at e1
  cases e1
  refine⟨qa,_,rfl,sqT e2,rfl,_,_,rfl,_,_,rfl,rfl,?_⟩
  refine⟨_,rfl,⟨_,_,rfl⟩,rfl,by rw[List.length_append,List.length_singleton,hl],?_⟩
  rw[List.take_add_one,List.getElem?_eq_getElem ai,Option.toList_some,List.map_append]
  exact DnL.append hd ⟨_,_,rfl,e3,rfl⟩
 obtain⟨_,rfl,bC,aP⟩:=pv
 rw[lo,List.take_length] at aP
 have s1:=zad bv (.lst ys)
 have g1:L2.upd H2 l1 (.lst ys) l1=some (.lst ys):=zab
 generalize L2.upd H2 l1 (.lst ys)=H1 at s1 g1 ⊢
 have aw:=s1 _ _ aS
 have aE:=s1 _ _ aW
 refine⟨_,rfl,_,rfl,lf,lp,_,_,rfl,rfl,aw,aE,zaq (by rw[List.length_map];omega),fun l2 bh=>?_⟩
 have ba:=zad bh (.lst (zam il++ls))
 have s2:=s1.trans ba
 have g2:L2.upd H1 l2 (.lst (zam il++ls)) l2=some (.lst (zam il++ls)):=zab
 have aR:=ba _ _ g1
 generalize L2.upd H1 l2 (.lst (zam il++ls))=H3 at s2 g2 aR ⊢
 have aa:zie 2 (.list (il.map zfw++left.map za9))=true:=by
  show(il.map zfw++left.map za9).all (zie 1)=true
  rw[List.all_append,zny,zmg]
  rfl
 refine⟨.list (il.map zfw++left.map za9),.list (il.map zfw++left.map za9),⟨l1,_,rfl,aR,?_⟩,⟨l2,_,rfl,g2,DnL.append (zj5 il) (av.same (Same.tup s2)).dn⟩,zdg aa (by decide),zdg aa (by decide),_,rfl,?_⟩
 ·rw[←ax]
  exact DnL.same s2 _ _ aP
 refine zhw (by rw[zj3 aa];rfl) ?_
 have ag:H3 ol=some (.lst os):=s2 _ _ aG
 have bu:=EN.same s2
 have aN:=s2 _ _ bo
 have aA:=s2 _ _ aS
 have aF:=s2 _ _ aW
 have bj:=av.same (Same.tup s2)
 have aM:=s2 _ _ bd
 refine⟨_,rfl,ol,rfl,⟨_,SqL.of ag⟩,?_⟩
 refine zce (K:=K) (a:=ol) (xs:=os) (fun i σ H4=>(∃v5 v6 v7 v8:Option V,σ=[some (.ref lb),some (.ref lf),some (.ref lp),some (.ref tp),some (.ref ol),v5,v6,v7,v8])∧Same H3 H4) ⟨⟨none,none,none,none,rfl⟩,Same.refl _⟩ (fun i σ H4 _ z=>SqL.of (z.2 _ _ ag)) ?_ ?_
 rotate_left
 ·rintro σ H4 ⟨⟨v5,v6,v7,v8,rfl⟩,s4⟩
  exact q _ (s2.trans s4)
 rintro i x σ H4 hx ⟨⟨v5,v6,v7,v8,rfl⟩,s4⟩
 have ah:i<es.length:=by
  have:=(List.getElem?_eq_some_iff.mp hx).1
  omega
 obtain⟨qa,vo,e1,e2,e3⟩:=(bu.same s4).at_ i _ (List.getElem?_eq_getElem ah)
 rw[hx] at e1
 cases e1
 obtain⟨em,e0,ap⟩:=bq es[i] (List.getElem_mem ah)
 generalize es[i]=e at e2 e3 em e0 ap
 obtain⟨ed,sx⟩:=e
 simp only at e2 e3 em e0 ap
 refine⟨qa,_,rfl,sqT e2,rfl,_,_,rfl,_,_,rfl,rfl,?_⟩
 have aB:=s4 _ _ aN
 have ae:=s4 _ _ aA
 have aI:=s4 _ _ aF
 have aD:=s4 _ _ aM
 have bf:=bj.same (Same.tup s4)
 refine⟨_,rfl,lf,rfl,⟨_,SqL.of ae⟩,?_⟩
 refine zvy (K:=K) (a:=lf) (l:=il) (σr:=[some (.ref lb),some (.int (sx:Int))]) (fun t=>!zbj ts t sx) rfl ae (by omega) (fun t ht R r=>?_) (fun bl bw=>?_)
 ·have tt:=ai t ht
  refine⟨_,rfl,_,rfl,lb,_,_,_,rfl,rfl,SqL.of aB,zq9 (f:=fun s=>brk ts s ts.length) em,_,rfl,_,_,rfl,rfl,by omega,_,_,rfl,rfl,rfl,_,rfl,?_⟩
  rw[zf6,zpv tt]
  exact r
 have aV:=zad bw (.lst (zam (il.filter fun t=>!zbj ts t sx)))
 have g5:L2.upd H4 bl (.lst (zam (il.filter fun t=>!zbj ts t sx))) bl=some (.lst (zam (il.filter fun t=>!zbj ts t sx))):=zab
 generalize L2.upd H4 bl (.lst (zam (il.filter fun t=>!zbj ts t sx)))=H5 at aV g5 ⊢
 refine⟨_,rfl,_,rfl,zaq (by show 1≤1000;decide),fun lk bi=>?_⟩
 have aL:=zad bi (.lst [.ref tp])
 have aJ:=aV.trans aL
 have g6:L2.upd H5 lk (.lst [.ref tp]) lk=some (.lst [.ref tp]):=zab
 have aZ:=aL _ _ g5
 generalize L2.upd H5 lk (.lst [.ref tp])=H6 at aL aJ g6 aZ ⊢
 refine⟨lp,lk,_,_,rfl,rfl,aJ _ _ aI,g6,zaq (by rw[List.length_singleton];omega),fun lw be=>?_⟩
 have ay:=zad be (.lst (ls++[.ref tp]))
 have al:=aJ.trans ay
 have g7:L2.upd H6 lw (.lst (ls++[.ref tp])) lw=some (.lst (ls++[.ref tp])):=zab
 have aU:=ay _ _ aZ
 generalize L2.upd H6 lw (.lst (ls++[.ref tp]))=H7 at ay al g7 aU ⊢
 have aj:PickL H7 (left++[p]) (ls++[.ref tp]):=PickL.snoc (al _ _ aD) (bf.same (Same.tup al))
 have l7:=aj.length
 have af:∀c∈left++[p],c.1≤20:=fun c hc=>by
  rcases List.mem_append.mp hc with z|z
  ·exact PL.le c z
  ·rw[List.mem_singleton.mp z];exact bg
 have aH:(left++[p]).length≤20:=by rw[List.length_append,List.length_singleton];omega
 generalize left++[p]=ad at aj l7 af aH ap
 generalize ls++[V.ref tp]=br at aj l7 g7
 refine⟨lw,rfl,⟨_,SqL.of g7⟩,?_⟩
 refine zbx (K:=K) (a:=lw) (xs:=br) (fun i ys σ H8=>(∃v,σ=[v,some (.int (sx:Int))])∧H8=H7∧ys.length≤i∧PickL H7 ((ad.take i).filter fun c=>!decide (sx.testBit c.1=c.2)) ys) ⟨⟨none,rfl⟩,rfl,Nat.le_refl _,rfl⟩ (fun i ys σ H8 hi pv=>?_) (fun i ys σ H8 hi pv=>?_) (fun i x ys σ H8 hx pv=>?_) (fun ys σ H8 pv lz bt=>?_)
 ·exact zaq (by have:=pv.2.2.1;omega)
 ·rw[pv.2.1]
  exact SqL.of g7
 ·obtain⟨⟨v,rfl⟩,rfl,h1,h2⟩:=pv
  obtain⟨c,t,hc,rfl,ht⟩:=aj.get hx
  have bE:=af c (List.mem_of_getElem? hc)
  have et:(ad.take (i+1)).filter (fun c=>!decide (sx.testBit c.1=c.2))=(ad.take i).filter (fun c=>!decide (sx.testBit c.1=c.2))++(if sx.testBit c.1=c.2 then [] else [c]):=by
   rw[List.take_add_one,hc,Option.toList_some,List.filter_append]
   by_cases z:sx.testBit c.1=c.2<;>simp[z]
  refine⟨_,rfl,_,rfl,t,_,_,_,rfl,rfl,sqT ht,at0,_,_,rfl,rfl,by omega,_,_,rfl,rfl,rfl,_,rfl,t,_,_,_,rfl,rfl,sqT ht,at1,rfl,_,rfl,?_⟩
  rw[zf6]
  by_cases z:sx.testBit c.1=c.2
  ·refine zfr (by rw[z]) ?_
   refine⟨⟨_,rfl⟩,rfl,by omega,?_⟩
   rw[et,if_pos z,List.append_nil]
   exact h2
  ·refine zln ?_ ?_
   ·rw[Bool.not_eq_true',decide_eq_false_iff_not]
    intro y
    injection y with y
    exact z y
   ·refine⟨_,rfl,⟨_,rfl⟩,rfl,by rw[List.length_append,List.length_singleton];omega,?_⟩
    rw[et,if_neg z]
    exact PickL.snoc (p:=c) ht h2
 obtain⟨_,rfl,bH,aK⟩:=pv
 rw[←l7,List.take_length] at aK
 have ao:=zad bt (.lst ys)
 have aQ:=al.trans ao
 have g8:L2.upd H8 lz (.lst ys) lz=some (.lst ys):=zab
 have aY:=ao _ _ aU
 generalize L2.upd H8 lz (.lst ys)=H9 at ao aQ g8 aY ⊢
 refine⟨_,rfl,_,_,rfl,rfl,rfl,_,rfl,?_⟩
 refine zb0 (zvq e0) ?_
 have bz:=aK.length
 have bB:(il.filter fun t=>!zbj ts t sx).length≤il.length:=List.length_filter_le _ _
 refine⟨_,rfl,_,rfl,bl,lz,_,_,rfl,rfl,aY,g8,zaq (by rw[List.length_map];omega),fun la bb=>?_⟩
 have aO:=zad bb (.lst (zam (il.filter fun t=>!zbj ts t sx)++ys))
 have aT:=aQ.trans aO
 have g9:L2.upd H9 la (.lst (zam (il.filter fun t=>!zbj ts t sx)++ys)) la=some (.lst (zam (il.filter fun t=>!zbj ts t sx)++ys)):=zab
 generalize L2.upd H9 la (.lst (zam (il.filter fun t=>!zbj ts t sx)++ys))=HA at aO aT g9 ⊢
 refine⟨_,rfl,zaq (by show 1≤1000;decide),fun aq aC=>?_⟩
 have am:=zad aC (.lst [vo])
 have ar:=aT.trans am
 have gA:L2.upd HA aq (.lst [vo]) aq=some (.lst [vo]):=zab
 have aX:=am _ _ g9
 generalize L2.upd HA aq (.lst [vo])=HB at am ar gA aX ⊢
 have bp:=(ao.trans aO).trans am
 have dA:DnL HB ((il.filter fun t=>!zbj ts t sx).map zfw++(ad.filter fun c=>!decide (sx.testBit c.1=c.2)).map za9) (zam (il.filter fun t=>!zbj ts t sx)++ys):=DnL.append (zj5 _) (aK.same (Same.tup bp)).dn
 have ak:zie 2 (.list ((il.filter fun t=>!zbj ts t sx).map zfw++(ad.filter fun c=>!decide (sx.testBit c.1=c.2)).map za9))=true:=by
  show List.all (_++_) (zie 1)=true
  rw[List.all_append,zny,zmg]
  rfl
 rw[ap] at dA ak
 refine⟨.list [ed],.list [ed],⟨la,_,rfl,aX,dA⟩,⟨aq,_,rfl,gA,⟨_,_,rfl,Dn.same ar _ _ e3,rfl⟩⟩,zdg ak (by decide),zdg ak (by decide),_,rfl,?_⟩
 refine zhw (by rw[zj3 ak];rfl) ?_
 exact⟨⟨_,_,_,_,rfl⟩,s4.trans ar⟩
theorem zi6(T:Txt K mg a d):FnOk P w K mg base CX0 3 a.f_Choice_stand d.f_Choice_stand ["self"] (zty a.x_Choice):=by
 have aa:=zcy (P:=P) (w:=w) (base:=base) T
 refine T.K_Choice_stand.ok zi4 (fun vs H Q E h=>?_) (fun cdv A outer s H vs Q E hr h=>?_)
 ·obtain⟨c,dx,wd,pl,ps,rfl,_⟩:=h
  rfl
 obtain⟨c,dx,wd,pl,ps,rfl,hc,PA,q⟩:=h
 refine⟨_,(zai (zaw (zag aa hr.lv rfl T.K_stand_of (zaa (zb8 (pv 0) rfl) zac)))),?_⟩
 refine⟨_,rfl,c,_,_,_,_,rfl,hc,T.C_Choice,T.n_Choice_picks,rfl,?_⟩
 exact⟨pl,ps,rfl,PA,q⟩
theorem zh7(T:Txt K mg a d):FnOk P w K mg base CX0 1 a.f_Choice_chosen d.f_Choice_chosen ["self"] (zs3 a.x_Choice):=by
 refine T.K_Choice_chosen.ok zic (fun vs H Q E h=>?_) (fun cdv A outer s H vs Q E hr h=>?_)
 ·obtain⟨c,dx,wd,pl,ps,rfl,_⟩:=h
  rfl
 obtain⟨c,dx,wd,pl,ps,rfl,hc,PA,q⟩:=h
 obtain⟨xs,aa,pk⟩:=PA.ex
 refine⟨_,(zai (zaw (zbt zfm rfl T.m_list PyProof.Rows.boot_list (zaa (zb8 (pv 0) rfl) zac)))),?_⟩
 refine⟨_,rfl,c,_,_,_,_,rfl,hc,T.C_Choice,T.n_Choice_picks,rfl,pl,_,rfl,.inl (SqL.of aa),fun l hl=>?_⟩
 have s1:=zad hl (.lst xs)
 exact q l _ s1 hl ⟨⟨xs,zab,pk.same (Same.tup s1)⟩,PA.few,PA.le⟩
theorem zxx(T:Txt K mg a d)(LB:zkp mg base a.c_cases_of a.t_cases_of):FnOk P w K mg base CX0 29 a.f_law d.f_law ["_law_script"] (spT a.t_cases_of (zrc K)):=by
 have av:=zov (P:=P) (w:=w) (base:=base) T
 have ae:=zk9 (P:=P) (w:=w) (base:=base) T
 have ax:=ziz (P:=P) (w:=w) (base:=base) T
 have ay:=zdn (P:=P) (w:=w) (base:=base) T
 have ap:=zhl (P:=P) (w:=w) (base:=base) T
 have am:=zlh (P:=P) (w:=w) (base:=base) T
 have aq:=zmq (P:=P) (w:=w) (base:=base) T
 have aj:=zn4 (P:=P) (w:=w) (base:=base) T LB
 have aa:=zec (P:=P) (w:=w) (base:=base) T
 have ad:=zev (P:=P) (w:=w) (base:=base) T
 have ag:=zdb (P:=P) (w:=w) (base:=base) T
 have ah:=zh7 (P:=P) (w:=w) (base:=base) T
 have ai:=zi6 (P:=P) (w:=w) (base:=base) T
 have af:=zg1 (P:=P) (w:=w) (base:=base) T LB
 refine T.K_law.ok sc_law (fun vs H Q E h=>?_) (fun cdv A outer s H vs Q E hr h=>?_)
 ·obtain⟨_,p,ns,rfl,_⟩:=h
  rfl
 obtain⟨ta,sp,ns,rfl,hS,hl,q⟩:=h
 have bY:(2:Int)^62=4611686018427387904:=by decide
 obtain⟨dC,cA,cL⟩:=zvv (X:=(zd2 CX0 P w K mg base ["_law_script", "_law_state", "_law_wood_here", "_law_broken_here", "_law_choice", "_law_chosen", "_law_named", "_law_offers", "_law_puts", "_law_k", "_law_put", "_law_ties", "_law_left", "_law_tree", "_law_others", "_law_fresh", "_law_value", "_law_cross_here"] "law" (zah ze1) a.f_law cdv A outer s H E).nox) (st:=(zba ze1).drop 15) (zae (zar (i:=15) sc_law.nd rfl (Or.inl rfl) (znt T.g_Choice___init__ aa hr.lv rfl T.g_Choice T.K_Choice___init__.B .nil zc1 (zaa (pv 2) zac)))
   (zae (zb6 PassesOwn.never rfl (piL (K:=K) (pv 12)) (pgT (K:=K) (n:=2) rfl (za0 (zan (i:=9) sc_law.nd rfl (Or.inl rfl)) (za0 (zan (i:=16) sc_law.nd rfl (Or.inl rfl)) zbq))) (zai (zca (zfq (pv 15) T.C_Choice T.g_Choice_choose ag hr.lv T.K_Choice_choose.B .nil zc1 (zaa (pv 9) (zaa (pv 16) zac))))))
   (zae (za7 (PW.pt (zjr (zap (zpz hr.units65) (pv 10) (ze8 (pv 15) T.C_Choice T.g_Choice_offers ad hr.lv T.K_Choice_offers.B .nil zc1) (by with_unfolding_all rfl)) (zid (zap zmy (zfq (pv 15) T.C_Choice T.g_Choice_why af hr.lv T.K_Choice_why.B .nil zc1 (zaa (zax (ixT (K:=K)) (pv 10) zaf (fun _ _=>rfl)) (zaa (zax (ixT (K:=K)) (pv 10) zaf (fun _ _=>rfl)) zac))) zcu (zau _))))) (zai (zaw zfv)) za1)
   (zae (zar (i:=17) sc_law.nd rfl (Or.inl rfl) (zbt zcq rfl T.m_tuple PyProof.Rows.boot_tuple (zaa (zdu (N':=["_law_t", "_law_wood_here"]) (n:=1) (kp:=[2]) rfl (piL (K:=K) (pv 11)) rfl rfl rfl (fun _ _ _ _ _=>(zan (i:=0) (of_decide_eq_true rfl) rfl (Or.inl rfl))) (fun _ _ _ _ _=>(zbv (zap zws (pv 0) (za3 (zer (K:=K)) rfl T.m_len PySem.boot_len (zaa (zax (ixT (K:=K)) (pv 1) zaf (fun _ _=>rfl)) zac)) (zau _)))) (fun _ _ _ _ _=>(zax (ixT (K:=K)) (zax (ixT (K:=K)) (pv 1) zaf (fun _ _=>rfl)) (zav zgk (pv 0) (za3 (zer (K:=K)) rfl T.m_len PySem.boot_len (zaa (zax (ixT (K:=K)) (pv 1) zaf (fun _ _=>rfl)) zac))) (fun _ _=>rfl)))) zac)))
   (zai (zaw (zeo (zag aj hr.lv rfl T.K_law_anew (zaa (pv 2) (zaa (zvt (pv 12) (zoy zkm zaf)) (zaa (pv 10) zac)))) (zfj (zag aj hr.lv rfl T.K_law_anew (zaa (zbc (zaa (zax (ixT (K:=K)) (pv 2) zaf (fun _ _=>rfl)) (zaa (zax (ixT (K:=K)) (pv 2) zaf (fun _ _=>rfl)) (zaa (pv 17) zac)))) (zaa (pv 12) (zaa (pv 10) zac))))))))))))
 have bK:∀(pen wd lb x lc ln lo ak tp lf lp ow:Addr)(v9 tv bp bf aV:Option V)(m:Nat)(ts:List Tie)(il:List Nat)(left:List (Nat×Bool))(p:Nat×Bool)(H1:Hp),zcm H1 a.t_cases_of→(∀H',zcp H1 H'→WoodT H' wd m ts)→1≤m→m≤9→ts.length≤29→(∃s,s<2^m∧InS (zaj left) (zao left) s∧zbh ts s=true)→H1 lf=some (.lst (zam il))→(∀i∈il,i<ts.length)→il.length≤29→PicksAt H1 lp left→PickOk m (left++[p])→H1 tp=some (.tup [.int (p.1:Int),.bl p.2])→zcf ts il m (zaj (left++[p])) (zao (left++[p]))=true →
   dC { nx:=fun _ H'=>Q .non H',rt:=Q } [some (.ref sp),some (.ref pen),some (.ref wd),some (.ref lb),some (.ref x),some (.ref lc),some (.ref ln),some (.ref lo),some (.ref ak),v9,some (.ref tp),some (.ref lf),some (.ref lp),tv,some (.ref ow),bp,bf,aV] H1:=by
  intro pen wd lb x0 lc ln lo ak tp lf lp ow v9 tv bp bf aV m ts il left p H1 tb al m1 m9 ba wr aZ bX dQ PL aB aH B
  refine cL _ _ _ ?_
  have bj:=(al H1 (zd4 H1)).ok
  have L:=zvb bj m9 m1 aB B
  have aC:PickOk m left:=aB.subl (List.sublist_append_left _ _)
  have p9:=aC.len
  have eR:=aB.in_ p (List.mem_append.mpr (.inr (List.mem_singleton.mpr rfl)))
  have bw:p.1∈zaz m (zaj left) (zao left):=mem_openP.mpr ⟨eR.2,eR.1,fun z=>by
   have nd:=aB.nd
   rw[List.map_append,List.nodup_append] at nd
   exact nd.2.2 p.1 z p.1 (List.mem_singleton.mpr rfl) rfl⟩
  obtain⟨wa,wm,wi,ww⟩:=wr
  refine⟨_,rfl,fun x dx hx cY nd=>?_⟩
  have t1:=zad cY (.own x)
  have t2:=t1.trans (zad (show L2.upd H1 dx (.own x) x=none by rw[zal (Ne.symm nd)];exact hx) (.ins a.x_Choice dx []))
  have bG:L2.upd (L2.upd H1 dx (.own x)) x (.ins a.x_Choice dx []) x=some (.ins a.x_Choice dx []):=zab
  generalize L2.upd (L2.upd H1 dx (.own x)) x (.ins a.x_Choice dx [])=H2 at t2 bG ⊢
  refine⟨x,dx,wd,m,ts,rfl,bG,al _ (Same.tup t2),m9,m1,⟨wa,wm,ww⟩,fun pl H3 t3 l3 c3 n3 gI dl=>⟨rfl,?_⟩⟩
  have gv:H1 pl=none:=t2.free n3
  have eG:=((KeepA.refl [] H1).same t2).ch c3 (.inr hx)
  have gu:=zak (Same.tup t2) t3
  obtain⟨ls,b7,aU⟩:=PL.ex
  have e8:=aU.length
  have du:H3 lp=some (.lst ls):=eG.lst (fun z=>nomatch z) b7
  refine⟨_,rfl,lp,rfl,⟨_,SqL.of du⟩,?_⟩
  refine zce (K:=K) (a:=lp) (xs:=ls) (fun i σ H4=>(∃v4 v5:Option V,σ=[some (.ref sp),some (.ref pen),some (.ref wd),some (.ref lb),some (.ref x0),some (.ref lc),some (.ref ln),some (.ref lo),some (.ref ak),v4,some (.ref tp),some (.ref lf),some (.ref lp),tv,some (.ref ow),some (.ref x),v5,aV])∧KeepA [] H1 H4∧zcp H1 H4∧H4 x=some (.ins a.x_Choice dx (chF wd pl))∧PicksAt H4 pl (left.take i)) ⟨⟨_,_,rfl⟩,eG,gu,gI,dl⟩ (fun i σ H4 _ z=>SqL.of (z.2.1.lst (fun z=>nomatch z) b7)) ?_ ?_
  ·rintro i xv σ H4 fC ⟨⟨v4,v5,rfl⟩,aQ,t4,aE,aK⟩
   obtain⟨r,t,hr,rfl,ht⟩:=(aU.same t4).get fC
   have et:left.take (i+1)=left.take i++[r]:=by rw[List.take_add_one,hr,Option.toList_some]
   have c9:=List.mem_of_getElem? hr
   have dO:PickOk m (left.take i++[r]):=by rw[←et];exact aC.subl (List.take_sublist _ _)
   have fB:PickOk m (left.take i):=aC.subl (List.take_sublist _ _)
   have l0:=fB.len
   have di:r.1∈zaz m (zaj (left.take i)) (zao (left.take i)):=mem_openP.mpr ⟨(aC.in_ r c9).2,(aC.in_ r c9).1,fun z=>by
    have nd:=dO.nd
    rw[List.map_append,List.nodup_append] at nd
    exact nd.2.2 r.1 z r.1 (List.mem_singleton.mpr rfl) rfl⟩
   have gw:=PL.le r c9
   have fw:InS (zaj (left.take i++[r])) (zao (left.take i++[r])) wa:=zp3 (fun y hy=>by rw[←et] at hy;exact List.mem_of_mem_take hy) wi
   refine⟨t,_,rfl,sqT ht,rfl,_,_,rfl,_,_,rfl,rfl,?_⟩
   refine⟨_,rfl,x,_,_,rfl,aE,rfl,_,rfl,_,rfl,x,dx,wd,pl,m,ts,left.take i,r.1,r.2,rfl,aE,aK,al _ t4,m9,m1,by omega,gw,di,dO.stand m1,⟨wa,wm,fw,ww⟩,fun H7 t7 c7 fM gT=>?_⟩
   refine⟨⟨_,_,rfl⟩,aQ.ch c7 (.inr gv),zak t4 t7,fM,?_⟩
   rw[et]
   exact gT
  rintro σ H4 ⟨⟨v4,v5,rfl⟩,aQ,t4,aE,aK⟩
  rw[←e8,List.take_length] at aK
  have bO:H4 tp=some (.tup [.int (p.1:Int),.bl p.2]):=t4 _ _ aH
  refine⟨_,rfl,_,rfl,x,_,_,rfl,aE,rfl,x,dx,wd,pl,m,ts,left,rfl,aE,aK,al _ t4,m9,m1,by omega,aC.stand m1,fun gK os H6 s6 gP cp cr=>?_⟩
  refine⟨.tuple [.int (p.1:Int),.bool p.2],(zi8 ts m left).map za9,⟨tp,_,rfl,s6 _ _ bO,_,_,rfl,rfl,_,_,rfl,rfl,rfl⟩,⟨gK,_,rfl,cp,cr.dn⟩,zfi _ _,zbf _,_,rfl,?_⟩
  have no:((zi8 ts m left).map za9).any (fun e=>PyData.eqv e (.tuple [.int (p.1:Int),.bool p.2]))=false:=by
   rw[Bool.eq_false_iff]
   intro z
   obtain⟨kn,ek,e7⟩:=(zil _ _ _).mp z
   have fD:=Int.ofNat.inj ek
   have:=(mem_offL.mp e7).2
   rw[←fD,L] at this
   cases this
  refine zhw no ?_
  have aR:=s6 _ _ aE
  have bg:=s6 _ _ bO
  refine⟨_,rfl,x,_,_,rfl,aR,rfl,_,rfl,tp,_,_,_,rfl,rfl,sqT bg,at0,_,rfl,tp,_,_,_,rfl,rfl,sqT bg,at1,(aQ.same s6).tab _ tb,x,dx,wd,pl,m,ts,left,p.1,p.2,rfl,aR,aK.same s6,al _ (zak t4 (Same.tup s6)),m9,m1,by omega,aC,bw,fun v H7 s7 vt vf=>?_⟩
  obtain⟨bo,_,wy⟩:=vf L
  obtain⟨qa,_,_,_,_,_,_,_,_,rfl,_⟩:=wy.ex
  refine⟨rfl,_,rfl,?_⟩
  refine zb0 (by intro z;cases z) ?_
  have bh:=s6.trans s7
  have dE:=aQ.same bh
  have t7:=zak t4 (Same.tup bh)
  have bd:H7 lf=some (.lst (zam il)):=dE.lst (fun z=>nomatch z) aZ
  obtain⟨aA,aY,⟨aJ,dR,bF,cy,bI⟩,fk⟩:=(al H7 t7).ex
  have fA:=DnL.len2 fk
  rw[List.length_map,List.length_append] at fA
  refine⟨_,rfl,lf,rfl,⟨_,SqL.of bd⟩,?_⟩
  refine zbx (K:=K) (a:=lf) (xs:=zam il) (fun i ys σ H8=>(∃v,σ=[v,some (.ref wd)])∧H8=H7∧ys=((il.take i).filter (aA.length≤·)).filterMap fun t=>aY[t-aA.length]?) ⟨⟨none,rfl⟩,rfl,rfl⟩ (fun i ys σ H8 hi pv=>?_) (fun i ys σ H8 hi pv=>?_) (fun i xv ys σ H8 hx pv=>?_) (fun ys σ H8 pv l8 bu=>?_)
  ·rw[pv.2.2]
   refine zaq (Nat.le_trans (List.length_filterMap_le _ _) (Nat.le_trans (List.length_filter_le _ _) ?_))
   rw[List.length_take]
   omega
  ·rw[pv.2.1]
   exact SqL.of bd
  ·obtain⟨⟨v,rfl⟩,rfl,rfl⟩:=pv
   rw[List.getElem?_map] at hx
   obtain⟨t,ht,rfl⟩:=Option.map_eq_some_iff.mp hx
   have hU:=bX t (List.mem_of_getElem? ht)
   refine⟨_,rfl,_,rfl,wd,_,_,_,rfl,rfl,sqT bF,at1,aJ,_,rfl,.inr (sqT cy),_,_,rfl,rfl,_,rfl,?_⟩
   by_cases c:aA.length≤t
   ·refine zln (decide_eq_true (by omega)) ?_
    obtain⟨yv,hy⟩:∃yv,aY[t-aA.length]?=some yv:=⟨_,List.getElem?_eq_getElem (by omega)⟩
    refine⟨_,rfl,wd,_,_,_,rfl,rfl,sqT bF,at2,_,rfl,_,rfl,wd,_,_,_,rfl,rfl,sqT bF,at1,aJ,_,rfl,.inr (sqT cy),_,_,rfl,rfl,dR,_,_,yv,rfl,rfl,sqT bI,?_,⟨_,rfl⟩,rfl,?_⟩
    ·rw[show((t:Int)-(aA.length:Int))=((t-aA.length:Nat):Int) by omega]
     exact zc5 hy
    ·rw[List.take_add_one,ht,Option.toList_some,List.filter_append,List.filter_cons_of_pos (by simpa using c),List.filter_nil,List.filterMap_append,List.filterMap_cons_some (f:=fun t=>aY[t-aA.length]?) hy]
     rfl
   ·refine zhw (decide_eq_false (by omega)) ?_
    refine⟨⟨_,rfl⟩,rfl,?_⟩
    rw[List.take_add_one,ht,Option.toList_some,List.filter_append,List.filter_cons_of_neg (by simpa using c),List.filter_nil,List.append_nil]
  obtain⟨_,rfl,rfl⟩:=pv
  have gk:il.take (zam il).length=il:=by rw[show(zam il).length=il.length from List.length_map _,List.take_length]
  rw[gk]
  obtain⟨cs,eO⟩:∃cs,cs=(il.filter (aA.length≤·)).filterMap fun t=>aY[t-aA.length]?:=⟨_,rfl⟩
  rw[←eO]
  have s8:=zad bu (.lst cs)
  have g8:L2.upd H8 l8 (.lst cs) l8=some (.lst cs):=zab
  generalize L2.upd H8 l8 (.lst cs)=H9 at s8 g8 ⊢
  refine⟨l8,_,rfl,.inl ⟨SqL.of g8,fun aL cn=>?_⟩⟩
  have eK:=zad cn (.tup cs)
  have g9:L2.upd H9 aL (.tup cs) aL=some (.tup cs):=zab
  generalize L2.upd H9 aL (.tup cs)=HA at eK g9 ⊢
  have aW:=s8.trans eK
  have ce:=dE.same aW
  have tA:=zak t7 (Same.tup aW)
  have aM:HA lp=some (.lst ls):=ce.lst (fun z=>nomatch z) b7
  refine⟨_,rfl,_,rfl,1,rfl,lp,_,rfl,rfl,aM,fun lr fZ=>?_⟩
  have sB:=zad fZ (.lst ls.reverse)
  have gB:L2.upd HA lr (.lst ls.reverse) lr=some (.lst ls.reverse):=zab
  generalize L2.upd HA lr (.lst ls.reverse)=HB at sB gB ⊢
  have tB:=zak tA (Same.tup sB)
  have bq:=ce.same sB
  have few:=PL.few
  refine⟨_,rfl,wd,lr,tp,m,ts,left.reverse,p,rfl,bq.tab _ tb,fun H' t=>al H' (zak tB t),m1,m9,by omega,⟨⟨_,gB,((aU.same tB).rev)⟩,by rw[List.length_reverse];exact few,fun y hy=>PL.le y (List.mem_reverse.mp hy)⟩,aB.perm ((List.reverse_perm left).append (List.Perm.refl _)),tB _ _ aH,zlr (fun t ht=>ht) (fun y hy=>?_) L,fun HC KC tC=>?_⟩
  ·rcases List.mem_append.mp hy with z|z
   ·exact List.mem_append.mpr (.inl (List.mem_reverse.mpr z))
   ·exact List.mem_append.mpr (.inr z)
  refine⟨_,rfl,?_⟩
  refine zkg ?_
  have gZ:KeepA [] H1 HC:=bq.comp KC (fun c z=>nomatch z)
  have gW:=zak tB tC
  have eI:=zak (Same.tup (aW.trans sB)) tC
  have eL:=eI _ _ bF
  refine⟨_,rfl,wd,_,_,_,rfl,rfl,sqT eL,at0,_,rfl,wd,_,_,_,rfl,rfl,sqT eL,at1,_,rfl,zaq (by show 3≤1000;decide),fun wn fF=>?_⟩
  have sD:=zad fF (.tup [.int (m:Int),.ref aJ,.ref aL])
  have gD:L2.upd HC wn (.tup [.int (m:Int),.ref aJ,.ref aL]) wn=some (.tup [.int (m:Int),.ref aJ,.ref aL]):=zab
  generalize L2.upd HC wn (.tup [.int (m:Int),.ref aJ,.ref aL])=HD at sD gD ⊢
  have ck:=zak eI (Same.tup sD)
  have cX:=zak gW (Same.tup sD)
  have fY:=zak (zak (Same.tup sB) tC) (Same.tup sD)
  have eE:=gZ.same sD
  have iP:=zpj ts aA.length il
  refine⟨_,rfl,_,rfl,wn,lp,tp,m,zne ts aA.length il,left,p,rfl,eE.tab _ tb,fun H' t=>?_,m1,m9,by omega,⟨⟨_,eE.lst (fun z=>nomatch z) b7,aU.same cX⟩,few,PL.le⟩,aB,cX _ _ aH,zo6 bj m9 m1 aB B,fun HE KE tE=>q _⟩
  refine zrr (al H' (zak cX t)) (by omega) (t _ _ (ck _ _ bF)) (t _ _ (ck _ _ cy)) (t _ _ (ck _ _ bI)) (t _ _ gD) ?_
  rw[←eO]
  exact t _ _ (fY _ _ g9)
 obtain⟨cZ,de,cJ⟩:=zvv (X:=(zd2 CX0 P w K mg base ["_law_script", "_law_state", "_law_wood_here", "_law_broken_here", "_law_choice", "_law_chosen", "_law_named", "_law_offers", "_law_puts", "_law_k", "_law_put", "_law_ties", "_law_left", "_law_tree", "_law_others", "_law_fresh", "_law_value", "_law_cross_here"] "law" (zah ze1) a.f_law cdv A outer s H E).nox) (st:=(zba ze1).drop 11) (zae (zar (i:=10) sc_law.nd rfl (Or.inl rfl) (zax (ixL (K:=K)) (pv 8) (zag ay hr.lv rfl T.K_law_take (zaa (pv 1) (zaa (za3 (zer (K:=K)) rfl T.m_len PySem.boot_len (zaa (pv 8) zac)) zac))) (fun _ _=>rfl)))
   (zae (zg5 (zfq (pv 4) T.C_Choice T.g_Choice_why af hr.lv T.K_Choice_why.B .nil zc1 (zaa (zax (ixT (K:=K)) (pv 10) zaf (fun _ _=>rfl)) (zaa (zax (ixT (K:=K)) (pv 10) zaf (fun _ _=>rfl)) zac))) (pgT (K:=K) (n:=4) rfl (za0 (zan (i:=11) sc_law.nd rfl (Or.inl rfl)) (za0 (zan (i:=12) sc_law.nd rfl (Or.inl rfl)) (za0 (zan (i:=13) sc_law.nd rfl (Or.inl rfl)) (za0 (zan (i:=14) sc_law.nd rfl (Or.inl rfl)) zbq))))))
   (zae (za7 (PW.pt (zjr (zap (zp1 hr.units) (za3 zna rfl T.m_sorted PyProof.Rows.boot_sorted (zaa (pv 11) zac)) (pv 11) (zau _)) (zjr (zap zos (za3 zn2 rfl T.m_len PySem.boot_len (zaa (zbt (zst rfl) rfl T.m_set PyProof.Rows.boot_set (zaa (pv 11) zac)) zac)) (za3 (zer (K:=K)) rfl T.m_len PySem.boot_len (zaa (pv 11) zac)) (zau _)) (zid (zkl (zcv (zag aq hr.lv rfl T.K_law_shown (zaa (pv 3) (zaa (pv 11) (zaa (pv 12) (zaa (pv 10) (zaa (pv 14) zac)))))))))))) (zai (zaw zfv)) za1)
   (zae (za7 (PW.pt (zjr (zap (zdd hr.units) (zdu (N':=["_law_one", "_law_chosen"]) (n:=1) (kp:=[5]) rfl (piL (K:=K) (pv 12)) rfl rfl rfl (fun _ _ _ _ _=>(zan (i:=0) (of_decide_eq_true rfl) rfl (Or.inl rfl))) (fun _ _ _ _ _=>(zbv (zap (zdh hr.units65) (pv 0) (pv 1) (by with_unfolding_all rfl)))) (fun _ _ _ _ _=>(pv 0))) (zbb zac) (zau _)) (zid (zap (zdd hr.units) (za3 (zhs (K:=K)) rfl T.m_sorted PyProof.Rows.boot_sorted (zaa (pv 12) zac)) (pv 12) (zau _))))) (zai (zaw zfv)) za1)
   cA))))
 have bz:∀(pen wd lb x dx pl lc ln lo ak:Addr)(k:Int)(v9 eD eZ dJ dI dH bp bf aV:Option V)(m:Nat)(ts:List Tie)(ps ao:List (Nat×Bool))(us:List V)(H1:Hp),zcm H1 a.t_cases_of→Pen K H1 pen sp ns k→0≤k→k≤900000→(∀H',zcp H1 H'→WoodT H' wd m ts)→1≤m→m≤9→ts.length≤29→H1 lb=some (.lst (zam (brN m ts)))→lb≠pen→H1 x=some (.ins a.x_Choice dx (chF wd pl))→PicksAt H1 pl ps→PicksAt H1 lc ps→PickOk m ps→(∃s,s<2^m∧InS (zaj ps) (zao ps) s∧zbh ts s=true)→H1 ak=some (.lst us)→ak≠pen→PickL H1 ao us→ao≠[]→ao.length≤100→(∀r∈ao,r.1∈zaz m (zaj ps) (zao ps)∧zch ts m (zaj (ps++[r])) (zao (ps++[r]))=false) →
   cZ { nx:=fun _ H'=>Q .non H',rt:=Q } [some (.ref sp),some (.ref pen),some (.ref wd),some (.ref lb),some (.ref x),some (.ref lc),some (.ref ln),some (.ref lo),some (.ref ak),v9,eD,eZ,dJ,dI,dH,bp,bf,aV] H1:=by
  intro pen wd lb x dx pl lc ln lo ak k v9 eD eZ dJ dI dH bp bf aV m ts ps ao us H1 tb pn k0 k1 al m1 m9 ba aX bB hx PA PC ok wr bi dD aF gf eC aT
  refine cJ _ _ _ ?_
  have p9:=ok.len
  have ga:=aF.length
  have iF:1≤ao.length:=List.length_pos_iff.mpr gf
  refine⟨_,rfl,_,rfl,_,rfl,ak,_,rfl,.inl (SqL.of bi),pen,sp,ns,(us.length:Int),k,rfl,pn,by omega,by omega,by omega,fun wj hX ir=>?_⟩
  have x3:=za2 (pen:=pen) (H:=H1) (.lst [.ref sp,.int (k+1)])
  have g3:L2.upd H1 pen (.lst [.ref sp,.int (k+1)]) pen=some (.lst [.ref sp,.int (k+1)]):=zab
  generalize L2.upd H1 pen (.lst [.ref sp,.int (k+1)])=H3 at x3 g3 ⊢
  have t3:=SameX.tup pn.at_ x3
  have dl:=PA.x pn.at_ (zbz PA pn.at_) x3
  have gm:=PC.x pn.at_ (zbz PC pn.at_) x3
  have dG:H3 x=some (.ins a.x_Choice dx (chF wd pl)):=x3 _ _ (fun z=>by rw[z,pn.at_] at hx;cases hx) hx
  have cT:H3 lb=some (.lst (zam (brN m ts))):=x3 _ _ bB aX
  have bA:H3 ak=some (.lst us):=x3 _ _ dD bi
  have dZ:zcm H3 a.t_cases_of:=((KeepA.refl [pen] H1).pen x3 (.inl List.mem_cons_self) pn.at_ g3).tab _ tb
  have cI:=aF.same t3
  have dM:∀H',zcp H3 H'→WoodT H' wd m ts:=fun H' t=>al H' (zak t3 t)
  obtain⟨wn,rfl⟩:∃wn:Nat,wj=(wn:Int):=⟨wj.toNat,by omega⟩
  obtain⟨uv,eJ⟩:∃uv,us[wn]?=some uv:=⟨_,List.getElem?_eq_getElem (by omega)⟩
  obtain⟨p,tp,hp,rfl,aH⟩:=cI.get eJ
  obtain⟨bw,L⟩:=aT p (List.mem_of_getElem? hp)
  have kp:=mem_openP.mp bw
  refine⟨ak,_,_,_,rfl,rfl,SqL.of bA,zc5 eJ,?_⟩
  have W3:=dM H3 (zd4 H3)
  have bj:=W3.ok
  have aB:PickOk m (ps++[p]):=ok.snoc (b:=p.2) bw
  refine⟨_,rfl,x,_,_,rfl,dG,rfl,_,rfl,tp,_,_,_,rfl,rfl,sqT aH,at0,_,rfl,tp,_,_,_,rfl,rfl,sqT aH,at1,dZ,x,dx,wd,pl,m,ts,ps,p.1,p.2,rfl,dG,dl,W3,m9,m1,by omega,ok,bw,fun v H4 s4 vt vf=>?_⟩
  obtain⟨bo,so,wy⟩:=vf L
  have B0:=zuc bj m9 (aB.stand m1) (zex _) L
  have bV:=zx1 bj m9 m1 so aB B0
  have B1:=zrl so B0
  have ar:(zb2 ts m (zaj (ps++[p])) (zao (ps++[p]))).Sublist (zda ts):=leastL_sub
  generalize zb2 ts m (zaj (ps++[p])) (zao (ps++[p]))=il at wy bV B1 ar
  have aD:(zdv ts il m bo p).Sublist bo:=zdz _ _
  have eA:=wy.ex
  generalize zdv ts il m bo p=left at eA bV B1 aD
  obtain⟨qa,lf,lp,ow,o1,o2,tv,xs,ys,rfl,hq,aZ,dY,iH,fh,cm,di,fX,fN⟩:=eA
  have fg:(zda ts).length=ts.length:=List.length_range
  have dQ:il.length≤29:=by have:=ar.length_le;omega
  have bX:∀i∈il,i<ts.length:=fun i hi=>List.mem_range.mp (ar.subset hi)
  have cG:il.Pairwise (·<·):=List.pairwise_lt_range.sublist ar
  have bT:il.Nodup:=List.nodup_range.sublist ar
  have cE:PickOk m (bo++[p]):=aB.perm (so.pm.append (List.Perm.refl _))
  have aC:PickOk m (left++[p]):=cE.subl (aD.append (List.Sublist.refl _))
  have bx:PickOk m left:=aC.subl (List.sublist_append_left _ _)
  have iN:=bx.len
  have gt:(left.map (·.1)).Pairwise (·<·):=so.up.sublist (aD.map _)
  have dX:∀r∈left,r∈ps:=fun r hr=>so.pm.mem_iff.mp (aD.subset hr)
  refine⟨qa,_,rfl,sqT hq,rfl,_,_,rfl,_,_,rfl,_,_,rfl,_,_,rfl,rfl,?_⟩
  have eV:il.map (fun k:Nat=>V.int (k:Int))=(il.map fun k:Nat=>(k:Int)).map V.int:=by rw[List.map_map];rfl
  refine⟨_,rfl,lf,il.map (fun k:Nat=>(k:Int)),rfl,SqL.of (by rw[zmc];exact aZ),fun ms h1 h2 l5 h5=>?_⟩
  have gN:=zpb h1 h2 (List.Perm.refl _) cG
  have s5:=zad h5 (.lst (ms.map V.int))
  have g5:L2.upd H4 l5 (.lst (ms.map V.int)) l5=some (.lst (ms.map V.int)):=zab
  generalize L2.upd H4 l5 (.lst (ms.map V.int))=H5 at s5 g5 ⊢
  refine⟨_,rfl,l5,lf,ms,il.map (fun k:Nat=>(k:Int)),rfl,rfl,SqL.of g5,SqL.of (by rw[zmc];exact s5 _ _ aZ),_,rfl,?_⟩
  refine zfr gN ?_
  have bE:=s5 _ _ aZ
  refine⟨_,rfl,lf,il.map (fun k:Nat=>(k:Int)),rfl,SqL.of (by rw[zmc];exact bE),?_,by rw[List.length_map];omega,fun l6 h6=>?_⟩
  ·rw[List.nodup_iff_pairwise_ne,List.pairwise_map]
   exact List.Pairwise.imp (fun {a b} h z=>h (by omega)) (List.nodup_iff_pairwise_ne.mp bT)
  obtain⟨ob,eQ⟩:∃ob:HO,ob=.set (fun k=>(il.map (fun k:Nat=>(k:Int))).any (·==k)) (il.map (fun k:Nat=>(k:Int))).length:=⟨_,rfl⟩
  rw[←eQ]
  have s6:=zad h6 ob
  have g6:L2.upd H5 l6 ob l6=some ob:=zab
  generalize L2.upd H5 l6 ob=H6 at s6 g6 ⊢
  rw[eQ] at g6
  have bH:=s6 _ _ bE
  refine⟨l6,_,_,rfl,g6,_,rfl,lf,_,rfl,.inl (SqL.of bH),rfl,_,rfl,?_⟩
  refine zfr (by rw[List.length_map,List.length_map]) ?_
  have bt:=s5.trans s6
  have dg:=s4.trans bt
  refine⟨_,rfl,_,rfl,_,rfl,_,rfl,_,rfl,lb,lf,lp,tp,ow,m,ts,il,left,p,zi0 ts m il left p,xs++ys,rfl,m9,dg _ _ cT,bH,bX,by omega,by omega,dY.same bt,by omega,by omega,dg _ _ aH,bt _ _ fN,(bV.ent fh cm di fX).same bt,?_,zl2 _ _ _ _ _,bV.shows aC bT,fun H7 s7=>?_⟩
  ·have:=congrArg List.length (zl2 ts m il left p)
   rw[List.length_map,List.length_append,List.length_map,List.length_map] at this
   omega
  refine⟨_,rfl,?_⟩
  refine zgb ?_
  have bh:=bt.trans s7
  have gl:=dg.trans s7
  have bQ:=dY.same bh
  obtain⟨ls,eU,aU⟩:=bQ.ex
  obtain⟨cs,cg,gz⟩:=(gm.same gl).ex
  refine⟨_,rfl,lp,rfl,⟨_,SqL.of eU⟩,?_⟩
  refine zoi (K:=K) (a:=lp) (σr:=[some (.ref lc)]) (fun r=>!decide (r∈ps)) rfl eU aU (by omega) (fun r hr t ht R z=>?_) (fun l8 zs bu pz=>?_)
  ·refine⟨_,rfl,_,rfl,za9 r,ps.map za9,zhp ht,⟨lc,_,rfl,cg,gz.dn⟩,zei _,zbf _,_,rfl,?_⟩
   rw[zju]
   exact z
  have ez:left.filter (fun r=>!decide (r∈ps))=[]:=List.filter_eq_nil_iff.mpr fun r hr=>by
   rw[decide_eq_true (dX r hr)]
   exact Bool.false_ne_true
  rw[ez] at pz
  cases(show zs=[] from pz)
  have s8:=zad bu (.lst [])
  have g8:L2.upd H7 l8 (.lst []) l8=some (.lst []):=zab
  generalize L2.upd H7 l8 (.lst [])=H8 at s8 g8 ⊢
  refine⟨zaq (by show 0≤1000;decide),fun l9 aO=>?_⟩
  have s9:=zad aO (.lst [])
  have g9:L2.upd H8 l9 (.lst []) l9=some (.lst []):=zab
  have eM:=s9 _ _ g8
  generalize L2.upd H8 l9 (.lst [])=H9 at s9 g9 eM ⊢
  refine⟨.list [],.list [],⟨l8,_,rfl,eM,rfl⟩,⟨l9,_,rfl,g9,rfl⟩,zdf,zdf,_,rfl,?_⟩
  refine zhw (by rw[ze6 _ (SeqAt.canLay_of_shaped zdf)];rfl) ?_
  have aW:=s8.trans s9
  have bN:=bQ.same aW
  obtain⟨es,fQ,gO,gM,fG⟩:=zp9 bN bx.nd
  refine⟨_,rfl,lp,es,rfl,SqL.of fQ,gO,gM,fun bM pe pw lA gL=>?_⟩
  obtain⟨hZ,eo,eS⟩:=fG bM pe pw
  have e2:=zrv eo.pm eo.up gt
  rw[e2] at eS
  have sA:=zad gL (.lst (bM.map fun e=>V.ref e.2))
  have gA:L2.upd H9 lA (.lst (bM.map fun e=>V.ref e.2)) lA=some (.lst (bM.map fun e=>V.ref e.2)):=zab
  generalize L2.upd H9 lA (.lst (bM.map fun e=>V.ref e.2))=HA at sA gA ⊢
  have bv:=bN.same sA
  obtain⟨ie,aM,dh⟩:=bv.ex
  refine⟨_,rfl,.list (left.map za9),.list (left.map za9),⟨lA,_,rfl,gA,(eS.same (Same.tup sA)).dn⟩,⟨lp,_,rfl,aM,dh.dn⟩,zbf _,zbf _,_,rfl,?_⟩
  refine zhw (by rw[ze6 _ (SeqAt.canLay_of_shaped (zbf _))];rfl) ?_
  have dN:=(bh.trans aW).trans sA
  have cH:=s4.trans dN
  obtain⟨wa,wm,wi,ww⟩:=wr
  exact bK pen wd lb x lc ln lo ak tp lf lp ow _ _ _ _ _ m ts il left p HA (cH.tab dZ) (fun H' t=>dM H' (zak (Same.tup cH) t)) m1 m9 ba ⟨wa,wm,zp3 dX wi,ww⟩ (dN _ _ aZ) bX dQ bv aC (cH _ _ aH) B1
 obtain⟨fW,gh,fm⟩:=zvv (X:=(zd2 CX0 P w K mg base ["_law_script", "_law_state", "_law_wood_here", "_law_broken_here", "_law_choice", "_law_chosen", "_law_named", "_law_offers", "_law_puts", "_law_k", "_law_put", "_law_ties", "_law_left", "_law_tree", "_law_others", "_law_fresh", "_law_value", "_law_cross_here"] "law" (zah ze1) a.f_law cdv A outer s H E).nox) (st:=(zba ze1).drop 3) (zae (zar (i:=3) sc_law.nd rfl (Or.inl rfl) (zag ae hr.lv rfl T.K_law_broken (zaa (pv 2) zac)))
   (zae (zar (i:=4) sc_law.nd rfl (Or.inl rfl) (znt T.g_Choice___init__ aa hr.lv rfl T.g_Choice T.K_Choice___init__.B .nil zc1 (zaa (pv 2) zac)))
   (zae (zar (i:=5) sc_law.nd rfl (Or.inr rfl) (zag am hr.lv rfl T.K_law_played (zaa (pv 1) (zaa (pv 4) (zaa (pv 3) (zaa (zax (ixT (K:=K)) (pv 2) zaf (fun _ _=>rfl)) zac))))))
   (zae (zed (i:=6) sc_law.nd rfl rfl rfl (N':=["_law_k", "_law_value"]) (n:=2) (kp:=[]) rfl (piL (K:=K) (pv 5)) rfl rfl rfl (fun _ _ _ _ _=>(pgT (K:=K) (n:=2) rfl (za0 (zan (i:=0) (of_decide_eq_true rfl) rfl (Or.inl rfl)) (za0 (zan (i:=1) (of_decide_eq_true rfl) rfl (Or.inl rfl)) zbq)))) (fun _ _ _ _ _=>zgl) (fun _ _ _ _ _=>(pv 0)))
   (zae (zar (i:=7) sc_law.nd rfl (Or.inr rfl) (ze8 (pv 4) T.C_Choice T.g_Choice_offers ad hr.lv T.K_Choice_offers.B .nil zc1))
   (zae (zar (i:=8) sc_law.nd rfl (Or.inl rfl) (zbb zac))
   (zae (zb6 PassesOwn.never rfl (zl0 rfl T.m_range (zaa zaf (zaa (zax (ixT (K:=K)) (pv 2) zaf (fun _ _=>rfl)) zac))) (zan (i:=9) sc_law.nd rfl (Or.inl rfl)) (zai (za7 (zap (zxy (K:=K)) (pv 9) (pv 6) (by with_unfolding_all rfl)) (zai (zar (i:=8) sc_law.nd rfl (Or.inl rfl) (zav zdp (pv 8) (zdu (N':=["_law_put", "_law_offers"]) (n:=1) (kp:=[7]) rfl (piL (K:=K) (zbb (zaa (zbc (zaa (pv 9) (zaa zfv zac))) (zaa (zbc (zaa (pv 9) (zaa zfv zac))) zac)))) rfl rfl rfl (fun _ _ _ _ _=>(zan (i:=0) (of_decide_eq_true rfl) rfl (Or.inl rfl))) (fun _ _ _ _ _=>(zbv (zap (zdh hr.units65) (pv 0) (pv 1) (by with_unfolding_all rfl)))) (fun _ _ _ _ _=>(pv 0)))))) za1)))
   (zae (za7 (zap (zhg hr.units) (pv 8) (zbb zac) (zau _)) (zai (zaw (zeo (zbo (zhg hr.units) (ze8 (pv 4) T.C_Choice T.g_Choice_chosen ah hr.lv T.K_Choice_chosen.B .nil zc1) (pv 5) (zau _)) (zfj (zbo (zhg hr.units) (ze8 (pv 4) T.C_Choice T.g_Choice_stand ai hr.lv T.K_Choice_stand.B .nil zc1) (zag ap hr.lv rfl T.K_law_stand (zaa (pv 5) zac)) (zau _)))))) za1)
   de))))))))
 refine⟨_,(zae (zar (i:=1) sc_law.nd rfl (Or.inl rfl) (zbb (zaa (pv 0) (zaa zaf zac))))
   (zae (zar (i:=2) sc_law.nd rfl (Or.inr rfl) (zag av hr.lv rfl T.K_law_wood (zaa (pv 1) (zaa zaf zac))))
   (zae (za7 (zap (zg8 hr.units) (zag ax hr.lv rfl T.K_law_sets (zaa (zag ae hr.lv rfl T.K_law_broken (zaa (pv 2) zac)) (zaa (zoy zkm zaf) (zaa (zbb zac) zac)))) (zbb zac) (zau _)) (zai (zar (i:=2) sc_law.nd rfl (Or.inr rfl) (zbc (zaa (zax (ixT (K:=K)) (pv 2) zaf (fun _ _=>rfl)) (zaa (zax (ixT (K:=K)) (pv 2) zaf (fun _ _=>rfl)) (zaa (zbc zac) zac)))))) za1)
   gh))),?_⟩
 refine⟨_,rfl,zaq (by show 2≤1000;decide),fun pen aw=>?_⟩
 have pn:=zvr hS hl aw
 have s1:=zad aw (.lst [.ref sp,.int 0])
 generalize L2.upd H pen (.lst [.ref sp,.int 0])=H1 at pn s1 ⊢
 have rest:∀(wd:Addr)(m:Nat)(ts:List Tie)(k:Int)(H2:Hp),KeepA [] H H2→H2 pen=some (.lst [.ref sp,.int k])→0≤k→k≤500→1≤m→m≤9→(∃s,s<2^m∧zbh ts s=true)→ts.length≤29→(∀H',zcp H2 H'→WoodT H' wd m ts)→fW { nx:=fun _ H'=>Q .non H',rt:=Q } [some (.ref sp),some (.ref pen),some (.ref wd),none,none,none,none,none,none,none,none,none,none,none,none,none,none,none] H2:=by
  intro wd m ts k H2 aS aI k0 k5 m1 m9 aN ba al
  refine fm _ _ _ ?_
  have W:=al H2 (zd4 H2)
  obtain⟨eP,eN,dw⟩:=aN
  refine⟨_,rfl,wd,m,ts,rfl,W,m9,by omega,fun lb H5 s5 bB dz=>?_⟩
  have aX:H5 lb=some (.lst (zam (brN m ts))):=dz
  have fL:=aS.same s5
  have bC:=s5 _ _ aI
  have aP:lb≠pen:=fun z=>by rw[z,aI] at bB;cases bB
  refine⟨_,rfl,fun x dx hx cY nd=>?_⟩
  have t1:=zad cY (.own x)
  have t2:=t1.trans (zad (show L2.upd H5 dx (.own x) x=none by rw[zal (Ne.symm nd)];exact hx) (.ins a.x_Choice dx []))
  have bG:L2.upd (L2.upd H5 dx (.own x)) x (.ins a.x_Choice dx []) x=some (.ins a.x_Choice dx []):=zab
  generalize L2.upd (L2.upd H5 dx (.own x)) x (.ins a.x_Choice dx [])=gq at t2 bG ⊢
  have cb:=s5.trans t2
  refine⟨x,dx,wd,m,ts,rfl,bG,W.same cb,m9,m1,⟨eP,eN,dw⟩,fun b9 H4 t4 l4 c4 n4 aE aK=>⟨rfl,?_⟩⟩
  have cq:zcp H2 H4:=zak (Same.tup cb) t4
  have W4:=al H4 cq
  have xn:H x=none:=fL.dom _ hx
  have aQ:=(aS.same cb).ch c4 (.inr xn)
  have bL:H4 pen=some (.lst [.ref sp,.int k]):=l4 _ _ (t2 _ _ bC)
  have aG:H4 lb=some (.lst (zam (brN m ts))):=l4 _ _ (t2 _ _ aX)
  have br:H b9=none:=(aS.same cb).dom _ n4
  obtain⟨aA,aY,⟨aJ,dR,ge,ii,fU⟩,h8⟩:=W4.ex
  have bR:lb≠b9:=fun z=>by
   have y:=t2 _ _ aX
   rw[z] at y
   have:gq b9=some (.lst (zam (brN m ts))):=y
   rw[n4] at this
   cases this
  refine⟨_,rfl,_,rfl,_,rfl,_,rfl,wd,_,_,_,rfl,rfl,sqT ge,at0,pen,sp,ns,k,x,dx,wd,b9,lb,m,ts,rfl,fun k' H' KA gd=>zps hS hl (aQ.comp KA (zyg (.inr aw) (.inr xn) (.inr br))) aw gd,bL,k0,by omega,aE,aK,bR,fun H' t=>al H' (zak cq t),aG,aP,m1,m9,⟨eP,eN,zuo dw,dw⟩,fun lc pl ps k6 H6 dW t6 cC iQ iG aR cR cQ iw iE iK ok wr=>?_⟩
  have cV:=aQ.comp dW (zyg (.inr aw) (.inr xn) (.inr br))
  have cM:=zak cq t6
  have p9:=ok.len
  have gH:lb≠x:=fun z=>by rw[z,aE] at aG;cases aG
  have dB:H6 lb=some (.lst (zam (brN m ts))):=dW.lst (zn9 aP gH bR) aG
  obtain⟨xs,cg,pk⟩:=cQ.ex
  have lx:=pk.length
  refine⟨_,rfl,lc,rfl,⟨_,SqL.of cg⟩,?_⟩
  refine zbx (K:=K) (a:=lc) (xs:=xs) (fun i ys σ H7=>(∃v v',σ=[v,v'])∧H7=H6∧ys=zam ((ps.take i).map (·.1))) ⟨⟨none,none,rfl⟩,rfl,rfl⟩ (fun i ys σ H7 hi pv=>?_) (fun i ys σ H7 hi pv=>?_) (fun i xv ys σ H7 hx pv=>?_) (fun ys σ H7 pv ln fK=>?_)
  ·rw[pv.2.2]
   exact zaq (by rw[List.length_map,List.length_map,List.length_take];omega)
  ·rw[pv.2.1]
   exact SqL.of cg
  ·obtain⟨⟨v,v',rfl⟩,rfl,rfl⟩:=pv
   obtain⟨r,t,hr,rfl,ht⟩:=pk.get hx
   refine⟨t,_,rfl,sqT ht,rfl,_,_,rfl,_,_,rfl,rfl,?_⟩
   refine⟨_,rfl,⟨_,_,rfl⟩,rfl,?_⟩
   rw[List.take_add_one,hr,Option.toList_some,List.map_append,zif]
   rfl
  obtain⟨_,rfl,rfl⟩:=pv
  rw[←lx,List.take_length]
  have s7:=zad fK (.lst (zam (ps.map (·.1))))
  have g7:L2.upd H7 ln (.lst (zam (ps.map (·.1)))) ln=some (.lst (zam (ps.map (·.1)))):=zab
  generalize L2.upd H7 ln (.lst (zam (ps.map (·.1))))=H8 at s7 g7 ⊢
  have eh:=s7 _ _ aR
  have fJ:=cR.same s7
  have fR:=zak cM (Same.tup s7)
  refine⟨_,rfl,x,_,_,rfl,eh,rfl,x,dx,wd,pl,m,ts,ps,rfl,eh,fJ,al H8 fR,m9,m1,by omega,ok.stand m1,fun lo os H9 s9 gP cp cr=>?_⟩
  refine⟨zaq (by show 0≤1000;decide),fun le bb=>?_⟩
  have sA:=zad bb (.lst [])
  have gA:L2.upd H9 le (.lst []) le=some (.lst []):=zab
  generalize L2.upd H9 le (.lst [])=HA at sA gA ⊢
  have bZ:=(s7.trans s9).trans sA
  have ce:=cV.same bZ
  have ff:=zak cM (Same.tup bZ)
  obtain⟨iT,iD,⟨ig,iR,gQ,iL,fz⟩,hW⟩:=(al HA ff).ex
  have fV:HA ln=some (.lst (zam (ps.map (·.1)))):=sA _ _ (s9 _ _ g7)
  have cW:=sA _ _ cp
  have cO:=cr.same (Same.tup sA)
  have cD:=bZ _ _ cC
  have fH:le≠pen:=fun z=>by
   have y:H9 pen=some (.lst [.ref sp,.int k6]):=(s7.trans s9) _ _ cC
   rw[z] at bb
   rw[bb] at y
   cases y
  refine⟨_,rfl,wd,_,_,_,rfl,rfl,sqT gQ,at0,_,_,rfl,⟨by rw[bY];omega,by rw[bY];omega,by rw[bY];omega,by rw[bY];omega⟩,?_⟩
  refine zin (lo:=1) (n:=((m:Int)-1).toNat) (fun i σ HB=>∃(ak:Addr)(us:List V)(ao:List (Nat×Bool))(v9:Option V),σ=[some (.ref sp),some (.ref pen),some (.ref wd),some (.ref lb),some (.ref x),some (.ref lc),some (.ref ln),some (.ref lo),some (.ref ak),v9,none,none,none,none,none,none,none,none]∧Same HA HB∧ak≠pen∧HB ak=some (.lst us)∧PickL HB ao us∧ao.length≤2*i∧∀r∈ao,r.1∈zaz m (zaj ps) (zao ps)∧zch ts m (zaj (ps++[r])) (zao (ps++[r]))=false) ⟨le,[],[],none,rfl,Same.refl _,fH,gA,rfl,Nat.le_refl _,fun _ z=>nomatch z⟩ ?_ ?_
  ·rintro i σ HB hi ⟨ak,us,ao,v9,rfl,sB,cF,bS,aF,eC,aT⟩
   have ga:=aF.length
   have im:i+1<m:=by omega
   have ek:(1:Int)+(i:Int)=((i+1:Nat):Int):=by omega
   rw[ek]
   refine⟨_,rfl,_,rfl,ln,_,rfl,.inl (SqL.of (sB _ _ fV)),rfl,zgo _,_,rfl,?_⟩
   by_cases cz:(i+1)∈ps.map (·.1)
   ·refine zrm (show(!inV (.int ((i+1:Nat):Int)) (zam (ps.map (·.1))))=false by rw[zf5,decide_eq_true cz];rfl) ?_
    exact⟨ak,us,ao,_,rfl,sB,cF,bS,aF,by omega,aT⟩
   refine zy8 (show(!inV (.int ((i+1:Nat):Int)) (zam (ps.map (·.1))))=true by rw[zf5,decide_eq_false cz];rfl) ?_
   refine⟨_,rfl,_,rfl,zaq (by show 2≤1000;decide),fun ka fO=>?_⟩
   have sC:=zad fO (.tup [.int ((i+1:Nat):Int),.bl false])
   have gC:L2.upd HB ka (.tup [.int ((i+1:Nat):Int),.bl false]) ka=some (.tup [.int ((i+1:Nat):Int),.bl false]):=zab
   generalize L2.upd HB ka (.tup [.int ((i+1:Nat):Int),.bl false])=HC at sC gC ⊢
   refine⟨_,rfl,zaq (by show 2≤1000;decide),fun kb fI=>?_⟩
   have sD:=zad fI (.tup [.int ((i+1:Nat):Int),.bl true])
   have gD:L2.upd HC kb (.tup [.int ((i+1:Nat):Int),.bl true]) kb=some (.tup [.int ((i+1:Nat):Int),.bl true]):=zab
   have eX:=sD _ _ gC
   generalize L2.upd HC kb (.tup [.int ((i+1:Nat):Int),.bl true])=HD at sD gD eX ⊢
   refine⟨zaq (by show 2≤1000;decide),fun lk fT=>?_⟩
   have sE:=zad fT (.lst [.ref ka,.ref kb])
   have gE:L2.upd HD lk (.lst [.ref ka,.ref kb]) lk=some (.lst [.ref ka,.ref kb]):=zab
   have eB:=sE _ _ eX
   have dS:=sE _ _ gD
   generalize L2.upd HD lk (.lst [.ref ka,.ref kb])=HE at sE gE eB dS ⊢
   have dF:=(sC.trans sD).trans sE
   have dU:=sB.trans dF
   have gy:PickL HE [(i+1,false),(i+1,true)] [.ref ka,.ref kb]:=⟨ka,_,rfl,eB,kb,_,rfl,dS,rfl⟩
   refine⟨lk,rfl,⟨_,SqL.of gE⟩,?_⟩
   refine zoi (K:=K) (a:=lk) (σr:=[some (.ref lo)]) (fun r=>!decide (r∈zi8 ts m ps)) rfl gE gy (by show 2≤1000;decide) (fun r hr t ht R z=>?_) (fun l8 zs bu pz=>?_)
   ·refine⟨_,rfl,_,rfl,za9 r,(zi8 ts m ps).map za9,zhp ht,⟨lo,_,rfl,dU _ _ cW,(cO.same (Same.tup dU)).dn⟩,zei _,zbf _,_,rfl,?_⟩
    rw[zju]
    exact z
   have lz:=pz.length
   have iI:([(i+1,false),(i+1,true)].filter fun r=>!decide (r∈zi8 ts m ps)).length≤2:=List.length_filter_le _ _
   have sF:=zad bu (.lst zs)
   have gF:L2.upd HE l8 (.lst zs) l8=some (.lst zs):=zab
   generalize L2.upd HE l8 (.lst zs)=HF at sF gF ⊢
   have cU:=dF.trans sF
   refine⟨ak,l8,_,_,rfl,rfl,cU _ _ bS,gF,zaq (by omega),fun l9 aO=>?_⟩
   have sG:=zad aO (.lst (us++zs))
   have gG:L2.upd HF l9 (.lst (us++zs)) l9=some (.lst (us++zs)):=zab
   generalize L2.upd HF l9 (.lst (us++zs))=HG at sG gG ⊢
   have dP:=cU.trans sG
   refine⟨l9,_,_,_,rfl,sB.trans dP,fun z=>?_,gG,PickL.append (aF.same (Same.tup dP)) (pz.same (Same.tup (sF.trans sG))),by rw[List.length_append];omega,fun r hr=>?_⟩
   ·have y:HF pen=some (.lst [.ref sp,.int k6]):=(sB.trans cU) _ _ cD
    rw[z] at aO
    rw[aO] at y
    cases y
   ·rcases List.mem_append.mp hr with z|z
    ·exact aT r z
    ·obtain⟨z1,z2⟩:=List.mem_filter.mp z
     have er:r.1=i+1:=by
      simp only[List.mem_cons,List.not_mem_nil,or_false] at z1
      rcases z1 with rfl|rfl<;>rfl
     have ho:r.1∈zaz m (zaj ps) (zao ps):=by
      rw[er]
      exact mem_openP.mpr ⟨im,by omega,cz⟩
     refine⟨ho,?_⟩
     rw[Bool.eq_false_iff]
     intro y
     have:r∈zi8 ts m ps:=mem_offL (k:=r.1) (b:=r.2).mpr ⟨ho,y⟩
     rw[decide_eq_true this] at z2
     cases z2
  rintro σ HB ⟨ak,us,ao,v9,rfl,sB,cF,bS,aF,eC,aT⟩
  have bJ:=bZ.trans sB
  have bq:=ce.same sB
  have gU:=cR.same bJ
  have fj:=cQ.same bJ
  have fq:=bJ _ _ aR
  have fo:=bJ _ _ cC
  refine⟨_,rfl,zaq (by show 0≤1000;decide),fun l9 aO=>?_⟩
  have sC:=zad aO (.lst [])
  have gC:L2.upd HB l9 (.lst []) l9=some (.lst []):=zab
  generalize L2.upd HB l9 (.lst [])=HC at sC gC ⊢
  refine⟨.list (ao.map za9),.list [],⟨ak,_,rfl,sC _ _ bS,(aF.same (Same.tup sC)).dn⟩,⟨l9,_,rfl,gC,rfl⟩,zbf _,zdf,_,rfl,?_⟩
  by_cases pe:ao=[]
  ·subst pe
   refine zln (ze6 _ (SeqAt.canLay_of_shaped zdf)) ?_
   have eY:=gU.same sC
   have eH:=fj.same sC
   have bW:=sC _ _ fq
   refine⟨_,rfl,x,_,_,rfl,bW,rfl,x,dx,wd,pl,ps,rfl,bW,eY,fun lk HD sD iM P9=>?_⟩
   obtain⟨iC,g3,gR⟩:=P9.ex
   obtain⟨iJ,gJ,cN⟩:=(eH.same sD).ex
   refine⟨_,rfl,.list (ps.map za9),.list (ps.map za9),⟨lk,_,rfl,g3,gR.dn⟩,⟨lc,_,rfl,gJ,cN.dn⟩,zbf _,zbf _,_,rfl,?_⟩
   rw[ze6 _ (SeqAt.canLay_of_shaped (zbf _))]
   refine zkg ?_
   refine⟨_,rfl,x,_,_,rfl,sD _ _ bW,rfl,x,dx,wd,pl,ps,rfl,sD _ _ bW,eY.same sD,fun st HE sE gj=>?_⟩
   refine⟨_,rfl,lc,ps,rfl,(eH.same sD).same sE,fun gn HF sF cx=>?_⟩
   have ly:zie 2 (.tuple [zfw (zaj ps),zfw (zao ps)])=true:=rfl
   refine⟨.tuple [zfw (zaj ps),zfw (zao ps)],.tuple [zfw (zaj ps),zfw (zao ps)],⟨st,_,rfl,sF _ _ gj,⟨_,_,rfl,rfl,_,_,rfl,rfl,rfl⟩⟩,⟨gn,_,rfl,cx,⟨_,_,rfl,rfl,_,_,rfl,rfl,rfl⟩⟩,zdg ly (by decide),zdg ly (by decide),?_⟩
   rw[zj3 ly]
   exact q _
  ·refine zhw ?_ ?_
   ·cases ao with
    |nil=>exact absurd rfl pe
    |cons r ao=>simp[PyData.eqv,PyData.eqvAll]
   ·have be:=bJ.trans sC
    exact bz pen wd lb x dx pl lc ln lo ak k6 _ _ _ _ _ _ _ _ _ m ts ps ao us HC ((bq.same sC).tab _ ta) (zps hS hl (bq.same sC) aw (sC _ _ fo)) (by omega) (by omega) (fun H' t=>al H' (zak (zak cM (Same.tup be)) t)) m1 m9 ba (be _ _ dB) aP (be _ _ aR) (cR.same be) (cQ.same be) ok wr (sC _ _ bS) cF (aF.same (Same.tup sC)) pe (by omega) aT
 refine⟨_,rfl,pen,sp,ns,6,0,rfl,pn,by decide,by decide,by decide,by decide,fun wd m bs cs k2 H2 x2 cS iU ix m1 m9 W2 hV=>?_⟩
 have aS:=((KeepA.refl [] H).same s1).pen x2 (.inr aw) pn.at_ cS
 obtain⟨ts,iS,io,ba,al⟩:=W2.ties
 have W:=al H2 (zd4 H2)
 obtain⟨aA,aY,⟨tb,tc,hw,hb,hc⟩,dn⟩:=W.ex
 refine⟨_,rfl,wd,m,ts,rfl,W,m9,by omega,fun lb H3 s3 bB aX=>?_⟩
 refine⟨1,rfl,zaq (by show 0≤1000;decide),fun le bb=>?_⟩
 have s4:=s3.trans (zad bb (.lst []))
 have g4:L2.upd H3 le (.lst []) le=some (.lst []):=zab
 have e6:=(zad bb (.lst [])) _ _ aX
 generalize L2.upd H3 le (.lst [])=H4 at s4 g4 e6 ⊢
 have pw:2^m≤512:=zur m9
 refine⟨lb,le,brN m ts,-1,[],rfl,e6,by rw[zh4];exact pw,⟨⟨[],g4,rfl⟩,by decide,(fun _ z=>nomatch z)⟩,fun ls H5 s5 iO dL=>?_⟩
 rw[zsd] at dL
 refine⟨zaq (by show 0≤1000;decide),fun cj bP=>?_⟩
 have s6:=(s4.trans s5).trans (zad bP (.lst []))
 have g6:L2.upd H5 cj (.lst []) cj=some (.lst []):=zab
 have eW:=(zad bP (.lst [])) _ _ dL
 generalize L2.upd H5 cj (.lst [])=H6 at s6 g6 eW ⊢
 refine⟨ls,cj,(zhm m ts).map (fun k:Nat=>(k:Int)),[],rfl,rfl,SqL.of (by rw[zmc];exact eW),SqL.of g6,_,rfl,?_⟩
 have cV:=aS.same s6
 by_cases e:zhm m ts=[]
 ·refine zgw (by rw[e];rfl) ?_
  refine⟨_,rfl,wd,_,_,_,rfl,rfl,sqT (s6 _ _ hw),at0,_,rfl,wd,_,_,_,rfl,rfl,sqT (s6 _ _ hw),at1,?_⟩
  refine⟨zaq (by show 0≤1000;decide),fun te gS=>?_⟩
  have s7:=s6.trans (zad gS (.tup []))
  have g7:L2.upd H6 te (.tup []) te=some (.tup []):=zab
  generalize L2.upd H6 te (.tup [])=H7 at s7 g7 ⊢
  refine⟨zaq (by show 3≤1000;decide),fun bU da=>?_⟩
  have ef:=zad da (.tup [.int (m:Int),.ref tb,.ref te])
  have s8:=s7.trans ef
  have g8:L2.upd H7 bU (.tup [.int (m:Int),.ref tb,.ref te]) bU=some (.tup [.int (m:Int),.ref tb,.ref te]):=zab
  have eF:=ef _ _ g7
  generalize L2.upd H7 bU (.tup [.int (m:Int),.ref tb,.ref te])=H8 at s8 g8 eF ⊢
  obtain⟨fE,aN,_,cK,cu⟩:=(W2.cut hw (Same.tup s8) g8 eF).bare
  exact rest bU m fE k2 H8 (aS.same s8) (s8 _ _ cS) (by omega) (by omega) m1 m9 aN cK cu
 ·refine zb0 (fun z=>e (by simpa using z)) ?_
  obtain⟨wa,fS⟩:=List.exists_mem_of_ne_nil _ e
  exact rest wd m ts k2 H6 cV (s6 _ _ cS) (by omega) (by omega) m1 m9 ⟨wa,mem_wareL.mp fS⟩ ba fun H' t=>al H' (zak (Same.tup s6) t)
end
theorem all_mk{l:PySem.W.OpenLaw}{w:World}{K:PySem.W.Frag}{h:Heap}{mg:Str→Option Value}{fa f1 f2 f3 f4 f5 f6 f7 f8 f9 f10 f11 f12 f13 f14 f15 f16 f17 f18 f19 f20 f21 f22 f23 f24 f25 f26 f27 f28 f29 f30 f31 f32 f33 f34 f35 f36 f37 f38 f39 f40 f41 f42 f43 f44 f45 f46 cc12 tt12 y_Choice:Addr}(X:K.In h)(G:h.Ns mainGlobals mg)(hfa:mg "law" = some (.ref fa))
  {d1 d2 d3 d4 d5 d6 d7 d8 d9 d10 d11 d12 d13 d14 d15 d16 d17 d18 d19 d20 d21 d22 d23 d24 d25 d26 d27 d28 d29 d30 d31 d32 d33 d34 d35 d36 d37 d38 d39 d40 d41 d42 d43 d44 d45 d46:FuncData}
  {coc12:Value} {cod12:Option Addr} {cvs12:Array Value} {csl12:Array (Option Value)}
  (a1:Dk K "has" zub f1 d1)
  (a2:Dk K "with_option" zep f2 d2)
  (a3:Dk K "open_options" zc4 f3 d3)
  (a4:Dk K "many_ties" zf3 f4 d4)
  (a5:Dk K "tie_at" zk0 f5 d5)
  (a6:Dk K "count_in" zfh f6 d6)
  (a7:Dk K "every_tie" zgd f7 d7)
  (a8:Dk K "sure_broken" zek f8 d8)
  (a9:Dk K "least_sum" zej f9 d9)
  (a10:Dk K "sure_broken_bough" za4 f10 d10)
  (a11:Dk K "first_sure_broken" zcn f11 d11)
  (a12:Dk K "cases_of" zcc f12 d12)
  (e12:d12.code=.ref cc12) (m12:K.lookup cc12=some ⟨coc12,cod12,.fields cvs12,csl12⟩) (n12:(cvs12[11]?:Option Value)=some (.ref tt12))
  (a13:Dk K "ware_leaf" zf7 f13 d13)
  (a14:Dk K "told_tree" zdj f14 d14)
  (a15:Dk K "first_ware" zfl f15 d15)
  (a16:Dk K "first_keeping" zb4 f16 d16)
  (a17:Dk K "bars" zp8 f17 d17)
  (a18:Dk K "least_ties" zfn f18 d18)
  (a19:Dk K "tie_others" zd0 f19 d19)
  (a20:Dk K "left_without" zcd f20 d20)
  (a21:Dk K "stand_of" zhh f21 d21)
  (a22:Dk K "open_at" zia f22 d22)
  (a23:Dk K "first_ware_at" zdq f23 d23)
  (a24:Dk K "leads_on" zhe f24 d24)
  (a25:Dk K "why_barred" zfa f25 d25)
  (a26:Dk K "least_picks" zeu f26 d26)
  (a27:Dk K "pick_others" zeq f27 d27)
  (a28:Dk K "_law_take" zd6 f28 d28)
  (a29:Dk K "_law_boughs" zcl f29 d29)
  (a30:Dk K "_law_cross" zbu f30 d30)
  (a31:Dk K "_law_wood" zd9 f31 d31)
  (a32:Dk K "_law_keeps" zdm f32 d32)
  (a33:Dk K "_law_broken" zdx f33 d33)
  (a34:Dk K "_law_stand" zgi f34 d34)
  (a35:Dk K "_law_sets" zha f35 d35)
  (a36:Dk K "_law_played" zck f36 d36)
  (a37:Dk K "_law_anew" zg3 f37 d37)
  (a38:Dk K "_law_shown" zcx f38 d38)
  (a39:Dk K "law" ze1 f39 d39)
  (a40:Dq K y_Choice "__init__" "Choice.__init__" zc7 f40 d40)
  (a41:Dq K y_Choice "stand" "Choice.stand" zd8 f41 d41)
  (a42:Dq K y_Choice "chosen" "Choice.chosen" zdt f42 d42)
  (a43:Dq K y_Choice "offers" "Choice.offers" zcs f43 d43)
  (a44:Dq K y_Choice "choose" "Choice.choose" zds f44 d44)
  (a45:Dq K y_Choice "take_back" "Choice.take_back" zbp f45 d45)
  (a46:Dq K y_Choice "why" "Choice.why" zfo f46 d46)
  (z1:PySem.W.nsIn K mainGlobals "range" = some none)
  (z2:PySem.W.nsIn K mainGlobals "len" = some none)
  (z3:PySem.W.nsIn K mainGlobals "max" = some none)
  (z4:PySem.W.nsIn K mainGlobals "int" = some none)
  (z5:PySem.W.nsIn K mainGlobals "list" = some none)
  (z6:PySem.W.nsIn K mainGlobals "tuple" = some none)
  (z7:PySem.W.nsIn K mainGlobals "sorted" = some none)
  (z8:PySem.W.nsIn K mainGlobals "enumerate" = some none)
  (z9:PySem.W.nsIn K mainGlobals "sum" = some none)
  (z10:PySem.W.nsIn K mainGlobals "set" = some none)
  (gm_Choice:PySem.W.nsIn K mainGlobals "Choice" = some (some (.ref y_Choice)))
  (p1_Choice:PySem.W.plainGet K y_Choice Str.empty=true) (p2_Choice:PySem.W.hasDictIn K y_Choice=true) (p3_Choice:PySem.W.plainOver K y_Choice=true) (p4_Choice:PySem.W.findIn K (.ref y_Choice) "__setattr__" = some (some (.builtin "object.__setattr__"))) (p5_Choice:PySem.W.makesIn K y_Choice=true) (p6_Choice:PySem.W.keepIn K (.ref y_Choice)=true)
  (q_Choice_picks:PySem.W.findIn K (.ref y_Choice) "picks" = some none)
  (q_Choice_wood:PySem.W.findIn K (.ref y_Choice) "wood" = some none)
  : (∃fd:FuncData,(∀(s:Shared)(v:Value),BindsTo s fd ⟨[v],[]⟩ [("_law_script",v)])∧∀base:Heap,K.In base→base.Ns mainGlobals mg→(∀p∈([(cc12,tt12)]:List (Addr×Addr)),zkp mg base p.1 p.2)→FnOk l.prog w K mg base CX0 29 fa fd ["_law_script"] (spT tt12 (zrc K))):=by
 have e:=hfa.symm.trans (PySem.W.mg_of X G a39.1)
 cases e
 have T:Txt K mg ⟨f1,f2,f3,f4,f5,f6,f7,f8,f9,f10,f11,f12,f13,f14,f15,f16,f17,f18,f19,f20,f21,f22,f23,f24,f25,f26,f27,f28,f29,f30,f31,f32,f33,f34,f35,f36,f37,f38,fa,f40,f41,f42,f43,f44,f45,f46,cc12,tt12,y_Choice⟩ ⟨d1,d2,d3,d4,d5,d6,d7,d8,d9,d10,d11,d12,d13,d14,d15,d16,d17,d18,d19,d20,d21,d22,d23,d24,d25,d26,d27,d28,d29,d30,d31,d32,d33,d34,d35,d36,d37,d38,d39,d40,d41,d42,d43,d44,d45,d46⟩:=⟨PySem.W.mg_none_of X G z1,PySem.W.mg_none_of X G z2,PySem.W.mg_none_of X G z3,PySem.W.mg_none_of X G z4,PySem.W.mg_none_of X G z5,PySem.W.mg_none_of X G z6,PySem.W.mg_none_of X G z7,PySem.W.mg_none_of X G z8,PySem.W.mg_none_of X G z9,PySem.W.mg_none_of X G z10,a1.df X G (bd2 fun _ _ _ _ _ _ _ _=>rfl),a2.df X G (bd2 fun _ _ _ _ _ _ _ _=>rfl),a3.df X G (bd3 fun _ _ _ _ _ _ _ _ _=>rfl),a4.df X G (bd1 fun _ _ _ _ _ _ _=>rfl),a5.df X G (bd2 fun _ _ _ _ _ _ _ _=>rfl),a6.df X G (bd2 fun _ _ _ _ _ _ _ _=>rfl),a7.df X G (bd1 fun _ _ _ _ _ _ _=>rfl),a8.df X G (bd3 fun _ _ _ _ _ _ _ _ _=>rfl),a9.df X G (bd3 fun _ _ _ _ _ _ _ _ _=>rfl),a10.df X G (bd3 fun _ _ _ _ _ _ _ _ _=>rfl),a11.df X G (bd4 fun _ _ _ _ _ _ _ _ _ _=>rfl),a12.df X G (bd4 fun _ _ _ _ _ _ _ _ _ _=>rfl),a13.df X G (bd3 fun _ _ _ _ _ _ _ _ _=>rfl),a14.df X G (bd5 fun _ _ _ _ _ _ _ _ _ _ _=>rfl),a15.df X G (bd3 fun _ _ _ _ _ _ _ _ _=>rfl),a16.df X G (bd4 fun _ _ _ _ _ _ _ _ _ _=>rfl),a17.df X G (bd4 fun _ _ _ _ _ _ _ _ _ _=>rfl),a18.df X G (bd3 fun _ _ _ _ _ _ _ _ _=>rfl),a19.df X G (bd4 fun _ _ _ _ _ _ _ _ _ _=>rfl),a20.df X G (bd2 fun _ _ _ _ _ _ _ _=>rfl),a21.df X G (bd1 fun _ _ _ _ _ _ _=>rfl),a22.df X G (bd2 fun _ _ _ _ _ _ _ _=>rfl),a23.df X G (bd2 fun _ _ _ _ _ _ _ _=>rfl),a24.df X G (bd3 fun _ _ _ _ _ _ _ _ _=>rfl),a25.df X G (bd3 fun _ _ _ _ _ _ _ _ _=>rfl),a26.df X G (bd4 fun _ _ _ _ _ _ _ _ _ _=>rfl),a27.df X G (bd4 fun _ _ _ _ _ _ _ _ _ _=>rfl),a28.df X G (bd2 fun _ _ _ _ _ _ _ _=>rfl),a29.df X G (bd2 fun _ _ _ _ _ _ _ _=>rfl),a30.df X G (bd3 fun _ _ _ _ _ _ _ _ _=>rfl),a31.df X G (bd2 fun _ _ _ _ _ _ _ _=>rfl),a32.df X G (bd2 fun _ _ _ _ _ _ _ _=>rfl),a33.df X G (bd1 fun _ _ _ _ _ _ _=>rfl),a34.df X G (bd1 fun _ _ _ _ _ _ _=>rfl),a35.df X G (bd3 fun _ _ _ _ _ _ _ _ _=>rfl),a36.df X G (bd4 fun _ _ _ _ _ _ _ _ _ _=>rfl),a37.df X G (bd3 fun _ _ _ _ _ _ _ _ _=>rfl),a38.df X G (bd5 fun _ _ _ _ _ _ _ _ _ _ _=>rfl),a39.df X G (bd1 fun _ _ _ _ _ _ _=>rfl),⟨p5_Choice,a40.1,a40.2.1,p6_Choice⟩,a40.dm (bd2 fun _ _ _ _ _ _ _ _=>rfl),⟨a41.1,a41.2.1,a41.2.2.kp⟩,a41.dm (bd1 fun _ _ _ _ _ _ _=>rfl),⟨a42.1,a42.2.1,a42.2.2.kp⟩,a42.dm (bd1 fun _ _ _ _ _ _ _=>rfl),⟨a43.1,a43.2.1,a43.2.2.kp⟩,a43.dm (bd1 fun _ _ _ _ _ _ _=>rfl),⟨a44.1,a44.2.1,a44.2.2.kp⟩,a44.dm (bd3 fun _ _ _ _ _ _ _ _ _=>rfl),⟨a45.1,a45.2.1,a45.2.2.kp⟩,a45.dm (bd2 fun _ _ _ _ _ _ _ _=>rfl),⟨a46.1,a46.2.1,a46.2.2.kp⟩,a46.dm (bd3 fun _ _ _ _ _ _ _ _ _=>rfl),e12,PySem.W.mg_of X G gm_Choice,⟨p1_Choice,p2_Choice,p3_Choice,p4_Choice⟩,q_Choice_picks,q_Choice_wood⟩
 exact⟨d39,zyy a39.2 fun _ _ _ _ _ _ _=>rfl,fun base _ _ LL=>zxx T (LL _ List.mem_cons_self)⟩
theorem walk{l:PySem.W.OpenLaw}{q:Program}{loose:List Str}{XP:(Str→Option Value)→Heap→Prop}{YP:World→Heap→Prop}{d:DefRec}{K:Params→PySem.W.Frag}{c12 P12:Addr}(hn:l.most=some 63)(hdf:d.params.defaults=[])
  (hY:∀(w:World)(h:Heap),YP w h→(K w.params).In h)
  (hK0:∀w:World,PySem.W.noTabs (K w.params)=true) (hT:∀(w:World)(h:Heap),YP w h→PySem.W.TabsAt [(c12,P12)] h)
(F:∀(w:World)(mg:Str→Option Value)(fa:Addr)(h:Heap),(K w.params).In h→h.Ns mainGlobals mg→mg d.name=some (.ref fa) →
   ∃fd:FuncData,(∀(s:Shared)(u:Value),BindsTo s fd ⟨[u],[]⟩ [("_law_script",u)])∧∀base:Heap,(K w.params).In base→base.Ns mainGlobals mg→(∀p∈([(c12,P12)]:List (Addr×Addr)),zkp mg base p.1 p.2)→FnOk l.prog w (K w.params) mg base CX0 29 fa fd ["_law_script"] (spT P12 (zrc (K w.params)))):
  PySem.W.WalkO q loose XP YP l.row.toRowW d [] (fun f vs=>PySem.call f vs):=
 L2.walk_ofT (n:=63) (k:=29) (x := "_law_script") (tabs:=fun _=>[(c12,P12)]) (sp:=fun w=>(spT P12 (zrc (K w.params)))) hn (by decide) hdf ⟨rfl,by decide,by decide⟩ hY hK0 hT F (fun _ _ a ns hl hT hS=>⟨hT _ List.mem_cons_self,a,ns,rfl,hS,hl,fun _=>rfl⟩)
end Ow
structure PySem.W.Fast:Prop where
 (tw17119978646667016543 tw13188359651353120364 tw15192124845012870190 tw18306299605906229688 tw3619458976634420459 tw16096127837153715222 tw15868749246707467717 tw14391213096865102687 tw1133962727833878876 tw2347645078637541440 tw4373315675783343066 tw3030690768916786741 tw615500358996270038 tw4207761439008164061 tw5806088431275899287 tw11438195456386947851 tw14239466469876678247 tw10763120060995535874 tw1288761100022552454 tw17806348745219712637 tw14840986442612534490 tw1231840814175121404 tw16036156141915783050 tw9869404887297687950 tw3410082630017595236 tw14541348324904952272 tw4566862702529274958 tw3212731606102676384 tw5674554237564619374 tw3340323962174465728 tw2506019304113240369 tw6908818488188394035 tw7184542066193074062 tw1353717499632056806 tw6649845243588045719 tw12591951348573507745 tw13090013682375916954 tw4315363224819847516 tw3257067784654103384 tw9188393886509847571 tw10182827416092727668 tw13725556400756308188 tw16167070533631505405 tw12065251954892089657 tw14897126491983519969 tw206894281956129445 tw18225261654207854842 tw8682609790485358057 tw6629139103086830034 tw1491881007827888365 tw5178896831258217623 tw5871041997477090127 tw807298696175796102 tw13843518812573190091 tw1259838422576026640 tw16937685121818675160 tw7062795839246719840 tw11746805985078204878 tw4868750946925905053 tw8514549492619909669 tw9180565460335315139 tw14299052085697387049 tw13345579515415579661 tw5118650911944919319 tw5727085040257484965 tw1798578190202557143 tw8752566623017625110 tw18168786855547776870 tw15148543066923301280 tw11708118720284920107 tw14209278029974206225 tw17519263508665237061 tw16049979651948029649 tw6956996400100911755 tw4195603138233292590 tw3589837036408022263 tw7588170642264341908 tw10450287218902116371 tw208185992236168764 tw8540820433454612719 tw14199706343876889086 tw13211067687881726367 tw17472798295022789566 tw1340358722336407484 tw12488856699502391142 tw12283025402021223564 tw6065059633481326519 tw5126115026521035836 tw8640807070830239222 tw706625952989470120 tw16283630515132831322 tw187241617007459808 tw5393440583692147622 tw690164587457789573 tw2060493173266335411 tw13290656147164941676 tw4713844985819275013 tw10462805954926715553 tw5888048752693572616 tw7826909224545490996 tw2332994860359684665 tw5740520386487896608 tw273465277459585795 tw2663584247385548831 tw1269395283870687934 tw13001164981277557229 tw14265721474533814985 tw13308173704021627203 tw9120900765859989935 tw5202769812238145677 tw10888326141218573683 tw9501476418266397748 tw7837020676837456965 tw15573555016759444730 tw4301010772758487862 tw15416494350005372326 tw14139558923989127520 tw4779099796605208398 tw11585733030685785541 tw18114720963099195025 tw8515547300567892583 tw167510096602284323 tw5545486295207344797 tw14100168920291821932 tw746241822232930275 tw7615300669432394992 tw16879268670093816035 tw1290855377969770010 tw1120196865989037038 tw16510923517972282438 tw13965444281062045359 tw3918988840551938903 tw7293382228148980495 tw9057922629075583431 tw7382966399975702536 tw14524286941241632303 tw14355398453830001352 tw9913380935057483774 tw4021268268650864596 tw10893767056926931547 tw2243478411359275102 tw10751888082194449811 tw5495174211117863918 tw9765259961764103578 tw4465881341843436591 tw6160080375354428689 tw10518869477626071511 tw13729506870418963569 tw3238699728092048542 tw11083935573547291188 tw2815684999355868179 tw14622613876963268108 tw4324394230177108294 tw3586987735963251629 tw4803768390488191686 tw9994678322194461165 tw1182112538421162281 tw17067367523522727974 tw7303450412367644709 tw321217730361813381 tw4700054193329627391 tw15784504805816391611 tw4940264163398200751 tw4933002808603161411 tw16616453059097829443 tw2371991963929151212 tw7538890094203063147 tw8135085972894197728 tw2777236664905458971 tw4998457803130564171 tw17484276130437213045 tw7920533442330870313 tw5317191399787675848 tw7731034709481471784 tw12315533939483593031 tw10272278331299390979 tw1203590430064065325 tw5958124960178167863 tw6533978379889150233 tw9462405082634531029 tw11034360153463849759 tw12395536218187103593 tw12384623416768769435 tw2470061294746297968 tw9982001679133983322 tw10692065488697825323 tw6490658504439848758 tw11309162069030770866 tw2239724688179313806 tw5917839144900160546 tw16688106733256980455 tw579723598487889626 tw4400004482612602310 tw7717228613333408526 tw8335500368642112330 tw10813105999606522542 tw9541736270743289196 tw16280843431599554000 tw12397809738437730736 tw9796992302402608267 tw6550708480567246851 tw11160131485729566061 tw713748379446145767 tw1586960757833390442 tw7232837308924190008 tw9236332082437453680 tw12243024604428521113 tw17719901923896508686 tw6054470943932726560 tw779207715138494816 tw16463468518640155545 tw14236831856720480210 tw4925211899154240680 tw8056714471505936757 tw2876403337399232008 tw9559413732258390878 tw4724492554605669824 tw6433081891374303182 tw16502775358858325588 tw13780551687623328775 tw13085356961161544454 tw16027157657658022214 tw3561692592362458981 tw2658863501207357333 tw7365251301681689805 tw10440922396954345628 tw7346397871731886731 tw1128998244086981104 tw15703510546342997390 tw1594253492454659523 tw1245850779529754842 tw14238225113934253447 tw2753793136996227679 tw7843401272227376200 tw13770252211020948298 tw8931324210801106061 tw11332789452333622879 tw5075832914618625155 tw5260608702460782917 tw9034850487177119189 tw181513027053747895 tw10472410293861164236 tw3233065090507719406 tw15271319263371631444 tw10995735935937221657 tw8863328672720847021 tw11517214114513073423 tw5864634775415864058 tw6411950939883756049 tw9096985466183988418 tw14406440812868004458 tw9577659164057476810 tw438773685907179017 tw15273348360845448884 tw663888709501986808 tw9880829162521015785 tw6871612127054343159 tw5845834169035553407 tw17917853717075378324 tw6907808253809915495 tw6860520794682270227 tw2472323286649806988 tw17580285404501899273 tw12711165922123165280 tw9705856510871156355 tw6251320482689933906 tw11104604898335258982 tw11168143181245022311 tw13877531729058671039 tw4059715920504188267 tw13335291338886976910 tw5833042493964960196 tw4189989976607262206 tw11162838601326776791 tw13899189242908189252 tw5330864380449026740 tw1089886863872008381 tw8199483317796593060 tw9577475066939758064 tw14480561089259188936 tw1015593389508613835 tw1394026466448612666 tw2550978395371948566 tw1185669990108288686 tw4355633892193636078 tw14969653425409457338 tw16106933667874380796 tw11397567583701335984 tw9026000978340856250 tw15394095672422229201 tw7271471914944493038 tw4163663151113290970 tw18235105239415153487 tw16002050497070446671 tw3170899172837929696 tw3846241748385636916 tw10406355487041670435 tw1301068816027329925 tw5979268570411995306 tw1030802417642866912 tw15112644635690112784 tw6490265166181396658 tw476590222470228361 tw5078103758535188815 tw8418262947756034215 tw4897618814524731877 tw13373571544997835196 tw13800485680362089189 tw16897497784710110996 tw3417664241405184772 tw12261851146881407651 tw16149036828986880435 tw7534648557156701234 tw3334021753567886287 tw8931297128666563926 tw5907421199454750274 tw3023616308503406154 tw656950939385755086 tw6486434025133108188 tw503065214367481768 tw12637948754577593355 tw5721264576240897913 tw461683412756716120 tw15646894683082932165 tw2457671287784604879 tw4002776087595180705 tw11450560060919088598 tw5305130467699750428 tw11428031999155799994 tw8155853966122905888 tw3826533257535407870 tw17003537730562094581 tw1244737235659044967 tw4046161053439735873 tw12553251152189477971 tw14226220314167871066 tw5159388740502993778 tw14969141809275495922:True)
open PySem PySem.W PyProof.Rows
set_option maxRecDepth 100000 in
set_option maxHeartbeats 0 in
theorem PySem.Challenge.cw_optionwood_k45_whole_why_holds_elsewhere_holds : PySem.Challenge.rw_optionwood_k45_whole_why_holds_elsewhere.Holds := by
 w_on; o_law; k_head; (case hw => w_witness2)
 k_fill
 refine' Ow.walk (l := PySem.Challenge.rw_optionwood_k45_whole_why_holds_elsewhere) (c12 := _) (P12 := _) rfl rfl (fun w h Y => PySem.W.km_in_of Y) ?K0 ?hT ?F
 case F =>
  intro w mg fa h KX G aa
  refine' Ow.all_mk KX G aa ?a1 ?a2 ?a3 ?a4 ?a5 ?a6 ?a7 ?a8 ?a9 ?a10 ?a11 ?a12 ?e12 ?m12 ?n12 ?a13 ?a14 ?a15 ?a16 ?a17 ?a18 ?a19 ?a20 ?a21 ?a22 ?a23 ?a24 ?a25 ?a26 ?a27 ?a28 ?a29 ?a30 ?a31 ?a32 ?a33 ?a34 ?a35 ?a36 ?a37 ?a38 ?a39 ?a40 ?a41 ?a42 ?a43 ?a44 ?a45 ?a46 ?z1 ?z2 ?z3 ?z4 ?z5 ?z6 ?z7 ?z8 ?z9 ?z10 ?gm_Choice ?p1_Choice ?p2_Choice ?p3_Choice ?p4_Choice ?p5_Choice ?p6_Choice ?q_Choice_picks ?q_Choice_wood
  (case gm_Choice => k_is)
  all_goals try (refine' L2.dk ?a ?l ?c ?k; (case a => k_is); (case l => k_is); (case c => k_is); (case k => k_is))
  all_goals try (refine' L2.dq ?a ?l ?c ?k ?i; (case a => k_is); (case l => k_is); (case c => k_is); (case k => k_is); (case i => k_is))
  (case e12 => exact rfl)
  (case m12 => k_is)
  (case n12 => exact rfl)
  (case z1 => k_is)
  (case z2 => k_is)
  (case z3 => k_is)
  (case z4 => k_is)
  (case z5 => k_is)
  (case z6 => k_is)
  (case z7 => k_is)
  (case z8 => k_is)
  (case z9 => k_is)
  (case z10 => k_is)
  (case p1_Choice => first | k_is | kernel_rfl)
  (case p2_Choice => first | k_is | kernel_rfl)
  (case p3_Choice => first | k_is | kernel_rfl)
  (case p4_Choice => first | k_is | kernel_rfl)
  (case p5_Choice => first | k_is | kernel_rfl)
  (case p6_Choice => first | k_is | kernel_rfl)
  (case q_Choice_picks => first | k_is | kernel_rfl)
  (case q_Choice_wood => first | k_is | kernel_rfl)
 case K0 => intro w; kernel_rfl
 case hT =>
  intro w h Y q hq
  simp only [List.mem_cons, List.not_mem_nil, or_false] at hq
  subst hq
  exact ⟨PySem.W.codeHd_of_K (PySem.W.km_in_of Y) (by kernel_rfl), PySem.W.km_tabs_of Y _ (by decide)⟩
#print axioms PySem.Challenge.cw_optionwood_k45_whole_why_holds_elsewhere_holds

