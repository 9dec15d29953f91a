import PyProof.Rows.All
import Wide.All
import OpenK.AllK
import Wide.FinOn
import Lean
import PyProof.EqAt
import PyProof.EqKinds
import PyProof.TupleCall
import PySem.Challenge.RW_optionwood_k73_whole_folded_sells_the_sa
set_option Elab.async false
set_option linter.all false
set_option maxRecDepth 100000
set_option maxRecDepth 100000
set_option maxHeartbeats 4000000
namespace L2
open PySem PySem.Spec PyProof.Rows
abbrev Key:=Sum Int Str
def zyf:Key→Value→Bool
 |.inl k,v=>Value.isInt k v
 |.inr x,v=>Value.isStrOf x v
def zA8(w:World):Key→Int
 |.inl k=>hashInt k
 |.inr x=>hashStr w x
theorem zb1:∀{k:Key} {v:Value},zyf k v=true→(∃i t,k=Sum.inl i∧v=Value.int i t)∨(∃x t,k=Sum.inr x∧v=Value.str x t)
 |.inl i,v,h=>by
  obtain⟨t,e⟩:=Value.isInt_shape (k:=i) (v:=v) h
  exact .inl ⟨i,t,rfl,e⟩
 |.inr x,v,h=>by
  obtain⟨t,e⟩:=Value.isStrOf_shape (x:=x) (v:=v) h
  exact .inr ⟨x,t,rfl,e⟩
theorem zze(a b:Int):decide ((Sum.inl a:Key)=Sum.inl b)=(a==b):=by
 by_cases e:a=b
 ·subst e;simp
 ·have h:¬(Sum.inl a:Key)=Sum.inl b:=fun q=>e (Sum.inl.inj q)
  rw[decide_eq_false h]
  exact(beq_eq_false_iff_ne.mpr e).symm
theorem zyw(a b:Str):decide ((Sum.inr a:Key)=Sum.inr b)=decide (a=b):=by
 by_cases e:a=b
 ·subst e;simp
 ·have h:¬(Sum.inr a:Key)=Sum.inr b:=fun q=>e (Sum.inr.inj q)
  rw[decide_eq_false h,decide_eq_false e]
theorem zzl(a:Int)(b:Str):decide ((Sum.inl a:Key)=Sum.inr b)=false:=decide_eq_false (fun q=>nomatch q)
theorem zyt(a:Str)(b:Int):decide ((Sum.inr a:Key)=Sum.inl b)=false:=decide_eq_false (fun q=>nomatch q)
def zsd(prog:Program)(w:World):PySem.KeyKind prog w Key where
 is:=zyf
 hash:=zA8 w
 inj:=fun v a b ha hb=>by
  rcases zb1 ha with⟨i,t,rfl,rfl⟩|⟨x,t,rfl,rfl⟩
  ·rcases zb1 hb with⟨j,u,rfl,e⟩|⟨y,u,rfl,e⟩
   ·injection e with e1 _;rw[e1]
   ·exact nomatch e
  ·rcases zb1 hb with⟨j,u,rfl,e⟩|⟨y,u,rfl,e⟩
   ·exact nomatch e
   ·injection e with e1 _;rw[e1]
 byValue:=fun k v h=>by
  rcases zb1 h with⟨i,t,rfl,rfl⟩|⟨x,t,rfl,rfl⟩<;>rfl
 pyHash:=fun hv h=>by
  rcases zb1 hv with⟨i,t,rfl,rfl⟩|⟨x,t,rfl,rfl⟩
  ·exact wpAny_pyHash_int h
  ·exact wpAny_pyHash_str h
 eqBool:=fun hu hv h=>by
  rcases zb1 hu with⟨i,t,rfl,rfl⟩|⟨x,t,rfl,rfl⟩
  ·rcases zb1 hv with⟨j,u,rfl,rfl⟩|⟨y,u,rfl,rfl⟩
   ·rw[zze] at h;exact wpAny_eqBool_int h
   ·rw[zzl] at h;exact SeqAt.EqAt.int_str i t y u _ _ _ _ h
  ·rcases zb1 hv with⟨j,u,rfl,rfl⟩|⟨y,u,rfl,rfl⟩
   ·rw[zyt] at h;exact SeqAt.EqAt.str_int x t j u _ _ _ _ h
   ·rw[zyw] at h;exact wpAny_eqBool_str h
 «strs»:=fun k x t v h=>by
  rcases zb1 h with⟨i,u,rfl,e⟩|⟨y,u,rfl,e⟩
  ·exact nomatch e
  ·injection e with e1 _
   subst e1
   cases v<;>rfl
inductive V where
 |non|bl (b:Bool)|int (i:Int)|str (x:Str)|byt (b:Array UInt8)|flt (b:UInt64)|ref (a:Addr)|ty (n:String)
 deriving DecidableEq
def RelV:V→Value→Prop
 |.non,u=>u=Value.none
 |.bl b,u=>u=Value.bool b
 |.int i,u=>∃t,u=Value.int i t
 |.str x,u=>∃t,u=Value.str x t
 |.byt b,u=>∃t,u=Value.bytes b t
 |.flt b,u=>∃t,u=Value.float b t
 |.ref a,u=>u=Value.ref a
 |.ty n,u=>u=Value.type n
abbrev Vals:List V→List Value→Prop:=Paired RelV
theorem Vals.length{xs:List V}{us:List Value}(r:Vals xs us):xs.length=us.length:=Paired.length r
theorem Vals.get:∀{xs:List V} {us:List Value} {i:Nat} {x:V},Vals xs us→xs[i]?=some x→∃u,us[i]?=some u∧RelV x u
 |_,_,_,_,.nil,e=>by simp at e
 |_,_,0,_,.cons r _,e=>by simp at e;subst e;exact⟨_,rfl,r⟩
 |_,_,i+1,x,.cons _ t,e=>by
  obtain⟨u,h1,h2⟩:=Vals.get (i:=i) (x:=x) t (by simpa using e)
  exact⟨u,by simpa using h1,h2⟩
theorem Vals.set{x:V}{u:Value}(r:RelV x u):∀{xs:List V} {us:List Value} (i:Nat),Vals xs us→Vals (xs.set i x) (us.set i u)
 |_,_,_,.nil=>.nil
 |_,_,0,.cons _ t=>.cons r t
 |_,_,i+1,.cons q t=>.cons q (Vals.set r i t)
theorem Vals.append:∀{xs ys:List V} {us ws:List Value},Vals xs us→Vals ys ws→Vals (xs++ys) (us++ws)
 |_,_,_,_,.nil,s=>s
 |_,_,_,_,.cons r t,s=>.cons r (Vals.append t s)
theorem Vals.take:∀{xs:List V} {us:List Value} (n:Nat),Vals xs us→Vals (xs.take n) (us.take n)
 |_,_,0,_=>.nil
 |_,_,_+1,.nil=>.nil
 |_,_,n+1,.cons r t=>.cons r (Vals.take n t)
theorem Vals.drop:∀{xs:List V} {us:List Value} (n:Nat),Vals xs us→Vals (xs.drop n) (us.drop n)
 |_,_,0,r=>r
 |_,_,_+1,.nil=>.nil
 |_,_,n+1,.cons _ t=>Vals.drop n t
def zyp:Option V→Option Value→Prop
 |some v,some u=>RelV v u
 |none,none=>True
 |_,_=>False
def KV{κ:Type}:List (κ×V)→List (κ×Value)→Prop:=Paired fun(p:κ×V)(q:κ×Value)=>p.1=q.1∧RelV p.2 q.2
def kV:Key→V
 |.inl i=>.int i
 |.inr x=>.str x
inductive HO where
 |lst (xs:List V)
 |tup (xs:List V)
 |dK (kvs:List (Key×V))|dT (kvs:List (List Key×V))
 |set (S:Int→Bool) (n:Nat)
 |ins (C dx:Addr) (fs:List (Str×V))
 |own (x:Addr)
 |xd (fs:List (Str×V))
 |met (f x:Addr)
 |rng (lo hi:Int)
 |frz (o:Obj) (u:HO)
 |tbl (ps:Array Value)
 |ext (φ:Heap→Prop)
abbrev Hp:=Addr→Option HO
def upd(H:Hp)(a:Addr)(o:HO):Hp:=fun b=>if b=a then some o else H b
theorem zaf{H:Hp}{a:Addr}{o:HO}:upd H a o a=some o:=by unfold upd;rw[if_pos rfl]
theorem zaq{H:Hp}{a b:Addr}{o:HO}(h:b≠a):upd H a o b=H b:=by unfold upd;rw[if_neg h]
theorem zp8{H:Hp}{a b:Addr}{o u:HO}(h:H a=some o)(h':H b=some u)(d:o≠u):a≠b:=by
 intro e;subst e;rw[h] at h';exact d (Option.some.inj h')
theorem zax{H:Hp}{a b:Addr}{o:HO}(h:H a=some o)(h':H b=none):a≠b:=by
 intro e;subst e;rw[h] at h';cases h'
section
variable (P : Program) (w : World)
def ObjOk(H:Hp)(h:Heap)(a:Addr):HO→Prop
 |.lst xs=>xs.length≤sizeLine∧∃(its:List Value)(n:Nat),Vals xs its∧h.get? a=some { cls:=.type "list",data:=.seq its.toArray n }
 |.tup xs=>xs.length≤sizeLine∧∃its:List Value,Vals xs its∧IsTup h a its.toArray
 |.dK kvs=>kvs.length≤sizeLine∧(a==sysModules)=false∧∃vs,KV kvs vs∧h.DictOf (zsd P w) a vs
 |.dT kvs=>kvs.length≤sizeLine∧(a==sysModules)=false∧∃xs:List (List Key×Addr×Value),
   Paired (fun(p:List Key×V)(q:List Key×Addr×Value)=>p.1=q.1∧H q.2.1=some (.tup (p.1.map kV))∧RelV p.2 q.2.2) kvs xs ∧
   ∃o es ep,h.get? a=some o∧o.ExactDict∧o.data=.dict es ep∧es.toList=xs.map (entryOfKey (tupleKind (zsd P w)))∧(xs.map (·.1)).Nodup
 |.set S n=>h.SetOf (intKind P w) a S n
 |.ins C dx fs=>H dx=some (.own a)∧fs.length≤1000∧dx≠a∧h.get? a=some (PySem.W.instObj C dx) ∧
   ∃mA,h.Ns1 dx mA∧(∀f,zyp (fs.lookup f) (mA f))∧PySem.Within mA (fs.map (·.1))
 |.own _=>∃o,h.get? a=some o
 |.xd fs=>∃mA,h.Ns1 a mA∧∀f,zyp (fs.lookup f) (mA f)
 |.rng lo hi=>∃t u v,h.get? a=some { cls:=.type "range",data:=.fields #[.int lo t,.int hi u,.int 1 v] }
 |.frz o u=>h.get? a=some o∧ObjOk H h a u
 |.tbl ps=>h.get? a=some { cls:=.none,data:=.fields ps }
 |.met f x=>h.get? a=some (PySem.W.methodObj (.ref f) (.ref x))
 |.ext φ=>φ h∧(∃o,h.get? a=some o)∧∀h1 h2:Heap,φ h1→(∀o,h1.get? a=some o→h2.get? a=some o)→φ h2
def HOk(H:Hp)(h:Heap):Prop:=∀a o,H a=some o→ObjOk P w H h a o
end
section
variable {P : Program} {w : World} {H H' : Hp} {h h' : Heap} {a : Addr} {o : HO}
theorem ObjOk.lt(x:ObjOk P w H h a o):a<h.objs.size:=by
 cases o with
 |lst xs=>obtain⟨_,_,_,_,e⟩:=x;exact Heap.lt_size e
 |tup xs=>obtain⟨_,_,_,p⟩:=x;exact p.lt
 |dK kvs=>obtain⟨_,_,_,_,o,_,_,e,_⟩:=x;exact Heap.lt_size e
 |dT kvs=>obtain⟨_,_,_,_,o,_,_,e,_⟩:=x;exact Heap.lt_size e
 |set S n=>obtain⟨o,_,_,_,e,_⟩:=x;exact Heap.lt_size e
 |ins C dx fs=>obtain⟨_,_,_,e,_⟩:=x;exact Heap.lt_size e
 |own y=>obtain⟨_,e⟩:=x;exact Heap.lt_size e
 |xd fs=>obtain⟨_,⟨_,_,_,e,_⟩,_⟩:=x;exact Heap.lt_size e
 |rng lo hi=>obtain⟨_,_,_,e⟩:=x;exact Heap.lt_size e
 |frz ob u=>obtain⟨e,_⟩:=x;exact Heap.lt_size e
 |tbl ps=>exact Heap.lt_size (show h.get? a=some _ from x)
 |met f y=>exact Heap.lt_size (show h.get? a=some _ from x)
 |ext φ=>obtain⟨_,⟨_,e⟩,_⟩:=x;exact Heap.lt_size e
theorem Paired.mapP{α β:Type}{F G:α→β→Prop}:∀{l₁:List α} {l₂:List β},Paired F l₁ l₂→(∀a b,F a b→G a b)→Paired G l₁ l₂
 |_,_,.nil,_=>.nil
 |_,_,.cons r t,f=>.cons (f _ _ r) (Paired.mapP t f)
theorem ObjOk.stay(x:ObjOk P w H h a o)(k:∀b u,(b=a∨H b=some (.own a))→h.get? b=some u→h'.get? b=some u)
  (ho:∀b,H b=some (.own a)→H' b=some (.own a)) (ht:∀b xs,H b=some (.tup xs)→H' b=some (.tup xs)):ObjOk P w H' h' a o:=by
 induction o with
 |lst xs=>obtain⟨z,ad,n,r,e⟩:=x;exact⟨z,ad,n,r,k _ _ (.inl rfl) e⟩
 |tup xs=>obtain⟨z,ad,r,ob,e,c⟩:=x;exact⟨z,ad,r,ob,k _ _ (.inl rfl) e,c⟩
 |dK kvs=>obtain⟨z,y,vs,r,ob,es,ep,e,c⟩:=x;exact⟨z,y,vs,r,ob,es,ep,k _ _ (.inl rfl) e,c⟩
 |dT kvs=>
  obtain⟨z,y,xs,r,ob,es,ep,e,c⟩:=x
  exact⟨z,y,xs,Paired.mapP r fun p q z=>⟨z.1,ht _ _ z.2.1,z.2.2⟩,ob,es,ep,k _ _ (.inl rfl) e,c⟩
 |set S n=>obtain⟨ob,es,ep,t,e,c⟩:=x;exact⟨ob,es,ep,t,k _ _ (.inl rfl) e,c⟩
 |ins C dx fs=>
  obtain⟨d,z,ne,e,mA,⟨od,es,ep,e2,c⟩,r⟩:=x
  exact⟨ho _ d,z,ne,k _ _ (.inl rfl) e,mA,⟨od,es,ep,k _ _ (.inr d) e2,c⟩,r⟩
 |own y=>obtain⟨ob,e⟩:=x;exact⟨ob,k _ _ (.inl rfl) e⟩
 |xd fs=>obtain⟨mA,⟨od,es,ep,e,c⟩,r⟩:=x;exact⟨mA,⟨od,es,ep,k _ _ (.inl rfl) e,c⟩,r⟩
 |rng lo hi=>obtain⟨t,u,v,e⟩:=x;exact⟨t,u,v,k _ _ (.inl rfl) e⟩
 |frz ob u ih=>obtain⟨e,q⟩:=x;exact⟨k _ _ (.inl rfl) e,ih q⟩
 |tbl ps=>
  have e:h.get? a=some { cls:=.none,data:=.fields ps }:=x
  show h'.get? a=some { cls:=.none,data:=.fields ps }
  exact k a _ (.inl rfl) e
 |met f y=>
  have e:h.get? a=some (PySem.W.methodObj (.ref f) (.ref y)):=x
  show h'.get? a=some (PySem.W.methodObj (.ref f) (.ref y))
  exact k a _ (.inl rfl) e
 |ext φ=>obtain⟨p,⟨o,e⟩,st⟩:=x;exact⟨st _ _ p fun o q=>k _ _ (.inl rfl) q,⟨o,k _ _ (.inl rfl) e⟩,st⟩
theorem HOk.lt(x:HOk P w H h)(e:H a=some o):a<h.objs.size:=(x a o e).lt
theorem HOk.fresh(x:HOk P w H h)(e:h.objs.size≤a):H a=none:=by
 cases q:H a with
 |none=>rfl
 |some u=>exact absurd (Nat.lt_of_lt_of_le (x.lt q) e) (Nat.lt_irrefl _)
theorem HOk.kept(x:HOk P w H h)(k:∀b u,h.get? b=some u→h'.get? b=some u):HOk P w H h':=fun a o e=>
 (x a o e).stay (fun b u _ q=>k b u q) (fun _ q=>q) fun _ _ q=>q
theorem HOk.laid(x:HOk P w H h)(k:∀b u,h.get? b=some u→h'.get? b=some u)(hp:h.objs.size≤a)(new:ObjOk P w (upd H a o) h' a o):HOk P w (upd H a o) h':=fun b u e=>by
 have hn:=x.fresh hp
 by_cases hb:b=a
 ·subst hb;rw[zaf] at e;cases e;exact new
 ·rw[zaq hb] at e
  exact(x b u e).stay (fun c v _ q=>k c v q) (fun c q=>by rw[zaq (zax q hn)];exact q) fun c xs q=>by rw[zaq (zax q hn)];exact q
end
def Rd(H:Hp)(a:Addr)(u:HO):Prop:=H a=some u∨∃o,H a=some (.frz o u)
theorem Rd.ok{P:Program}{w:World}{H:Hp}{h:Heap}{a:Addr}{u:HO}(r:Rd H a u)(x:HOk P w H h):ObjOk P w H h a u:=by
 rcases r with r|⟨o,r⟩
 ·exact x a u r
 ·obtain⟨_,q⟩:=x a _ r
  exact q
def Mut:Option HO→Prop
 |some (.lst _)=>True
 |some (.dK _)=>True
 |some (.dT _)=>True
 |some (.set _ _)=>True
 |some (.ins _ _ _)=>True
 |some (.ext _)=>True
 |_=>False
section
variable {P : Program} {w : World} {H : Hp} {h h' : Heap} {x e : Addr} {o' : HO}
theorem HOk.write(ok:HOk P w H h)(mu:Mut (H x))(he:e=x∨H e=some (.own x))(k:∀b u,b≠e→h.get? b=some u→h'.get? b=some u)(heo:∃u,h'.get? e=some u)
  (new:ObjOk P w (upd H x o') h' x o'):HOk P w (upd H x o') h':=fun b u q=>by
 have nown:∀c y,H c=some (.own y)→c≠x:=fun c y r z=>by subst z;rw[r] at mu;exact mu
 have ntup:∀c xs,H c=some (.tup xs)→c≠x:=fun c xs r z=>by subst z;rw[r] at mu;exact mu
 by_cases hb:b=x
 ·subst hb;rw[zaf] at q;cases q;exact new
 ·rw[zaq hb] at q
  by_cases hbe:b=e
  ·have q':H b=some (.own x):=by
    rcases he with z|z
    ·exact absurd (hbe.trans z) hb
    ·rw[hbe];exact z
   rw[q] at q';cases q'
   obtain⟨v,hv⟩:=heo
   exact⟨v,by rw[hbe];exact hv⟩
  ·refine(ok b u q).stay (fun c v hc r=>k c v ?_ r) (fun c r=>by rw[zaq (nown c b r)];exact r) fun c xs r=>by rw[zaq (ntup c xs r)];exact r
   rcases hc with rfl|hc
   ·exact hbe
   ·rintro rfl
    rcases he with z|z
    ·exact nown c b hc z
    ·rw[hc] at z;cases z;exact hb rfl
end
structure Un(fs ex:List Addr)(H H':Hp)(h h':Heap):Prop where
 keep:∀b o,h.get? b=some o→H b=none→b∉fs→b∉ex→h'.get? b=some o
 slot:∀b o,h.get? b=some o→H b=none→b∈fs→b∉ex→∃sl,h'.get? b=some { o with slots:=sl }
 free:∀b o,h.get? b=some o→H b=none→b∉ex→H' b=none
 there:∀b o,h.get? b=some o→b∉ex→∃o',h'.get? b=some o'
 tups:∀b xs,H b=some (.tup xs)→H' b=some (.tup xs)
 frzs:∀b o u,H b=some (.frz o u)→H' b=some (.frz o u)
 tbls:∀b ps,H b=some (.tbl ps)→∃more,H' b=some (.tbl (ps++more))
section
variable {fs fs' ex ex' : List Addr} {H H1 H2 : Hp} {h h1 h2 h' : Heap} {a x e : Addr} {o : HO}
theorem Un.any(u:Un fs ex H H1 h h1){b:Addr}{ob:Obj}(q:h.get? b=some ob)(n:H b=none)(hx:b∉ex):∃sl,h1.get? b=some { ob with slots:=sl }:=by
 by_cases hb:b∈fs
 ·exact u.slot b ob q n hb hx
 ·exact⟨ob.slots,u.keep b ob q n hb hx⟩
theorem Un.kept(k:∀b u,h.get? b=some u→h'.get? b=some u):Un fs ex H H h h':=
 ⟨fun b ob q _ _ _=>k b ob q,fun b ob q _ _ _=>⟨ob.slots,k b ob q⟩,fun _ _ _ n _=>n,fun b ob q _=>⟨ob,k b ob q⟩,fun _ _ q=>q,fun _ _ _ q=>q,fun _ ps q=>⟨#[],by rw[q];simp⟩⟩
theorem Un.refl:Un fs ex H H h h:=Un.kept fun _ _ q=>q
theorem Un.laid(k:∀b u,h.get? b=some u→h'.get? b=some u)(hp:h.objs.size≤a)(hn:H a=none):Un fs ex H (upd H a o) h h' where
 keep:=fun b u q _ _ _=>k b u q
 slot:=fun b u q _ _ _=>⟨u.slots,k b u q⟩
 free:=fun b u q n _=>by rw[zaq (Nat.ne_of_lt (Nat.lt_of_lt_of_le (Heap.lt_size q) hp))];exact n
 there:=fun b u q _=>⟨u,k b u q⟩
 tups:=fun b xs q=>by rw[zaq (zax q hn)];exact q
 frzs:=fun b u xs q=>by rw[zaq (zax q hn)];exact q
 tbls:=fun b ps q=>⟨#[],by rw[zaq (zax q hn),q];simp⟩
theorem Un.write(mu:Mut (H x))(he:e=x∨H e=some (.own x))(k:∀b u,b≠e→h.get? b=some u→h'.get? b=some u)(heo:∃u,h'.get? e=some u):Un fs ex H (upd H x o) h h':=by
 have hx:∀b,H b=none→b≠x:=fun b n z=>by subst z;rw[n] at mu;exact mu
 have hb:∀b,H b=none→b≠e:=fun b n z=>by
  subst z
  rcases he with r|r
  ·exact hx b n r
  ·rw[n] at r;cases r
 have hm:∀b u,H b=some u→¬Mut (some u)→b≠x:=fun b u q nm z=>by subst z;rw[q] at mu;exact nm mu
 refine⟨fun b u q n _ _=>k b u (hb b n) q,fun b u q n _ _=>⟨u.slots,k b u (hb b n) q⟩,fun b u q n _=>by rw[zaq (hx b n)];exact n,fun b u q _=>?_,
  fun b xs q=>by rw[zaq (hm b _ q fun z=>z)];exact q,fun b u xs q=>by rw[zaq (hm b _ q fun z=>z)];exact q,fun b ps q=>⟨#[],by rw[zaq (hm b _ q fun z=>z),q];simp⟩⟩
 by_cases ad:b=e
 ·subst ad;exact heo
 ·exact⟨u,k b u ad q⟩
end
def trk(h:Heap)(H:Hp):List Addr:=(List.range h.objs.size).filter fun a=>(H a).isSome
def zl3(h:Heap)(H:Hp):Heap:=PySem.W.hideAll h (trk h H)
theorem ztg(h:Heap)(H:Hp):(zl3 h H).objs.size=h.objs.size:=PySem.W.hideAll_size _ _
theorem zvo{h:Heap}{H:Hp}{b:Addr}{o:Obj}(e:h.get? b=some o)(n:H b=none):(zl3 h H).get? b=some o:=
 PySem.W.hideAll_get _ e fun hm=>by
  have q:(H b).isSome=true:=(List.mem_filter.mp hm).2
  rw[n] at q;simp at q
theorem zw5{h:Heap}{H:Hp}{b:Addr}{o:Obj}(e:(zl3 h H).get? b=some o):h.get? b=some o∧H b=none:=by
 have e':h.get? b=some o:=PySem.W.of_hideAll (trk h H) e
 refine⟨e',?_⟩
 cases q:H b with
 |none=>rfl
 |some x=>
  have hm:b∈trk h H:=List.mem_filter.mpr ⟨List.mem_range.mpr (Heap.lt_size e'),by simp[q]⟩
  have z:(zl3 h H).get? b=none:=PySem.W.hideAll_none (trk h H) hm
  rw[z] at e;cases e
structure Mod(K:PySem.W.Frag)(mg:Str→Option Value)(base:Heap):Prop where
 kin:K.In base
 glob:base.Ns mainGlobals mg
 blt:∃mb,base.Ns builtinsNs mb∧∀x:Str,x ≠ "__name__" → mb x=bootBuiltins x
 nolimit:base.NoLimit
structure Cx where
 prog:Program
 w:World
 K:PySem.W.Frag
 mg:Str→Option Value
 base:Heap
 A:Around
 N:List Str
 s₀:Shared
 H₀:Hp
 env:Env
 outer:List Env
 stack:List Env
 ex:List Addr
 fn:Str→Bool
 calm:Bool
 pn:List (Addr×Obj)
 xe:Value→Shared→Prop
def frs(l:List Env):List Addr:=l.filterMap (·.frame)
abbrev Cx.fs(X:Cx):List Addr:=frs X.outer
def Vis(sc:Scope)(x:Str):Prop:=sc.names.lookup x=some .local∨sc.names.lookup x=some .cell∨sc.names.lookup x=some .free
def Loc(sc:Scope)(x:Str):Prop:=sc.names.lookup x=some .local∨sc.names.lookup x=some .cell
def zA4(env:Env)(h:Heap)(m:Str→Option Value)(x:Str)(u:Value):Prop:=
 (env.kindOf x=some .local∧m x=some u)∨((env.kindOf x=some .cell∨env.kindOf x=some .free)∧∃c,env.cells.lookup x=some c∧h.IsCell c (some u))
structure Cx.Ok(X:Cx):Prop where
 mod:Mod X.K X.mg X.base
 kind:X.env.scope.kind=.function
 glob:X.env.globals=mainGlobals
 blt:X.env.builtins=builtinsNs
 above:X.s₀.heap.objs.size≤X.env.locals
 inj:∀x y c,X.env.cells.lookup x=some c→X.env.cells.lookup y=some c→x=y
 has:∀x,(X.env.kindOf x=some .cell∨X.env.kindOf x=some .free)→∃c,X.env.cells.lookup x=some c
 cab:∀x c,X.fn x=true→X.env.cells.lookup x=some c→X.s₀.heap.objs.size≤c
 hd:X.calm=true→X.A.handled=none
 frames:X.A.frames=some X.stack
 stk:X.stack=X.outer∨(X.stack=X.env::X.outer∧X.env.frame=some X.env.locals)
 exf:∀b∈X.ex,b≠X.env.locals∧∀x c,X.env.cells.lookup x=some c→c≠b
 bs:∀b o,X.base.get? b=some o→X.s₀.heap.get? b=some o∧X.H₀ b=none
 bsz:X.base.objs.size≤X.s₀.heap.objs.size
 noex:∀b o,X.base.get? b=some o→b∉X.ex
 exfs:∀b∈X.ex,b∉X.fs
 funs:X.s₀.heap.FunFrames X.base X.outer
 frf:∀b∈X.fs,X.H₀ b=none
structure Inv(X:Cx)(pins:List (Addr×Obj))(σ:List (Option V))(H:Hp)(s:Shared):Prop where
 ok:X.Ok
 os:s.os=X.s₀.os
 bare:AllBare s.gens
 base:Un X.fs X.ex X.H₀ H X.s₀.heap s.heap
 loc:∃m,s.heap.Ns X.env.locals m∧∀(i:Nat)(x:Str)(v:V),X.N[i]?=some x→σ[i]?=some (some v)→Vis X.env.scope x→∃u,RelV v u∧zA4 X.env s.heap m x u
 cell:∀x c,X.env.cells.lookup x=some c→∃v,s.heap.IsCell c v
 free:H X.env.locals=none
 freeC:∀x c,X.env.cells.lookup x=some c→H c=none
 pin:∀p∈X.pn++pins,s.heap.get? p.1=some p.2∧H p.1=none∧p.1≠X.env.locals∧p.1∉X.fs∧∀v,p.2.data≠.cell v
 hok:HOk X.prog X.w H s.heap
 len:σ.length=X.N.length
section
variable {X : Cx} {pins : List (Addr × Obj)} {σ : List (Option V)} {H H' : Hp} {s : Shared} {h' : Heap}
theorem Cx.Ok.nofr(ok:X.Ok){b:Addr}{o:Obj}(e:X.base.get? b=some o):b∉X.fs:=fun hb=>by
 have:=(ok.funs.mem hb).1
 rw[e] at this;cases this
theorem Inv.bs(I:Inv X pins σ H s):∀b o,X.base.get? b=some o→s.heap.get? b=some o∧H b=none:=fun b o e=>
 ⟨I.base.keep b o (I.ok.bs b o e).1 (I.ok.bs b o e).2 (I.ok.nofr e) (I.ok.noex b o e),I.base.free b o (I.ok.bs b o e).1 (I.ok.bs b o e).2 (I.ok.noex b o e)⟩
theorem Inv.bk(I:Inv X pins σ H s):∀b o,X.base.get? b=some o→s.heap.get? b=some o:=fun b o e=>(I.bs b o e).1
theorem Inv.mod(I:Inv X pins σ H s):Mod X.K X.mg X.base:=I.ok.mod
theorem Inv.kIn(I:Inv X pins σ H s):X.K.In s.heap:=I.ok.mod.kin.keeps I.bk
theorem Inv.lt(I:Inv X pins σ H s):X.env.locals<s.heap.objs.size:=let ⟨_,hn,_⟩:=I.loc;hn.lt
theorem Inv.sz(I:Inv X pins σ H s):X.s₀.heap.objs.size≤s.heap.objs.size:=Nat.le_trans I.ok.above (Nat.le_of_lt I.lt)
theorem Inv.nofs(I:Inv X pins σ H s){a:Addr}(h:s.heap.objs.size≤a):a∉X.fs:=fun hb=>by
 obtain⟨_,o,ho,_⟩:=I.ok.funs.mem hb
 exact absurd (Nat.lt_of_lt_of_le (Heap.lt_size ho) (Nat.le_trans I.sz h)) (Nat.lt_irrefl _)
theorem Inv.cne(I:Inv X pins σ H s):∀x c,X.env.cells.lookup x=some c→c≠X.env.locals:=fun x c e z=>by
 obtain⟨v,o,ho,hd⟩:=I.cell x c e
 obtain⟨m,⟨o',es,ep,ho',hd',_⟩,_⟩:=I.loc
 rw[z,ho'] at ho;cases ho;rw[hd'] at hd;cases hd
theorem Inv.funs(I:Inv X pins σ H s):s.heap.FunFrames X.base X.outer:=by
 have all:∀(l:List Env),(∀b∈frs l,b∈X.fs)→X.s₀.heap.FunFrames X.base l→s.heap.FunFrames X.base l:=by
  intro l
  induction l with
  |nil=>intro _ _;trivial
  |cons env r ih=>
   intro hs hl
   obtain⟨hk,⟨L,o,hf,hn,ho,hd⟩,hr⟩:=hl
   have hL:L∈X.fs:=hs L (by unfold frs;rw[List.filterMap_cons,hf];exact List.mem_cons_self)
   obtain⟨sl,e⟩:=I.base.slot L o ho (I.ok.frf L hL) hL fun z=>I.ok.exfs L z hL
   exact⟨hk,⟨L,_,hf,hn,e,hd⟩,ih (fun b hb=>hs b (by unfold frs;rw[List.filterMap_cons,hf];exact List.mem_cons_of_mem _ hb)) hr⟩
 exact all X.outer (fun _ hb=>hb) I.ok.funs
theorem Inv.stack(I:Inv X pins σ H s):s.heap.FunFrames X.base X.stack:=by
 rcases I.ok.stk with e|⟨e,hf⟩
 ·rw[e];exact I.funs
 ·rw[e]
  obtain⟨m,hn,_⟩:=I.loc
  refine .cons (by rw[I.ok.kind];decide) hf hn ?_ I.funs
  exact Heap.get?_none_of_le (Nat.le_trans I.ok.bsz I.ok.above)
theorem Inv.stkSub(I:Inv X pins σ H s):∀b∈frs X.stack,b∈X.env.locals::X.fs:=fun b hb=>by
 rcases I.ok.stk with e|⟨e,hf⟩
 ·rw[e] at hb;exact List.mem_cons_of_mem _ hb
 ·rw[e] at hb
  unfold frs at hb
  rw[List.filterMap_cons,hf] at hb
  exact hb
theorem Inv.stkFree(I:Inv X pins σ H s):∀b∈frs X.stack,H b=none:=fun b hb=>by
 rcases List.mem_cons.mp (I.stkSub b hb) with e|hb
 ·rw[e];exact I.free
 ·obtain⟨_,o,ho,_⟩:=I.ok.funs.mem hb
  exact I.base.free b o ho (I.ok.frf b hb) fun z=>I.ok.exfs b z hb
theorem Inv.step{g':Array GenState}{t':Nat}{d':Drawn}{ch:List Addr}(I:Inv X pins σ H s)
  (hch:∀b∈ch,(b∈X.ex∨X.s₀.heap.objs.size≤b)∧b≠X.env.locals∧(∀x c,X.env.cells.lookup x=some c→c≠b)∧∀p∈X.pn++pins,p.1≠b)
  (keep:∀b o,b≠X.env.locals→b∉X.fs→b∉ch→s.heap.get? b=some o→H b=none→h'.get? b=some o)
  (slot:∀b o,b≠X.env.locals→b∈X.fs→b∉ch→s.heap.get? b=some o→H b=none→∃sl,h'.get? b=some { o with slots:=sl }) (free:∀b o,b∉ch→s.heap.get? b=some o→H b=none→H' b=none)
  (there:∀b o,b∉ch→s.heap.get? b=some o→∃o',h'.get? b=some o')
  (tups:∀b xs,H b=some (.tup xs)→H' b=some (.tup xs)) (frzs:∀b o u,H b=some (.frz o u)→H' b=some (.frz o u)) (tbls:∀b ps,H b=some (.tbl ps)→∃more,H' b=some (.tbl (ps++more)))
  (ns:∀m,s.heap.Ns X.env.locals m→h'.Ns X.env.locals m) (hok:HOk X.prog X.w H' h') (hg:AllBare g'):
  Inv X pins σ H' { s with heap:=h',gens:=g',drawn:=d',toks:=t' }:=by
 have ah:∀b o,X.s₀.heap.get? b=some o→b≠X.env.locals:=fun b o e=>Nat.ne_of_lt (Nat.lt_of_lt_of_le (Heap.lt_size e) I.ok.above)
 have af:∀b o,X.s₀.heap.get? b=some o→b∉X.ex→b∉ch:=fun b o e hx hb=>by
  rcases(hch b hb).1 with z|z
  ·exact hx z
  ·exact absurd (Nat.lt_of_lt_of_le (Heap.lt_size e) z) (Nat.lt_irrefl _)
 have ad:∀x c,X.env.cells.lookup x=some c→∀v,s.heap.IsCell c v→h'.IsCell c v:=fun x c e v ⟨o,ho,hd⟩=>by
  have ae:c∉ch:=fun z=>(hch c z).2.2.1 x c e rfl
  by_cases hc:c∈X.fs
  ·obtain⟨sl,q⟩:=slot c o (I.cne x c e) hc ae ho (I.freeC x c e)
   exact⟨_,q,hd⟩
  ·exact⟨o,keep c o (I.cne x c e) hc ae ho (I.freeC x c e),hd⟩
 refine⟨I.ok,I.os,hg,⟨fun b o e n hb hx=>?_,fun b o e n hb hx=>?_,fun b o e n hx=>?_,fun b o e hx=>?_,fun b xs e=>tups b xs (I.base.tups b xs e),fun b o xs e=>frzs b o xs (I.base.frzs b o xs e),fun b ps e=>?_⟩,?_,fun x c e=>?_,?_,fun x c e=>?_,fun p hp=>?_,hok,I.len⟩
 ·exact keep b o (ah b o e) hb (af b o e hx) (I.base.keep b o e n hb hx) (I.base.free b o e n hx)
 ·obtain⟨sl,e1⟩:=I.base.slot b o e n hb hx
  obtain⟨ai,e2⟩:=slot b _ (ah b o e) hb (af b o e hx) e1 (I.base.free b o e n hx)
  exact⟨ai,e2⟩
 ·obtain⟨o',e1⟩:=I.base.there b o e hx
  exact free b o' (af b o e hx) e1 (I.base.free b o e n hx)
 ·obtain⟨o',e1⟩:=I.base.there b o e hx
  exact there b o' (af b o e hx) e1
 ·obtain⟨m1,e1⟩:=I.base.tbls b ps e
  obtain⟨m2,e2⟩:=tbls b _ e1
  exact⟨m1++m2,by rw[e2,Array.append_assoc]⟩
 ·obtain⟨m,hn,hl⟩:=I.loc
  refine⟨m,ns m hn,fun i x v e1 e2 e3=>?_⟩
  obtain⟨u,r,l⟩:=hl i x v e1 e2 e3
  refine⟨u,r,?_⟩
  rcases l with l|⟨k,c,e,z⟩
  ·exact .inl l
  ·exact .inr ⟨k,c,e,ad x c e _ z⟩
 ·obtain⟨v,z⟩:=I.cell x c e
  exact⟨v,ad x c e v z⟩
 ·obtain⟨m,⟨o,_,_,ho,_⟩,_⟩:=I.loc
  exact free _ o (fun z=>(hch _ z).2.1 rfl) ho I.free
 ·obtain⟨v,o,ho,hd⟩:=I.cell x c e
  exact free c o (fun z=>(hch c z).2.2.1 x c e rfl) ho (I.freeC x c e)
 ·obtain⟨e,n,ne,nf,d⟩:=I.pin p hp
  have ae:p.1∉ch:=fun z=>(hch p.1 z).2.2.2 p hp rfl
  exact⟨keep p.1 p.2 ne nf ae e n,free p.1 p.2 ae e n,ne,nf,d⟩
theorem Inv.un{t':Nat}(I:Inv X pins σ H s)(u:Un X.fs [] H H' s.heap h')(hok:HOk X.prog X.w H' h'):Inv X pins σ H' { s with heap:=h',toks:=t' }:=by
 obtain⟨m,⟨o,es,ep,ho,r⟩,_⟩:=id I.loc
 obtain⟨sl,hL⟩:=u.any ho I.free (by simp)
 exact I.step (g':=s.gens) (d':=s.drawn) (ch:=[]) (fun _ z=>nomatch z) (fun b o _ hb _ e n=>u.keep b o e n hb (by simp)) (fun b o _ hb _ e n=>u.slot b o e n hb (by simp)) (fun b o _ e n=>u.free b o e n (by simp)) (fun b o _ e=>u.there b o e (by simp)) u.tups u.frzs u.tbls (fun m' hm=>by
  obtain⟨o',af,ae,ad,r'⟩:=hm
  rw[ho] at ad;cases ad
  exact⟨_,af,ae,hL,r'⟩) hok I.bare
theorem Inv.call{g':Array GenState}{t':Nat}{d':Drawn}{ch:List Addr}(I:Inv X pins σ H s)(u:Un (frs X.stack) ch H H' s.heap h')(hok:HOk X.prog X.w H' h')(hg:AllBare g')
  (hch:∀b∈ch,(b∈X.ex∨X.s₀.heap.objs.size≤b)∧b≠X.env.locals∧(∀x c,X.env.cells.lookup x=some c→c≠b)∧∀p∈X.pn++pins,p.1≠b):
  Inv X pins σ H' { s with heap:=h',gens:=g',drawn:=d',toks:=t' }:=by
 obtain⟨m,⟨o,es,ep,ho,r⟩,_⟩:=id I.loc
 obtain⟨sl,hL⟩:=u.any ho I.free fun z=>(hch _ z).2.1 rfl
 exact I.step (ch:=ch) hch (fun b o hL hb hc e n=>u.keep b o e n (fun z=>(List.mem_cons.mp (I.stkSub b z)).elim hL hb) hc) (fun b o _ _ hc e n=>u.any e n hc) (fun b o hc e n=>u.free b o e n hc) (fun b o hc e=>u.there b o e hc) u.tups u.frzs u.tbls (fun m' hm=>by
  obtain⟨o',af,ae,ad,r'⟩:=hm
  rw[ho] at ad;cases ad
  exact⟨_,af,ae,hL,r'⟩) hok hg
theorem Inv.turned{t':Nat}{it:Addr}(I:Inv X pins σ H s)(k:∀b o,b≠it→s.heap.get? b=some o→h'.get? b=some o)(hn:H it=none)(hL:it≠X.env.locals)
  (h1:it∈X.ex∨X.s₀.heap.objs.size≤it) (h2:∀x c,X.env.cells.lookup x=some c→c≠it) (h3:∀p∈X.pn++pins,p.1≠it):Inv X pins σ H { s with heap:=h',toks:=t' }:=by
 have ad:∀b u,H b=some u→b≠it:=fun b u e z=>by rw[z,hn] at e;cases e
 refine I.step (g':=s.gens) (d':=s.drawn) (ch:=[it]) (fun b hb=>?_) (fun b o _ _ hc e _=>k b o (fun z=>hc (by simp[z])) e) (fun b o _ _ hc e _=>⟨o.slots,k b o (fun z=>hc (by simp[z])) e⟩) (fun _ _ _ _ n=>n)
  (fun b o hc e=>⟨o,k b o (fun z=>hc (by simp[z])) e⟩) (fun _ _ e=>e) (fun _ _ _ e=>e) (fun b ps e=>⟨#[],by rw[e];simp⟩) (fun m hm=>?_) (fun b u e=>?_) I.bare
 ·have e:b=it:=by simpa using hb
  subst e
  exact⟨h1,hL,h2,h3⟩
 ·obtain⟨o,es,ep,ho,r⟩:=hm
  exact⟨o,es,ep,k _ o (Ne.symm hL) ho,r⟩
 ·refine(I.hok b u e).stay (fun c v hc q=>k c v ?_ q) (fun _ q=>q) fun _ _ q=>q
  rcases hc with z|z
  ·rw[z];exact ad b u e
  ·exact ad c _ z
theorem Inv.tok(I:Inv X pins σ H s)(t:Nat):Inv X pins σ H { s with toks:=t }:=I.un (h':=s.heap) (t':=t) Un.refl I.hok
theorem Inv.kept{t':Nat}(I:Inv X pins σ H s)(k:∀b u,s.heap.get? b=some u→h'.get? b=some u):Inv X pins σ H { s with heap:=h',toks:=t' }:=I.un (Un.kept k) (I.hok.kept k)
theorem Inv.laid{a:Addr}{o:HO}{t':Nat}(I:Inv X pins σ H s)(k:∀b u,s.heap.get? b=some u→h'.get? b=some u)(hp:s.heap.objs.size≤a)(new:ObjOk X.prog X.w (upd H a o) h' a o):
  Inv X pins σ (upd H a o) { s with heap:=h',toks:=t' }:=I.un (Un.laid k hp (I.hok.fresh hp)) (I.hok.laid k hp new)
theorem Inv.write{x e:Addr}{o:HO}{t':Nat}(I:Inv X pins σ H s)(mu:Mut (H x))(he:e=x∨H e=some (.own x))(k:∀b u,b≠e→s.heap.get? b=some u→h'.get? b=some u)(heo:∃u,h'.get? e=some u)
  (new:ObjOk X.prog X.w (upd H x o) h' x o):Inv X pins σ (upd H x o) { s with heap:=h',toks:=t' }:=I.un (Un.write mu he k heo) (I.hok.write mu he k heo new)
theorem Inv.pins_of{pins':List (Addr×Obj)}(I:Inv X pins σ H s)(h:∀p∈pins',s.heap.get? p.1=some p.2∧H p.1=none∧p.1≠X.env.locals∧p.1∉X.fs∧∀v,p.2.data≠.cell v):Inv X pins' σ H s:=
 ⟨I.ok,I.os,I.bare,I.base,I.loc,I.cell,I.free,I.freeC,fun p hp=>(List.mem_append.mp hp).elim (fun z=>I.pin p (List.mem_append_left _ z)) (h p),I.hok,I.len⟩
theorem zpd{N:List Str}(hN:N.Nodup){i j:Nat}{x:Str}(a:N[i]?=some x)(b:N[j]?=some x):i=j:=by
 obtain⟨h1,e1⟩:=List.getElem?_eq_some_iff.mp a
 obtain⟨h2,e2⟩:=List.getElem?_eq_some_iff.mp b
 exact(List.getElem_inj hN).mp (e1.trans e2.symm)
theorem ztr{M:Model}{A:Around}{E:Value→Shared→Prop}{i:Nat}{x:Str}{v:V}{u:Value}{Q:Unit→Shared→Prop}(I:Inv X pins σ H s)(hN:X.N.Nodup)(hi:X.N[i]?=some x)(hx:Loc X.env.scope x)(r:RelV v u)
  (h:∀s',Inv X pins (σ.set i (some v)) H s'→(∃a,Heap.SameBut a s.heap s'.heap∧(a=X.env.locals∨X.env.cells.lookup x=some a))→Q () s') (hf:X.fn x=true∨X.env.scope.names.lookup x=some .local:=by first|exact .inl rfl|exact .inr rfl|assumption):wpAny M A (storeName X.env x u) Q E s:=by
 obtain⟨m,hn,hl⟩:=id I.loc
 have ah:(X.env.scope.kind==.class||(X.env.scope.kind==.module&&X.env.locals !=X.env.globals))=false:=by rw[I.ok.kind];rfl
 have hiσ:i<σ.length:=by rw[I.len];exact(List.getElem?_eq_some_iff.mp hi).1
 have cne:=I.cne
 have ad:∀{a:Addr} {h':Heap},(∃o,s.heap.get? a=some o∧H a=none)→Heap.SameBut a s.heap h'→HOk X.prog X.w H h':=fun {a h'} ha hs b ob e=>by
  obtain⟨_,_,ae⟩:=ha
  refine(I.hok b ob e).stay (fun c w' hc q=>(hs.2 c ?_).trans q) (fun _ q=>q) fun _ _ q=>q
  rintro rfl
  rcases hc with rfl|hc
  ·rw[ae] at e;cases e
  ·rw[ae] at hc;cases hc
 rcases hx with hk|hk
 ·refine wpAny_storeName_local hk hn (fun h' ao hs=>?_) ah
  obtain⟨oL,_,_,am,_⟩:=id hn
  refine h _ ⟨I.ok,I.os,I.bare,⟨fun b o e n hb hx=>?_,fun b o e n hb hx=>?_,I.base.free,fun b o e hx=>?_,I.base.tups,I.base.frzs,I.base.tbls⟩,⟨_,ao,fun j y v' e1 e2 e3=>?_⟩,fun y c e=>?_,I.free,I.freeC,fun p hp=>?_,ad ⟨oL,am,I.free⟩ hs,by simpa using I.len⟩ ⟨_,hs,.inl rfl⟩
  ·exact(hs.2 b (Nat.ne_of_lt (Nat.lt_of_lt_of_le (Heap.lt_size e) I.ok.above))).trans (I.base.keep b o e n hb hx)
  ·obtain⟨sl,e1⟩:=I.base.slot b o e n hb hx
   exact⟨sl,(hs.2 b (Nat.ne_of_lt (Nat.lt_of_lt_of_le (Heap.lt_size e) I.ok.above))).trans e1⟩
  ·obtain⟨o',e1⟩:=I.base.there b o e hx
   exact⟨o',(hs.2 b (Nat.ne_of_lt (Nat.lt_of_lt_of_le (Heap.lt_size e) I.ok.above))).trans e1⟩
  ·by_cases hj:j=i
   ·subst hj
    rw[hi] at e1;cases e1
    rw[List.getElem?_set_self hiσ] at e2
    cases e2
    exact⟨u,r,.inl ⟨hk,by simp⟩⟩
   ·rw[List.getElem?_set_ne (Ne.symm hj)] at e2
    obtain⟨u',r',q⟩:=hl j y v' e1 e2 e3
    refine⟨u',r',?_⟩
    rcases q with⟨k,e⟩|⟨k,c,e,z⟩
    ·refine .inl ⟨k,?_⟩
     have:y≠x:=fun e=>hj (zpd hN e1 (e▸hi))
     simp[this,e]
    ·exact .inr ⟨k,c,e,z.sameBut hs (cne y c e)⟩
  ·obtain⟨w',z⟩:=I.cell y c e
   exact⟨w',z.sameBut hs (cne y c e)⟩
  ·obtain⟨e,n,ne,nf,d⟩:=I.pin p hp
   exact⟨(hs.2 p.1 ne).trans e,n,ne,nf,d⟩
 ·have af:X.fn x=true:=by
   rcases hf with z|z
   ·exact z
   ·rw[z] at hk;cases hk
  obtain⟨c,hc⟩:=I.ok.has x (.inl hk)
  obtain⟨w',z⟩:=I.cell x c hc
  refine wpAny_storeName_cell I.ok.kind hk hc z (fun h' ak hs=>?_)
  obtain⟨oc,aj,ai⟩:=id z
  refine h { s with heap:=h' } ⟨I.ok,I.os,I.bare,⟨fun b o e n hb hx=>?_,fun b o e n hb hx=>?_,I.base.free,fun b o e hx=>?_,I.base.tups,I.base.frzs,I.base.tbls⟩,⟨m,hn.sameBut hs (Ne.symm (cne x c hc)),fun j y v' e1 e2 e3=>?_⟩,fun y c' e=>?_,I.free,I.freeC,fun p hp=>?_,ad ⟨oc,aj,I.freeC x c hc⟩ hs,by simpa using I.len⟩ ⟨c,hs,.inr hc⟩
  ·exact(hs.2 b (Nat.ne_of_lt (Nat.lt_of_lt_of_le (Heap.lt_size e) (I.ok.cab x c af hc)))).trans (I.base.keep b o e n hb hx)
  ·obtain⟨sl,e1⟩:=I.base.slot b o e n hb hx
   exact⟨sl,(hs.2 b (Nat.ne_of_lt (Nat.lt_of_lt_of_le (Heap.lt_size e) (I.ok.cab x c af hc)))).trans e1⟩
  ·obtain⟨o',e1⟩:=I.base.there b o e hx
   exact⟨o',(hs.2 b (Nat.ne_of_lt (Nat.lt_of_lt_of_le (Heap.lt_size e) (I.ok.cab x c af hc)))).trans e1⟩
  ·by_cases hj:j=i
   ·subst hj
    rw[hi] at e1;cases e1
    rw[List.getElem?_set_self hiσ] at e2
    cases e2
    exact⟨u,r,.inr ⟨.inl hk,c,hc,ak⟩⟩
   ·rw[List.getElem?_set_ne (Ne.symm hj)] at e2
    obtain⟨u',r',q⟩:=hl j y v' e1 e2 e3
    refine⟨u',r',?_⟩
    rcases q with q|⟨k,c',e,z'⟩
    ·exact .inl q
    ·refine .inr ⟨k,c',e,z'.sameBut hs ?_⟩
     rintro rfl
     exact hj (zpd hN e1 (I.ok.inj _ _ _ e hc▸hi))
  ·by_cases al:c'=c
   ·subst al;exact⟨_,ak⟩
   ·obtain⟨w2,z2⟩:=I.cell y c' e
    exact⟨w2,z2.sameBut hs al⟩
  ·obtain⟨e,n,ne,nf,d⟩:=I.pin p hp
   refine⟨(hs.2 p.1 ?_).trans e,n,ne,nf,d⟩
   intro q
   rw[q,aj] at e
   have q':oc=p.2:=Option.some.inj e
   exact d w' (by rw[←q'];exact ai)
theorem zpw{M:Model}{A:Around}{E:Value→Shared→Prop}{i:Nat}{x:Str}{v:V}{u:Value}{Q:Unit→Shared→Prop}(I:Inv X pins σ H s)(hN:X.N.Nodup)(hi:X.N[i]?=some x)(hx:Loc X.env.scope x)(r:RelV v u)
  (h:∀s',Inv X pins (σ.set i (some v)) H s'→Q () s') (hf:X.fn x=true∨X.env.scope.names.lookup x=some .local:=by first|exact .inl rfl|exact .inr rfl|assumption):wpAny M A (storeName X.env x u) Q E s:=
 ztr I hN hi hx r (fun s' I' _=>h s' I') hf
theorem Inv.call'{s':Shared}{ch:List Addr}(I:Inv X pins σ H s)(ho:s'.os=s.os)(u:Un (frs X.stack) ch H H' s.heap s'.heap)(hok:HOk X.prog X.w H' s'.heap)(hg:AllBare s'.gens)
  (hch:∀b∈ch,(b∈X.ex∨X.s₀.heap.objs.size≤b)∧b≠X.env.locals∧(∀x c,X.env.cells.lookup x=some c→c≠b)∧∀p∈X.pn++pins,p.1≠b):Inv X pins σ H' s':=by
 obtain⟨h',g',d',t',o'⟩:=s'
 have e:o'=s.os:=ho
 subst e
 exact I.call (g':=g') (t':=t') (d':=d') u hok hg hch
end
abbrev XK:=Value→Option Addr→Hp→Prop
abbrev St:=List (Option V)
abbrev VK:=V→Hp→Prop
abbrev TE:=St→Hp→VK→Prop
abbrev TT:=St→Hp→(Bool→Hp→Prop)→Prop
abbrev TA:=St→Hp→(List V→Hp→Prop)→Prop
structure zkx where
 nx:St→Hp→Prop
 rt:VK
 bk:St→Hp→Prop:=fun _ _=>False
 ct:St→Hp→Prop:=fun _ _=>False
abbrev TS:=zkx→St→Hp→Prop
def EP(X:Cx)(pins:List (Addr×Obj))(σ:St)(Q:VK)(u:Value)(s':Shared):Prop:=∃v H',Inv X pins σ H' s'∧RelV v u∧Q v H'
def TP(X:Cx)(pins:List (Addr×Obj))(σ:St)(Q:Bool→Hp→Prop)(b:Bool)(s':Shared):Prop:=∃H',Inv X pins σ H' s'∧Q b H'
def AP(X:Cx)(pins:List (Addr×Obj))(σ:St)(Q:List V→Hp→Prop)(us:List Value)(s':Shared):Prop:=∃vs H',Inv X pins σ H' s'∧Vals vs us∧Q vs H'
def SP(X:Cx)(pins:List (Addr×Obj))(D:zkx)(f:Flow)(s':Shared):Prop:=
 match f with
 |.next=>∃σ' H',Inv X pins σ' H' s'∧D.nx σ' H'
 |.brk=>∃σ' H',Inv X pins σ' H' s'∧D.bk σ' H'
 |.cont=>∃σ' H',Inv X pins σ' H' s'∧D.ct σ' H'
 |.ret u=>∃v σ' H',Inv X pins σ' H' s'∧RelV v u∧D.rt v H'
def PE(X:Cx)(e:Expr)(t:TE):Prop:=
 ∀(pins:List (Addr×Obj))(s:Shared)(σ:St)(H:Hp)(Q:VK),Inv X pins σ H s→t σ H Q→wpAny (model X.prog X.w) X.A (eval e X.env) (EP X pins σ Q) X.xe s
def PT(X:Cx)(e:Expr)(t:TT):Prop:=
 ∀(pins:List (Addr×Obj))(s:Shared)(σ:St)(H:Hp)(Q:Bool→Hp→Prop),Inv X pins σ H s→t σ H Q→wpAny (model X.prog X.w) X.A (isTrue e X.env (eval e X.env)) (TP X pins σ Q) X.xe s
def PW(X:Cx)(e:Expr)(t:TT):Prop:=
 ∀(whole:Sem Value)(pins:List (Addr×Obj))(s:Shared)(σ:St)(H:Hp)(Q:Bool→Hp→Prop),Inv X pins σ H s→t σ H Q→wpAny (model X.prog X.w) X.A (isTrue e X.env whole) (TP X pins σ Q) X.xe s
theorem PW.pt{X:Cx}{e:Expr}{t:TT}(h:PW X e t):PT X e t:=h _
def PA(X:Cx)(es:List Expr)(t:TA):Prop:=
 ∀(pos:Pos)(pins:List (Addr×Obj))(s:Shared)(σ:St)(H:Hp)(Q:List V→Hp→Prop),Inv X pins σ H s→t σ H Q→wpAny (model X.prog X.w) X.A (spliced (backTo pos (starEach es X.env))) (AP X pins σ Q) X.xe s
def PS(X:Cx)(st:Stmt)(t:TS):Prop:=
 ∀(pins:List (Addr×Obj))(s:Shared)(σ:St)(H:Hp)(D:zkx),Inv X pins σ H s→t D σ H→wpAny (model X.prog X.w) X.A (exec st X.env) (SP X pins D) X.xe s
def PSs(X:Cx)(st:List Stmt)(t:TS):Prop:=
 ∀(pins:List (Addr×Obj))(s:Shared)(σ:St)(H:Hp)(D:zkx),Inv X pins σ H s→t D σ H→wpAny (model X.prog X.w) X.A (execs st X.env) (SP X pins D) X.xe s
theorem thn{α:Type}{t:Sem α}{Q Q':α→Shared→Prop}{M:Model}{A:Around}{E:Value→Shared→Prop}{s:Shared}(h:wpAny M A t Q E s)(hQ:∀a s,Q a s→Q' a s):wpAny M A t Q' E s:=wpAny_mono h hQ fun _ _ x=>x
section
variable {X : Cx}
def zxd(i:Nat):TE:=fun σ H Q=>∃v,σ[i]?=some (some v)∧Q v H
def tC(v:V):TE:=fun _ H Q=>Q v H
theorem zu9{i:Nat}{x:Str}{pos:Pos}(hN:X.N[i]?=some x)(hv:Vis X.env.scope x)(hd:(x==("__debug__" : Str))=false:=by decide)(hcd:(x==("__classdict__" : Str))=false:=by decide):PE X (.Name x pos) (zxd i):=by
 intro pins s σ H Q I h
 obtain⟨v,e,h⟩:=h
 obtain⟨m,hn,hl⟩:=I.loc
 obtain⟨u,r,l⟩:=hl i x v hN e hv
 have fin:EP X pins σ Q u s:=⟨v,H,I,r,h⟩
 rcases l with⟨hk,hm⟩|⟨hk,c,hc,ad⟩
 ·exact wpAny_Name (wpAny_loadName_local I.ok.kind hk hn hm fin) hd
 ·rcases hk with hk|hk
  ·exact wpAny_Name (wpAny_loadName_cell I.ok.kind hk hc ad fin) hd
  ·exact wpAny_Name (wpAny_loadName_free I.ok.kind hk hc ad fin hcd) hd
theorem zad{i j pos}:PE X (.Constant (.int i) j pos) (tC (.int i)):=fun _ _ _ H _ I h=>wpAny_Constant_int ⟨.int i,H,I.tok _,⟨_,rfl⟩,h⟩
theorem zhw{b j pos}:PE X (.Constant (.bool b) j pos) (tC (.bl b)):=fun _ _ _ H _ I h=>Constant_bool ⟨.bl b,H,I,rfl,h⟩
theorem zby{j pos}:PE X (.Constant .none j pos) (tC .non):=fun _ _ _ H _ I h=>Constant_none ⟨.non,H,I,rfl,h⟩
theorem za3{x j pos}:PE X (.Constant (.str x) j pos) (tC (.str x)):=fun _ _ _ H _ I h=>Calls.Constant_str ⟨.str x,H,I.tok _,⟨_,rfl⟩,h⟩
def Gl(X:Cx)(x:Str):Prop:=X.env.kindOf x=some .globalImplicit
theorem zkj{E:Value→Shared→Prop}{pins:List (Addr×Obj)}{s:Shared}{σ:St}{H:Hp}{x:Str}{u:Value}{pos:Pos}{Q:Value→Shared→Prop}(I:Inv X pins σ H s)(hg:Gl X x)(hm:X.mg x=some u)(h:Q u s)
  (hd:(x==("__debug__" : Str))=false:=by decide):wpAny (model X.prog X.w) X.A (eval (.Name x pos) X.env) Q E s:=
 Calls.Name_function_global I.ok.kind hg (Calls.loadGlobal_global (by rw[I.ok.glob];exact I.mod.glob.keeps I.bk) hm h) hd
theorem zlo{E:Value→Shared→Prop}{pins:List (Addr×Obj)}{s:Shared}{σ:St}{H:Hp}{x:Str}{u:Value}{pos:Pos}{Q:Value→Shared→Prop}(I:Inv X pins σ H s)(hg:Gl X x)(hm:X.mg x=none)(hv:bootBuiltins x=some u)(h:Q u s)
  (hn:x ≠ "__name__" := by decide) (hd:(x==("__debug__" : Str))=false:=by decide):wpAny (model X.prog X.w) X.A (eval (.Name x pos) X.env) Q E s:=by
 obtain⟨mb,h1,h2⟩:=I.mod.blt
 exact Calls.Name_function_global I.ok.kind hg (Calls.loadGlobal_builtin (by rw[I.ok.glob];exact I.mod.glob.keeps I.bk) hm (by rw[I.ok.blt];exact h1.keeps I.bk) ((h2 x hn).trans hv) h) hd
theorem zso{x:Str}{v:V}{u:Value}{pos:Pos}(hg:Gl X x)(hm:X.mg x=none)(hv:bootBuiltins x=some u)(r:RelV v u)(hn:x ≠ "__name__" := by decide)(hd:(x==("__debug__" : Str))=false:=by decide):PE X (.Name x pos) (tC v):=
 fun _ _ _ H _ I h=>zlo I hg hm hv ⟨v,H,I,r,h⟩ hn hd
variable {a b : Expr} {ta tb : TE} {pos : Pos}
def tB(t:TE):TT:=fun σ H Q=>t σ H fun x H1=>∃c,x=.bl c∧Q c H1
theorem zbx{e:Expr}{t:TE}(h:PE X e t)(he:∀whole,isTrue e X.env whole=(do let v ←whole;standAt e.pos;holding [v] (truthy v)):=by intro _;rfl):PT X e (tB t):=by
 intro pins s σ H Q I hw
 refine isTrue_plain (thn (h pins s σ H _ I hw) fun v s1 ⟨x,H1,I1,r1,q1⟩=>?_) (he _)
 obtain⟨d,rfl,q⟩:=q1
 cases r1
 exact wpAny_truthy_bool ⟨H1,I1,q⟩
variable {tA tB' : TT} {rest : List Expr}
def zBa(t u:TT):TT:=fun σ H Q=>t σ H fun c H1=>if c=true then u σ H1 Q else Q false H1
def tOr(t u:TT):TT:=fun σ H Q=>t σ H fun c H1=>if c=true then Q true H1 else u σ H1 Q
def zBj(t:TT):TT:=fun σ H Q=>t σ H fun c H1=>Q (!c) H1
theorem zhi(ha:PT X a tA):PW X (.BoolOp .And [a] pos) tA:=by
 intro wh pins s σ H Q I h
 refine isTrue_and (thn (ha pins s σ H Q I h) fun c s1 e=>?_)
 cases c with
 |true=>exact isTrue_and_nil e
 |false=>exact e
theorem zjl(ha:PT X a tA):PW X (.BoolOp .Or [a] pos) tA:=by
 intro wh pins s σ H Q I h
 refine isTrue_or (thn (ha pins s σ H Q I h) fun c s1 e=>?_)
 cases c with
 |false=>exact isTrue_or_nil e
 |true=>exact e
theorem zja(ha:PT X a tA)(hb:PW X (.BoolOp .And (b::rest) pos) tB'):PW X (.BoolOp .And (a::b::rest) pos) (zBa tA tB'):=by
 intro wh pins s σ H Q I h
 refine isTrue_and (thn (ha pins s σ H _ I h) fun c s1 ⟨H1,I1,q1⟩=>?_)
 cases c with
 |true=>exact hb wh pins s1 σ H1 Q I1 q1
 |false=>exact⟨H1,I1,q1⟩
theorem zkp(ha:PT X a tA)(hb:PW X (.BoolOp .Or (b::rest) pos) tB'):PW X (.BoolOp .Or (a::b::rest) pos) (tOr tA tB'):=by
 intro wh pins s σ H Q I h
 refine isTrue_or (thn (ha pins s σ H _ I h) fun c s1 ⟨H1,I1,q1⟩=>?_)
 cases c with
 |true=>exact⟨H1,I1,q1⟩
 |false=>exact hb wh pins s1 σ H1 Q I1 q1
theorem zfw(ha:PT X a tA):PT X (.UnaryOp .Not a pos) (zBj tA):=by
 intro pins s σ H Q I h
 exact isTrue_not (ha pins s σ H (fun c H1=>Q (!c) H1) I h)
def zAp(ta tb:TE):TE:=fun σ H Q=>ta σ H fun x H1=>∃c,x=.bl c∧if c=true then tb σ H1 Q else Q (.bl false) H1
def zBe(ta tb:TE):TE:=fun σ H Q=>ta σ H fun x H1=>∃c,x=.bl c∧if c=true then Q (.bl true) H1 else tb σ H1 Q
def zAh(ta:TE):TE:=fun σ H Q=>ta σ H fun x H1=>∃c,x=.bl c∧Q (.bl (!c)) H1
theorem zca{op}{t:TE}(h:PE X a t):PE X (.BoolOp op [a] pos) t:=fun pins s σ H Q I hw=>BoolOp_one (h pins s σ H Q I hw)
theorem zdi(ha:PE X a ta)(hb:PE X (.BoolOp .And (b::rest) pos) tb):PE X (.BoolOp .And (a::b::rest) pos) (zAp ta tb):=by
 intro pins s σ H Q I h
 refine BoolOp_and (thn (ha pins s σ H _ I h) fun v s1 ⟨x,H1,I1,r1,q1⟩=>?_)
 obtain⟨c,rfl,q1⟩:=q1
 cases r1
 refine wpAny_truthy_bool ?_
 cases c with
 |true=>exact hb pins s1 σ H1 Q I1 q1
 |false=>exact⟨.bl false,H1,I1,rfl,q1⟩
theorem zkm(ha:PE X a ta)(hb:PE X (.BoolOp .Or (b::rest) pos) tb):PE X (.BoolOp .Or (a::b::rest) pos) (zBe ta tb):=by
 intro pins s σ H Q I h
 refine BoolOp_or (thn (ha pins s σ H _ I h) fun v s1 ⟨x,H1,I1,r1,q1⟩=>?_)
 obtain⟨c,rfl,q1⟩:=q1
 cases r1
 refine wpAny_truthy_bool ?_
 cases c with
 |false=>exact hb pins s1 σ H1 Q I1 q1
 |true=>exact⟨.bl true,H1,I1,rfl,q1⟩
theorem zia(ha:PE X a ta):PE X (.UnaryOp .Not a pos) (zAh ta):=by
 intro pins s σ H Q I h
 refine UnaryOp_ (thn (ha pins s σ H _ I h) fun v s1 ⟨x,H1,I1,r1,q1⟩=>?_)
 obtain⟨c,rfl,q1⟩:=q1
 cases r1
 exact not_of (wpAny_truthy_bool ⟨.bl (!c),H1,I1,rfl,q1⟩)
end
def SqL(K:PySem.W.Frag)(H:Hp)(a:Addr)(xs:List V):Prop:=
 Rd H a (.lst xs) ∨
  ∃(o:Obj)(its:Array Value)(n:Nat),K.lookup a=some o∧o.cls=.type "list" ∧ o.dict=none∧o.data=.seq its n∧its.size≤sizeLine∧Vals xs its.toList
def SqT(K:PySem.W.Frag)(H:Hp)(a:Addr)(xs:List V):Prop:=
 Rd H a (.tup xs) ∨
  ∃(o:Obj)(its:Array Value)(n:Nat),K.lookup a=some o∧o.cls=.type "tuple" ∧ o.data=.seq its n∧its.size≤sizeLine∧Vals xs its.toList
def zAx:Value→Option V
 |.none=>some .non
 |.bool b=>some (.bl b)
 |.int i _=>some (.int i)
 |.str x _=>some (.str x)
 |.bytes b _=>some (.byt b)
 |.float b _=>some (.flt b)
 |.ref a=>some (.ref a)
 |.type n=>some (.ty n)
 |_=>none
theorem RelV.abs{x:V}{u:Value}(r:RelV x u):zAx u=some x:=by
 cases x with
 |non=>cases r;rfl
 |bl _=>cases r;rfl
 |int _=>obtain⟨t,rfl⟩:=r;rfl
 |str _=>obtain⟨t,rfl⟩:=r;rfl
 |byt _=>obtain⟨t,rfl⟩:=r;rfl
 |flt _=>obtain⟨t,rfl⟩:=r;rfl
 |ref _=>cases r;rfl
 |ty _=>cases r;rfl
theorem RelV.inj{x y:V}{u:Value}(r:RelV x u)(q:RelV y u):x=y:=Option.some.inj (r.abs.symm.trans q.abs)
theorem Vals.inj:∀{xs ys:List V} {us:List Value},Vals xs us→Vals ys us→xs=ys
 |_,_,_,.nil,.nil=>rfl
 |_,_,_,.cons r t,.cons r' t'=>by rw[r.inj r',Vals.inj t t']
section
variable {X : Cx} {pins : List (Addr × Obj)} {σ : St} {H : Hp} {s : Shared} {a : Addr} {xs ys : List V}
theorem SqL.of{K:PySem.W.Frag}(h:H a=some (.lst xs)):SqL K H a xs:=.inl (.inl h)
theorem Inv.list(I:Inv X pins σ H s)(h:SqL X.K H a xs):∃its:List Value,Vals xs its∧PlainL s.heap a its.toArray∧xs.length≤sizeLine:=by
 rcases h with h|⟨o,its,n,hk,hc,hd,hs,hz,r⟩
 ·obtain⟨z,its,n,r,e⟩:=h.ok I.hok
  exact⟨its,r,⟨_,n,e,rfl,rfl,rfl⟩,z⟩
 ·refine⟨its.toList,r,⟨o,n,I.kIn a o hk,hc,hd,by simpa using hs⟩,?_⟩
  have e:=r.length
  simp only[Array.length_toList] at e
  omega
theorem Inv.tuple(I:Inv X pins σ H s)(h:SqT X.K H a xs):∃its:List Value,Vals xs its∧IsTup s.heap a its.toArray∧xs.length≤sizeLine:=by
 rcases h with h|⟨o,its,n,hk,hc,hs,hz,r⟩
 ·obtain⟨z,its,r,p⟩:=h.ok I.hok
  exact⟨its,r,p,z⟩
 ·refine⟨its.toList,r,⟨o,I.kIn a o hk,hc,n,by simpa using hs⟩,?_⟩
  have e:=r.length
  simp only[Array.length_toList] at e
  omega
theorem Inv.list_inj(I:Inv X pins σ H s)(h:SqL X.K H a xs)(h':SqL X.K H a ys):xs=ys:=by
 obtain⟨ad,r,⟨o,n,e,_,_,d⟩,_⟩:=I.list h
 obtain⟨its',r',⟨o',n',e',_,_,d'⟩,_⟩:=I.list h'
 rw[e] at e';cases e'
 rw[d] at d'
 injection d' with d1 _
 have:ad=its':=by simpa using congrArg Array.toList d1
 subst this
 exact r.inj r'
theorem Inv.tuple_inj(I:Inv X pins σ H s)(h:SqT X.K H a xs)(h':SqT X.K H a ys):xs=ys:=by
 obtain⟨ad,r,⟨o,e,_,n,d⟩,_⟩:=I.tuple h
 obtain⟨its',r',⟨o',e',_,n',d'⟩,_⟩:=I.tuple h'
 rw[e] at e';cases e'
 rw[d] at d'
 injection d' with d1 _
 have:ad=its':=by simpa using congrArg Array.toList d1
 subst this
 exact r.inj r'
end
abbrev Cx.wish(X:Cx)(E:Value→Shared→Prop):Cx:={ X with xe:=E }
abbrev Cx.nox(X:Cx):Cx:=X.wish fun _ _=>False
theorem Cx.Ok.wish{X:Cx}(ok:X.Ok)(E:Value→Shared→Prop):(X.wish E).Ok:=
 ⟨ok.mod,ok.kind,ok.glob,ok.blt,ok.above,ok.inj,ok.has,ok.cab,ok.hd,ok.frames,ok.stk,ok.exf,ok.bs,ok.bsz,ok.noex,ok.exfs,ok.funs,ok.frf⟩
theorem Cx.Ok.unwish{X:Cx}{E:Value→Shared→Prop}(ok:(X.wish E).Ok):X.Ok:=
 ⟨ok.mod,ok.kind,ok.glob,ok.blt,ok.above,ok.inj,ok.has,ok.cab,ok.hd,ok.frames,ok.stk,ok.exf,ok.bs,ok.bsz,ok.noex,ok.exfs,ok.funs,ok.frf⟩
section
variable {X : Cx} {pins : List (Addr × Obj)} {σ : St} {H : Hp} {s : Shared} {E : Value → Shared → Prop}
theorem Inv.wish(I:Inv X pins σ H s)(E:Value→Shared→Prop):Inv (X.wish E) pins σ H s:=⟨I.ok.wish E,I.os,I.bare,I.base,I.loc,I.cell,I.free,I.freeC,I.pin,I.hok,I.len⟩
theorem Inv.unwish(I:Inv (X.wish E) pins σ H s):Inv X pins σ H s:=⟨I.ok.unwish,I.os,I.bare,I.base,I.loc,I.cell,I.free,I.freeC,I.pin,I.hok,I.len⟩
theorem SP.unwish{D:zkx}{f:Flow}{s':Shared}(h:SP (X.wish E) pins D f s'):SP X pins D f s':=by
 cases f with
 |next=>obtain⟨σ',H',I,q⟩:=h;exact⟨σ',H',I.unwish,q⟩
 |brk=>obtain⟨σ',H',I,q⟩:=h;exact⟨σ',H',I.unwish,q⟩
 |cont=>obtain⟨σ',H',I,q⟩:=h;exact⟨σ',H',I.unwish,q⟩
 |ret u=>obtain⟨v,σ',H',I,r,q⟩:=h;exact⟨v,σ',H',I.unwish,r,q⟩
theorem PSs.nox{st:List Stmt}{t:TS}(h:PSs X.nox st t):PSs X st t:=fun pins s σ H D I hw=>
 wpAny_mono (h pins s σ H D (I.wish _) hw) (fun _ _ q=>q.unwish) fun _ _ z=>False.elim z
end
section
variable {X : Cx} {st : Stmt} {rest : List Stmt} {t u : TS} {e : Expr} {te : TE} {pos : Pos}
def zz6:TS:=fun D σ H=>D.nx σ H
def zBb(t u:TS):TS:=fun D σ H=>t { D with nx:=u D } σ H
theorem zat:PSs X [] zz6:=fun _ _ σ H _ I h=>wpAny_execs_nil ⟨σ,H,I,h⟩
theorem zae(h1:PS X st t)(h2:PSs X rest u):PSs X (st::rest) (zBb t u):=by
 intro pins s σ H D I h
 refine wpAny_execs_cons (thn (h1 pins s σ H { D with nx:=u D } I h) fun f s1 q=>?_)
 cases f with
 |next=>
  obtain⟨σ',H',I',q⟩:=q
  exact h2 pins s1 σ' H' D I' q
 |ret v=>exact q
 |brk=>exact q
 |cont=>exact q
theorem zah(h1:PS X st t):PSs X [st] t:=by
 intro pins s σ H D I h
 refine wpAny_execs_cons (thn (h1 pins s σ H D I h) fun f s1 q=>?_)
 cases f with
 |next=>exact wpAny_execs_nil q
 |ret v=>exact q
 |brk=>exact q
 |cont=>exact q
theorem Inv.quiet{pins:List (Addr×Obj)}{σ:St}{H:Hp}{s:Shared}(I:Inv X pins σ H s):interactive X.env=false:=by simp[interactive,I.ok.kind]
def zAv(te:TE):TS:=fun D σ H=>te σ H fun _ H1=>D.nx σ H1
theorem zea(he:PE X e te)(hs:swapsWith e none pos.line X.env=pure false:=by rfl):PS X (.Expr e pos) (zAv te):=by
 intro pins s σ H D I h
 exact wpAny_Expr_any (thn (he pins s σ H _ I h) fun v s1 ⟨x,H1,I1,r1,q1⟩=>⟨σ,H1,I1,q1⟩) I.quiet hs
def zA2(te:TE):TS:=fun D σ H=>te σ H D.rt
theorem zak(he:PE X e te):PS X (.Return (some e) pos) (zA2 te):=by
 intro pins s σ H D I h
 exact wpAny_Return_some (thn (he pins s σ H _ I h) fun v s1 ⟨x,H1,I1,r1,q1⟩=>⟨x,σ,H1,I1,r1,q1⟩)
def zBf(c:TT)(t u:TS):TS:=fun D σ H=>c σ H fun b H1=>if b=true then t D σ H1 else u D σ H1
theorem za2{c:Expr}{a b:List Stmt}{tc:TT}(hc:PT X c tc)(ha:PSs X a t)(hb:PSs X b u):PS X (.If c a b pos) (zBf tc t u):=by
 intro pins s σ H D I h
 refine wpAny_If (thn (hc pins s σ H _ I h) fun d s1 ⟨H1,I1,q1⟩=>?_)
 cases d with
 |true=>exact ha pins s1 σ H1 D I1 q1
 |false=>exact hb pins s1 σ H1 D I1 q1
def znt:TS:=fun _ _ _=>False
theorem zo9:PS X st znt:=fun _ _ _ _ _ _ h=>h.elim
theorem zfa{sts:List Stmt}:PSs X sts znt:=fun _ _ _ _ _ _ h=>h.elim
end
abbrev TG:=V→St→Hp→(St→Hp→Prop)→Prop
abbrev TGs:=List V→St→Hp→(St→Hp→Prop)→Prop
def PG(X:Cx)(target:Expr)(t:TG):Prop:=
 ∀(pins:List (Addr×Obj))(s:Shared)(σ:St)(H:Hp)(v:V)(u:Value)(Q:St→Hp→Prop),Inv X pins σ H s→RelV v u→t v σ H Q →
  wpAny (model X.prog X.w) X.A (assign target X.env u) (fun _ s'=>∃σ' H',Inv X pins σ' H' s'∧Q σ' H') X.xe s
def PGs(X:Cx)(ts:List Expr)(t:TGs):Prop:=
 ∀(pins:List (Addr×Obj))(s:Shared)(σ:St)(H:Hp)(vs:List V)(us:List Value)(Q:St→Hp→Prop),Inv X pins σ H s→Vals vs us→t vs σ H Q →
  wpAny (model X.prog X.w) X.A (assignInOrder ((assignEach ts X.env).map (·.2)) us) (fun _ s'=>∃σ' H',Inv X pins σ' H' s'∧Q σ' H') X.xe s
abbrev zzu:=V→V→V→Hp→(Hp→Prop)→Prop
def zAr(X:Cx)(t:zzu):Prop:=
 ∀(pins:List (Addr×Obj))(s:Shared)(σ:St)(H:Hp)(o i v:V)(ov iv u:Value)(Q:Hp→Prop),Inv X pins σ H s→RelV o ov→RelV i iv→RelV v u→t o i v H Q →
  wpAny (model X.prog X.w) X.A (setItem ov iv u) (fun _ s'=>∃H',Inv X pins σ H' s'∧Q H') X.xe s
section
variable {X : Cx} {pos : Pos}
def zsg(i:Nat):TG:=fun v σ H Q=>Q (σ.set i (some v)) H
theorem zaw{i:Nat}{x:Str}(hN:X.N.Nodup)(hi:X.N[i]?=some x)(hx:Loc X.env.scope x)(hf:X.fn x=true∨X.env.scope.names.lookup x=some .local:=by first|exact .inl rfl|exact .inr rfl|assumption):PG X (.Name x pos) (zsg i):=by
 intro pins s σ H v u Q I r h
 exact wpAny_assign_Name (zpw I hN hi hx r (fun s' I'=>⟨_,H,I',h⟩) hf)
def zBi:TGs:=fun vs σ H Q=>vs=[]∧Q σ H
def zz4(t:TG)(u:TGs):TGs:=fun vs σ H Q=>∃v r,vs=v::r∧t v σ H fun σ' H'=>u r σ' H' Q
theorem zfu:PGs X [] zBi:=by
 intro pins s σ H vs us Q I r h
 obtain⟨e,h⟩:=h
 subst e
 cases r
 exact assignInOrder_nil ⟨σ,H,I,h⟩
theorem zbq{e:Expr}{es:List Expr}{t:TG}{u:TGs}(h1:PG X e t)(h2:PGs X es u)
  (hs:(assignEach (e::es) X.env).map (·.2)=assign e X.env::(assignEach es X.env).map (·.2):=by rfl):PGs X (e::es) (zz4 t u):=by
 intro pins s σ H vs us Q I r h
 obtain⟨v,vr,e1,h⟩:=h
 subst e1
 cases r with
 |cons r rr=>
  rw[hs]
  refine assignInOrder_cons (thn (h1 pins s σ H _ _ _ I r h) fun _ s1 ⟨σ1,H1,I1,q1⟩=>?_)
  exact h2 pins s1 σ1 H1 _ _ Q I1 rr q1
def zAe(K:PySem.W.Frag)(n:Nat)(t:TGs):TG:=fun v σ H Q=>∃a xs,v=.ref a∧SqT K H a xs∧xs.length=n∧t xs σ H Q
theorem zyx{es:List Expr}{k:Nat}{t:TGs}{n:Nat}(hc:X.calm=true)(h:PGs X es t)
  (hn:(assignEach es X.env).length=n:=by rfl) (hst:(assignEach es X.env).findIdx? (·.1)=none:=by rfl):PG X (.Tuple es k pos) (zAe X.K n t):=by
 intro pins s σ H v u Q I r hw
 obtain⟨a,xs,e1,hq,hl,hw⟩:=hw
 subst e1
 cases r
 obtain⟨ad,rv,ht,hz⟩:=I.tuple hq
 refine assign_Tuple_tuple (I.ok.hd hc) ht (by simp[hn,←hl,rv.length]) hst fun h' hx=>?_
 have I1:Inv X pins σ H { s with heap:=h' }:=I.kept (t':=s.toks) fun b o e=>hx b o (Nat.ne_of_lt (Heap.lt_size e)) e
 exact h pins _ σ H xs _ Q I1 (by simpa using rv) hw
def zBh(to ti:TE)(t:zzu):TG:=fun v σ H Q=>to σ H fun o H1=>ti σ H1 fun i H2=>t o i v H2 fun H3=>Q σ H3
theorem zyn{o i:Expr}{to ti:TE}{t:zzu}(ho:PE X o to)(hi:PE X i ti)(hs:zAr X t)
  (ha:∀v,assign (.Subscript o i pos) X.env v=(do
   let ov ←holding [v] (eval o X.env)
   let iv ←holding [v,ov] (eval i X.env)
   standAt pos
   holding [v,ov,iv] (setItem ov iv v)
   release [v,ov,iv] []):=by intro _;rfl):PG X (.Subscript o i pos) (zBh to ti t):=by
 intro pins s σ H v u Q I r h
 rw[ha]
 refine wpAny_bind (wpAny_holding (thn (ho pins s σ H _ I h) fun ov s1 ⟨x,H1,I1,r1,q1⟩=>?_))
 refine wpAny_bind (wpAny_holding (thn (hi pins s1 σ H1 _ I1 q1) fun iv s2 ⟨y,H2,I2,r2,q2⟩=>?_))
 refine wpAny_bind (wpAny_standAt (wpAny_bind (wpAny_holding (thn (hs pins s2 σ H2 x y v ov iv u _ I2 r1 r2 r q2) fun _ s3 ⟨H3,I3,q3⟩=>?_))))
 exact wpAny_release ⟨σ,H3,I3,q3⟩
def zyh(te:TE)(g:TG):TS:=fun D σ H=>te σ H fun x H1=>g x σ H1 D.nx
theorem zvy{tg e:Expr}{te:TE}{g:TG}(he:PE X e te)(hg:PG X tg g)(hs:swapsWithSole [tg] e pos.line X.env=pure false:=by rfl)(hw:swappedStores [tg] e X.env=pure none:=by rfl)
  (h1:(assignEach [tg] X.env).map (·.2)=[assign tg X.env]:=by rfl):PS X (.Assign [tg] e pos) (zyh te g):=by
 intro pins s σ H D I h
 refine wpAny_Assign_stores (thn (he pins s σ H _ I h) fun v s1 ⟨x,H1,I1,r1,q1⟩=>?_) hs hw
 rw[h1]
 exact thn (hg pins s1 σ H1 x v _ I1 r1 q1) fun _ s2 q=>q
theorem zar{i:Nat}{x:Str}{e:Expr}{te:TE}{pos':Pos}(hN:X.N.Nodup)(hi:X.N[i]?=some x)(hx:Loc X.env.scope x)(he:PE X e te)(hs:swapsWith e (some (.Name x pos')) pos.line X.env=pure false:=by rfl)(hf:X.fn x=true∨X.env.scope.names.lookup x=some .local:=by first|exact .inl rfl|exact .inr rfl|assumption):
  PS X (.Assign [.Name x pos'] e pos) (zyh te (zsg i)):=by
 intro pins s σ H D I h
 refine wpAny_Assign_Name (thn (he pins s σ H _ I h) fun v s1 ⟨y,H1,I1,r1,q1⟩=>?_) hs
 exact zpw I1 hN hi hx r1 (fun s2 I2=>⟨_,H1,I2,q1⟩) hf
def zvt(c:TT)(tb:TS):TS:=fun D σ H=>∃W:Nat→St→Hp→Prop,(∃m,W m σ H)∧∀m σ H,W m σ H →
 c σ H fun b H1=>if b=true then ∃N:St→Hp→Prop,(∀σ' H',N σ' H'→∃m',m'<m∧W m' σ' H')∧tb { D with nx:=N,ct:=N,bk:=D.nx } σ H1 else D.nx σ H1
theorem zwr{c:Expr}{body:List Stmt}{tc:TT}{tb:TS}(hp:PassesOwn (model X.prog X.w) X.A X.env X.xe)(hc:PT X c tc)(hb:PSs X body tb):PS X (.While c body [] pos) (zvt tc tb):=by
 intro pins s σ H D I h
 obtain⟨W,⟨m0,w0⟩,ad⟩:=h
 refine wpAny_While (codeAny_whileLoop (fun n s'=>∃σ' H',Inv X pins σ' H' s'∧W n σ' H') ?_ m0 ⟨σ,H,I,w0⟩)
 rintro n s1 ⟨σ1,H1,I1,w1⟩
 refine wpAny_passesOwn hp (thn (hc pins s1 σ1 H1 _ I1 (ad n σ1 H1 w1)) fun b s2 ⟨H2,I2,q2⟩=>?_)
 cases b with
 |true=>
  obtain⟨N,hN,q2⟩:=q2
  rw[if_pos rfl]
  refine wpAny_passesOwn hp (thn (hb pins s2 σ1 H2 _ I2 q2) fun f s3 q3=>?_)
  cases f with
  |next=>
   obtain⟨σ3,H3,I3,n3⟩:=q3
   obtain⟨m',hm,w3⟩:=hN σ3 H3 n3
   exact⟨m',hm,σ3,H3,I3,w3⟩
  |cont=>
   obtain⟨σ3,H3,I3,n3⟩:=q3
   obtain⟨m',hm,w3⟩:=hN σ3 H3 n3
   exact⟨m',hm,σ3,H3,I3,w3⟩
  |brk=>exact q3
  |ret v=>exact q3
 |false=>
  rw[if_neg Bool.false_ne_true]
  exact wpAny_execs_nil ⟨σ1,H2,I2,q2⟩
end
structure It where
 go:Nat→Hp→Prop
 yld:Nat→Hp→V→Hp→Prop
 stop:Nat→Hp→Prop
def zis(X:Cx)(pins:List (Addr×Obj))(H:Hp)(b:Addr):Prop:=
 H b=none∧b≠X.env.locals∧b∉X.fs∧(b∈X.ex∨X.s₀.heap.objs.size≤b)∧(∀x c,X.env.cells.lookup x=some c→c≠b)∧∀p∈X.pn++pins,p.1≠b
theorem Inv.fpOk{X:Cx}{pins:List (Addr×Obj)}{σ:St}{H H':Hp}{s:Shared}{b:Addr}(I:Inv X pins σ H s)(hb:s.heap.objs.size≤b)(hn:H' b=none):zis X pins H' b:=by
 refine⟨hn,Nat.ne_of_gt (Nat.lt_of_lt_of_le I.lt hb),I.nofs hb,.inr (Nat.le_trans I.sz hb),fun x c e z=>?_,fun p hp z=>?_⟩
 ·obtain⟨v,q⟩:=I.cell x c e
  exact absurd (Nat.lt_of_lt_of_le q.lt (by rw[z];exact hb)) (Nat.lt_irrefl _)
 ·exact absurd (Nat.lt_of_lt_of_le (Heap.lt_size (I.pin p hp).1) (by rw[z];exact hb)) (Nat.lt_irrefl _)
structure zw1(P:Program)(w:World)(K:PySem.W.Frag)(tg:Expr)(J:It)(fp:List Addr)(it:Addr)(tn:Nat→Heap→Prop):Prop where
 mem:it∈fp
 obj:∀i h,tn i h→∀b∈fp,∃o,h.get? b=some o∧∀v,o.data≠.cell v
 keep:∀i h h',tn i h→(∀b∈fp,∀o,h.get? b=some o→h'.get? b=some o)→tn i h'
 item:∀(X:Cx),X.prog=P→X.w=w→X.K=K→X.calm=true→∀(i:Nat)(pins:List (Addr×Obj))(s:Shared)(σ:St)(H:Hp)(E:Value→Shared→Prop),Inv X pins σ H s→(∀b∈fp,zis X pins H b)→tn i s.heap→J.go i H →
  wpAny (model P w) X.A (pyNext (.ref it)) (fun r s1=>∃u,r=some u ∧
   wpAny (model P w) X.A (letOwnedTupleGo tg (.ref it) u) (fun _ s2=>∃x H',Inv X pins σ H' s2∧RelV x u∧J.yld i H x H'∧tn (i+1) s2.heap∧∀b∈fp,H' b=none) E s1) E s
 done:∀(X:Cx),X.prog=P→X.w=w→X.K=K→X.calm=true→∀(i:Nat)(pins:List (Addr×Obj))(s:Shared)(σ:St)(H:Hp)(E:Value→Shared→Prop),Inv X pins σ H s→(∀b∈fp,zis X pins H b)→tn i s.heap→J.stop i H →
  wpAny (model P w) X.A (pyNext (.ref it)) (fun r s1=>r=none∧Inv X pins σ H s1) E s
 self:∀(A:Around)(i:Nat)(s:Shared)(Q:Value→Shared→Prop)(E:Value→Shared→Prop),tn i s.heap→Q (.ref it) s→wpAny (model P w) A (pyIter (.ref it)) Q E s
abbrev TI:=St→Hp→(It→Hp→Prop)→Prop
def PIE(X:Cx)(pins:List (Addr×Obj))(σ:St)(tg:Expr)(R:It→Hp→Prop)(itv:Value)(s2:Shared):Prop:=
 ∃(it:Addr)(fp:List Addr)(tn:Nat→Heap→Prop)(J:It)(H':Hp),itv=.ref it∧Inv X pins σ H' s2∧zw1 X.prog X.w X.K tg J fp it tn∧tn 0 s2.heap∧(∀b∈fp,zis X pins H' b)∧R J H'
def PI(X:Cx)(tg iter:Expr)(wi:TI):Prop:=
 ∀(pins:List (Addr×Obj))(s:Shared)(σ:St)(H:Hp)(R:It→Hp→Prop),Inv X pins σ H s→wi σ H R →
  wpAny (model X.prog X.w) X.A (eval iter X.env) (fun v s1=>wpAny (model X.prog X.w) X.A (pyIter v) (PIE X pins σ tg R) X.xe s1) X.xe s
theorem zvs{M:Model}{A:Around}{E:Value→Shared→Prop}{s:Shared}{tg:Expr}{it:Addr}{u:Value}{o:Obj}{n:String}{vs:Array Value}{Q:Unit→Shared→Prop}(ho:s.heap.get? it=some o)(hc:o.cls=.type n)(hd:o.data=.fields vs)
    (hn:["enumerate", "zip", "dict_itemiterator", "dict_reverseitemiterator", "odict_iterator", "itertools.zip_longest", "itertools.pairwise"].contains n=false) (hQ:Q () s):wpAny M A (letOwnedTupleGo tg (.ref it) u) Q E s:=by
  unfold letOwnedTupleGo
  cases tg<;>first
    |exact wpAny_pure hQ
    | (cases u <;> first
        |exact wpAny_pure hQ
        | (refine wpAny_bind (wpAny_load ho ?_)
           rw[hc,hd]
           show wpAny M A (if (["enumerate", "zip", "dict_itemiterator", "dict_reverseitemiterator", "odict_iterator", "itertools.zip_longest", "itertools.pairwise"].contains n&&vs[0]?==some (rawInt _))=true then _ else _) Q E s
           rw[if_neg (by intro h;rw[hn,Bool.false_and] at h;cases h)]
           exact wpAny_pure hQ))
def Itl(K:PySem.W.Frag)(a:Addr):It:=
 ⟨fun i H=>∃xs x,SqL K H a xs∧xs[i]?=some x,fun i H x H'=>H'=H∧∀xs,SqL K H a xs→xs[i]?=some x,fun i H=>∃xs,SqL K H a xs∧xs.length≤i⟩
def Itt(K:PySem.W.Frag)(a:Addr):It:=
 ⟨fun i H=>∃xs x,SqT K H a xs∧xs[i]?=some x,fun i H x H'=>H'=H∧∀xs,SqT K H a xs→xs[i]?=some x,fun i H=>∃xs,SqT K H a xs∧xs.length≤i⟩
def Itr(lo:Int)(n:Nat):It:=⟨fun i _=>i<n,fun i H x H'=>H'=H∧x=.int (lo+i),fun i _=>n≤i⟩
theorem zmo{P:Program}{w:World}{K:PySem.W.Frag}{tg:Expr}(a it:Addr):zw1 P w K tg (Itl K a) [it] it (fun i h=>h.IsListIter it a i) where
 mem:=by simp
 obj:=fun i h st b hb=>by
  have e:b=it:=by simpa using hb
  subst e
  obtain⟨o,e,c,d⟩:=st
  exact⟨o,e,fun v z=>by rw[d] at z;cases z⟩
 keep:=fun i h h' st k=>st.at fun o e=>k it (by simp) o e
 item:=by
  intro X hP hw hK hc i pins s σ H E I hf st hg
  subst hP hw hK
  obtain⟨xs,x,hq,hx⟩:=hg
  obtain⟨ae,rv,p,hz⟩:=I.list hq
  obtain⟨u,hu,ru⟩:=rv.get hx
  obtain⟨f0,f1,f2,f3,f4,f5⟩:=hf it (by simp)
  refine wpAny_pyNext_list_item st p.isList (x:=u) (by simpa using hu) fun h' ad sb=>?_
  have I1:Inv X pins σ H { s with heap:=h' }:=I.turned (t':=s.toks) (fun b o hb e=>(sb.2 b hb).trans e) f0 f1 f3 f4 f5
  obtain⟨o,e,c,d⟩:=id ad
  exact⟨u,rfl,zvs (s:={ s with heap:=h' }) e c d (by decide) ⟨x,H,I1,ru,⟨rfl,fun ys hy=>by rw[I.list_inj hy hq];exact hx⟩,ad,fun b hb=>(hf b hb).1⟩⟩
 done:=by
  intro X hP hw hK hc i pins s σ H E I hf st hg
  subst hP hw hK
  obtain⟨xs,hq,hx⟩:=hg
  obtain⟨ae,rv,p,hz⟩:=I.list hq
  obtain⟨f0,f1,f2,f3,f4,f5⟩:=hf it (by simp)
  have hl:=rv.length
  exact wpAny_pyNext_list_end (I.ok.hd hc) st p.isList (by simp;omega) fun h' eb=>⟨rfl,I.turned (t':=s.toks) (fun b o hb e=>eb b o hb e) f0 f1 f3 f4 f5⟩
 self:=fun _ _ _ _ _ st h=>wpAny_pyIter_listiter st h
theorem zkn{P:Program}{w:World}{K:PySem.W.Frag}{tg:Expr}(a it:Addr):zw1 P w K tg (Itt K a) [it] it (fun i h=>h.IsTupleIter it a i) where
 mem:=by simp
 obj:=fun i h st b hb=>by
  have e:b=it:=by simpa using hb
  subst e
  obtain⟨o,e,c,d⟩:=st
  exact⟨o,e,fun v z=>by rw[d] at z;cases z⟩
 keep:=fun i h h' st k=>st.at fun o e=>k it (by simp) o e
 item:=by
  intro X hP hw hK hc i pins s σ H E I hf st hg
  subst hP hw hK
  obtain⟨xs,x,hq,hx⟩:=hg
  obtain⟨ad,rv,p,hz⟩:=I.tuple hq
  obtain⟨u,hu,ru⟩:=rv.get hx
  obtain⟨f0,f1,f2,f3,f4,f5⟩:=hf it (by simp)
  refine wpAny_pyNext_tuple_item st (show s.heap.IsTuple a ad.toArray from p) (x:=u) (by simpa using hu) fun h' ae sb=>?_
  have I1:Inv X pins σ H { s with heap:=h' }:=I.turned (t':=s.toks) (fun b o hb e=>(sb.2 b hb).trans e) f0 f1 f3 f4 f5
  obtain⟨o,e,c,d⟩:=id ae
  exact⟨u,rfl,zvs (s:={ s with heap:=h' }) e c d (by decide) ⟨x,H,I1,ru,⟨rfl,fun ys hy=>by rw[I.tuple_inj hy hq];exact hx⟩,ae,fun b hb=>(hf b hb).1⟩⟩
 done:=by
  intro X hP hw hK hc i pins s σ H E I hf st hg
  subst hP hw hK
  obtain⟨xs,hq,hx⟩:=hg
  obtain⟨ad,rv,p,hz⟩:=I.tuple hq
  obtain⟨f0,f1,f2,f3,f4,f5⟩:=hf it (by simp)
  have hl:=rv.length
  exact wpAny_pyNext_tuple_end (I.ok.hd hc) st (show s.heap.IsTuple a ad.toArray from p) (by simp;omega) fun h' eb=>⟨rfl,I.turned (t':=s.toks) (fun b o hb e=>eb b o hb e) f0 f1 f3 f4 f5⟩
 self:=fun _ _ _ _ _ st h=>wpAny_pyIter_tupleiter st h
theorem zrn{P:Program}{w:World}{K:PySem.W.Frag}{tg:Expr}(it:Addr)(lo:Int)(n:Nat):zw1 P w K tg (Itr lo n) [it] it (fun i h=>IsRangeIter h it (lo+(i:Nat)*1) ((n:Int)-(i:Nat)) 1) where
 mem:=by simp
 obj:=fun i h st b hb=>by
  have e:b=it:=by simpa using hb
  subst e
  exact⟨_,st,fun v z=>by
   have z':Data.fields _=Data.cell v:=z
   cases z'⟩
 keep:=fun i h h' st k=>k it (by simp) _ st
 item:=by
  intro X hP hw hK hc i pins s σ H E I hf st hg
  subst hP hw hK
  obtain⟨f0,f1,f2,f3,f4,f5⟩:=hf it (by simp)
  have W:=Walks.range (prog:=X.prog) (w:=X.w) (I.ok.hd hc) it lo 1 n
  refine W.item i s _ _ hg st fun v h' tk hv ad kk=>?_
  obtain⟨t,rfl⟩:=hv
  have I1:Inv X pins σ H { s with heap:=h',toks:=tk }:=I.turned (fun b o hb e=>kk b o (by simpa using hb) e) f0 f1 f3 f4 f5
  refine⟨_,rfl,zvs (s:={ s with heap:=h',toks:=tk }) (n := "range_iterator") ad rfl rfl (by decide) ⟨.int (lo+i),H,I1,⟨t,?_⟩,⟨rfl,rfl⟩,ad,fun b hb=>(hf b hb).1⟩⟩
  rw[Int.mul_one]
 done:=by
  intro X hP hw hK hc i pins s σ H E I hf st hg
  subst hP hw hK
  obtain⟨f0,f1,f2,f3,f4,f5⟩:=hf it (by simp)
  exact wpAny_pyNext_range_end (I.ok.hd hc) st (by have:n≤i:=hg;omega) fun h' eb=>⟨rfl,I.turned (t':=s.toks) (fun b o hb e=>eb b o hb e) f0 f1 f3 f4 f5⟩
 self:=fun _ _ _ _ _ st h=>wpAny_pyIter_rangeiter st h
section
variable {X : Cx} {tg : Expr}
def zyg(K:PySem.W.Frag)(tl:TE):TI:=fun σ H R=>tl σ H fun x H1=>∃a,x=.ref a∧(∃xs,SqL K H1 a xs)∧R (Itl K a) H1
def zAn(K:PySem.W.Frag)(tl:TE):TI:=fun σ H R=>tl σ H fun x H1=>∃a,x=.ref a∧(∃xs,SqT K H1 a xs)∧R (Itt K a) H1
theorem zxr{l:Expr}{tl:TE}(hl:PE X l tl):PI X tg l (zyg X.K tl):=by
 intro pins s σ H R I h
 refine thn (hl pins s σ H _ I h) fun v s1 ⟨x,H1,I1,r1,q1⟩=>?_
 obtain⟨a,e,⟨xs,hq⟩,q⟩:=q1
 subst e
 cases r1
 obtain⟨ad,rv,p,hz⟩:=I1.list hq
 refine wpAny_pyIter_list p.isList ?_
 refine⟨s1.heap.objs.size,[s1.heap.objs.size],_,_,H1,rfl,I1.kept (t':=s1.toks) fun b o e=>Heap.get?_push_of_some _ e,zmo a _,⟨_,Heap.get?_push_size _ rfl,rfl,rfl⟩,fun b hb=>?_,q⟩
 have e:b=s1.heap.objs.size:=by simpa using hb
 subst e
 exact I1.fpOk (Nat.le_refl _) (I1.hok.fresh (Nat.le_refl _))
theorem zyq{l:Expr}{tl:TE}(hl:PE X l tl):PI X tg l (zAn X.K tl):=by
 intro pins s σ H R I h
 refine thn (hl pins s σ H _ I h) fun v s1 ⟨x,H1,I1,r1,q1⟩=>?_
 obtain⟨a,e,⟨xs,hq⟩,q⟩:=q1
 subst e
 cases r1
 obtain⟨ad,rv,p,hz⟩:=I1.tuple hq
 refine wpAny_pyIter_tuple (show s1.heap.IsTuple a ad.toArray from p) ?_
 refine⟨s1.heap.objs.size,[s1.heap.objs.size],_,_,H1,rfl,I1.kept (t':=s1.toks) fun b o e=>Heap.get?_push_of_some _ e,zkn a _,⟨_,Heap.get?_push_size _ rfl,rfl,rfl⟩,fun b hb=>?_,q⟩
 have e:b=s1.heap.objs.size:=by simpa using hb
 subst e
 exact I1.fpOk (Nat.le_refl _) (I1.hok.fresh (Nat.le_refl _))
theorem zql{pins:List (Addr×Obj)}{σ:St}{H:Hp}{s:Shared}{R:It→Hp→Prop}{E:Value→Shared→Prop}{lo hi:Int}{t u v:Tok}{tk:Nat}(I:Inv X pins σ H s)(h1 : -(2^62)≤lo)(h2:lo<2^62)(h3 : -(2^62)≤hi)(h4:hi<2^62)
  (q:R (Itr lo (hi-lo).toNat) H):wpAny (model X.prog X.w) X.A (pyIter (.ref s.heap.objs.size)) (PIE X pins σ tg R) E { s with heap:=s.heap.push { cls:=.type "range",data:=.fields #[.int lo t,.int hi u,.int 1 v] },toks:=tk }:=by
 refine wpAny_pyIter_range (IsRange.new ..) (small_one h1 h2 h3 h4) ?_
 have I1:Inv X pins σ H { s with heap:=s.heap.push { cls:=.type "range",data:=.fields #[.int lo t,.int hi u,.int 1 v] },toks:=tk }:=I.kept fun b o e=>Heap.get?_push_of_some _ e
 refine⟨(s.heap.push { cls:=.type "range",data:=.fields #[.int lo t,.int hi u,.int 1 v] }).objs.size,[(s.heap.push { cls:=.type "range",data:=.fields #[.int lo t,.int hi u,.int 1 v] }).objs.size],_,_,H,rfl,
  I1.kept (t':=tk) fun b o e=>Heap.get?_push_of_some _ e,zrn _ lo (hi-lo).toNat,?_,fun b hb=>?_,q⟩
 ·have e1:lo+((0:Nat):Int)*1=lo:=by simp
  have e2:(((hi-lo).toNat:Nat):Int)-((0:Nat):Int)=Builtin.Range.rangeSize lo hi 1:=by rw[rangeSize_one];split<;>omega
  show IsRangeIter _ _ (lo+((0:Nat):Int)*1) ((((hi-lo).toNat:Nat):Int)-((0:Nat):Int)) 1
  rw[e1,e2]
  exact Heap.get?_push_size _ rfl
 ·have e:b=(s.heap.push { cls:=.type "range",data:=.fields #[.int lo t,.int hi u,.int 1 v] }).objs.size:=by simpa using hb
  subst e
  exact I1.fpOk (Nat.le_refl _) (I1.hok.fresh (Nat.le_refl _))
def zzw(ta:TA):TI:=fun σ H R=>ta σ H fun vs H1=>∃j:Int,vs=[.int j]∧-(2^62)≤j∧j<2^62∧R (Itr 0 j.toNat) H1
def zz0(ta:TA):TI:=fun σ H R=>ta σ H fun vs H1=>∃i j:Int,vs=[.int i,.int j]∧(-(2^62)≤i∧i<2^62∧-(2^62)≤j∧j<2^62)∧R (Itr i (j-i).toNat) H1
theorem zco{a:Expr}{ta:TA}{p pos:Pos}(hg:Gl X "range")(hm:X.mg "range" = none)(ha:PA X [a] ta)(hs:starEach [a] X.env=[(false,eval a X.env)]:=by rfl):PI X tg (.Call (.Name "range" p) [a] [] pos) (zzw ta):=by
 intro pins s σ H R I h
 refine Call_ (zlo I hg hm boot_range (PyProof.Rows.callWith_type1 (thn (ha pos pins s σ H _ I h) fun us s1 ⟨vs,H1,I1,r1,q1⟩=>?_) hs rfl))
 obtain⟨j,e,q1,q2,q⟩:=q1
 subst e
 cases r1 with
 |cons r rr=>
  cases rr
  obtain⟨t,rfl⟩:=r
  exact call_range_1 (zql I1 (by omega) (by omega) q1 q2 (by simpa using q))
theorem zs4{a b:Expr}{ta:TA}{p pos:Pos}(hg:Gl X "range")(hm:X.mg "range" = none)(ha:PA X [a,b] ta)(hs:starEach [a,b] X.env=[(false,eval a X.env),(false,eval b X.env)]:=by rfl)(hs2:starEach [b] X.env=[(false,eval b X.env)]:=by rfl):
  PI X tg (.Call (.Name "range" p) [a,b] [] pos) (zz0 ta):=by
 intro pins s σ H R I h
 refine Call_ (zlo I hg hm boot_range (PyProof.Rows.callWith_type1 (thn (ha pos pins s σ H _ I h) fun us s1 ⟨vs,H1,I1,r1,q1⟩=>?_) (by rw[hs,hs2]) (by rw[hs2];rfl)))
 obtain⟨i,j,e,⟨q1,q2,q3,q4⟩,q⟩:=q1
 subst e
 cases r1 with
 |cons r rr=>
  cases rr with
  |cons r' rr=>
   cases rr
   obtain⟨t,rfl⟩:=r
   obtain⟨t',rfl⟩:=r'
   exact call_range_2 (zql I1 q1 q2 q3 q4 q)
def zBd(wi:TI)(g:TG)(tb:TS):TS:=fun D σ H=>wi σ H fun J H1=>∃W:Nat→Nat→St→Hp→Prop,(∃m,W 0 m σ H1)∧∀i m σ H,W i m σ H →
 (J.stop i H∧D.nx σ H)∨(J.go i H∧∃N:St→Hp→Prop,(∀σ' H',N σ' H'→∃m',m'<m∧W (i+1) m' σ' H')∧∀x H',J.yld i H x H'→g x σ H' fun σ2 H2=>tb { D with nx:=N,ct:=N,bk:=D.nx } σ2 H2)
def zgx(fp:List Addr)(h:Heap):List (Addr×Obj):=fp.filterMap fun b=>(h.get? b).map fun o=>(b,o)
theorem zdh{fp:List Addr}{h:Heap}{b:Addr}{o:Obj}(hb:b∈fp)(e:h.get? b=some o):(b,o)∈zgx fp h:=List.mem_filterMap.mpr ⟨b,hb,by rw[e];rfl⟩
theorem zt5{fp:List Addr}{h:Heap}{p:Addr×Obj}(hp:p∈zgx fp h):p.1∈fp∧h.get? p.1=some p.2:=by
 obtain⟨b,hb,e⟩:=List.mem_filterMap.mp hp
 cases q:h.get? b with
 |none=>rw[q] at e;cases e
 |some o=>
  rw[q] at e
  have e':(b,o)=p:=Option.some.inj e
  subst e'
  exact⟨hb,q⟩
theorem Inv.pinned{pins:List (Addr×Obj)}{σ:St}{H:Hp}{s:Shared}{fp:List Addr}(I:Inv X pins σ H s)(hf:∀b∈fp,zis X pins H b)(ho:∀b∈fp,∃o,s.heap.get? b=some o∧∀v,o.data≠.cell v):Inv X (pins++zgx fp s.heap) σ H s:=
 I.pins_of fun p hp=>(List.mem_append.mp hp).elim (fun z=>I.pin p (List.mem_append_right _ z)) fun z=>by
  obtain⟨hb,e⟩:=zt5 z
  obtain⟨f0,f1,f2,_⟩:=hf p.1 hb
  obtain⟨o,e',d⟩:=ho p.1 hb
  rw[e] at e';cases e'
  exact⟨e,f0,f1,f2,d⟩
theorem Inv.unpinned{pins pl:List (Addr×Obj)}{σ:St}{H:Hp}{s:Shared}(I:Inv X (pins++pl) σ H s):Inv X pins σ H s:=I.pins_of fun p hp=>I.pin p (List.mem_append_right _ (List.mem_append_left _ hp))
theorem zes{iter:Expr}{body:List Stmt}{wi:TI}{g:TG}{tb:TS}{pos:Pos}(hp:PassesOwn (model X.prog X.w) X.A X.env X.xe)(hc:X.calm=true)(hi:PI X tg iter wi)(hg:PG X tg g)(hb:PSs X body tb)
  (hs:∀x,foldedSetIterable iter X.env x=pure x:=by intro _;rfl):PS X (.For tg iter body [] pos) (zBd wi g tb):=by
 intro pins s σ H D I h
 refine wpAny_For (thn (hi pins s σ H _ I h) fun v s1 h1=>thn h1 fun ap s2 h2=>?_) hs
 obtain⟨it,fp,tn,J,H2,e,I2,T,ao,f2,W,⟨m0,w0⟩,af⟩:=h2
 subst e
 have ae:∀{H':Hp},(∀b∈fp,H' b=none)→∀b∈fp,zis X pins H' b:=fun hn b hb=>⟨hn b hb,(f2 b hb).2⟩
 refine codeAny_forLoop_any (fun n s'=>∃i σ' H',Inv X pins σ' H' s'∧tn i s'.heap∧(∀b∈fp,H' b=none)∧W i n σ' H') ?_ m0 ⟨0,σ,H2,I2,ao,fun b hb=>(f2 b hb).1,w0⟩
 rintro n s3 ⟨i,σ3,H3,I3,ak,aj,w3⟩
 rcases af i n σ3 H3 w3 with⟨ai,qn⟩|⟨go,N,hN,step⟩
 ·refine wpAny_passesOwn hp (thn (T.done X rfl rfl rfl hc i pins s3 σ3 H3 X.xe I3 (ae aj) ak ai) fun r s4 ⟨hr,I4⟩=>?_)
  subst hr
  exact wpAny_execs_nil ⟨σ3,H3,I4,qn⟩
 ·refine wpAny_passesOwn hp (thn (T.item X rfl rfl rfl hc i pins s3 σ3 H3 X.xe I3 (ae aj) ak go) fun r s4 ⟨u,hr,h4⟩=>?_)
  subst hr
  refine wpAny_passesOwn hp (thn h4 fun _ s5 ⟨x,H5,I5,r5,y5,ah,am⟩=>?_)
  have al:=I5.pinned (ae am) (T.obj _ _ ah)
  refine wpAny_passesOwn hp (thn (hg _ s5 σ3 H5 x u _ al r5 (step x H5 y5)) fun _ s6 ⟨σ6,H6,I6,q6⟩=>?_)
  refine wpAny_passesOwn hp (thn (hb _ s6 σ6 H6 _ I6 q6) fun f s7 q7=>?_)
  have ad:∀{σ7:St} {H7:Hp},Inv X (pins++zgx fp s5.heap) σ7 H7 s7→N σ7 H7→∃m,m<n∧∃i σ' H',Inv X pins σ' H' s7∧tn i s7.heap∧(∀b∈fp,H' b=none)∧W i m σ' H':=fun {σ7 H7} I7 n7=>by
   obtain⟨m',hm,w7⟩:=hN σ7 H7 n7
   refine⟨m',hm,i+1,σ7,H7,I7.unpinned,T.keep _ _ _ ah fun b hb o e=>(I7.pin (b,o) (List.mem_append_right _ (List.mem_append_right _ (zdh hb e)))).1,fun b hb=>?_,w7⟩
   obtain⟨o,e,d⟩:=T.obj _ _ ah b hb
   exact(I7.pin (b,o) (List.mem_append_right _ (List.mem_append_right _ (zdh hb e)))).2.1
  cases f with
  |next=>obtain⟨σ7,H7,I7,n7⟩:=q7;exact ad I7 n7
  |cont=>obtain⟨σ7,H7,I7,n7⟩:=q7;exact ad I7 n7
  |brk=>obtain⟨σ7,H7,I7,q7⟩:=q7;exact⟨σ7,H7,I7.unpinned,q7⟩
  |ret v=>obtain⟨x7,σ7,H7,I7,r7,q7⟩:=q7;exact⟨x7,σ7,H7,I7.unpinned,r7,q7⟩
end
theorem zg0{K:PySem.W.Frag}{a:Addr}{xs:List V}{g:TG}{tb:TS}{D:zkx}{σ:St}{H:Hp}(Pv:Nat→St→Hp→Prop)(h0:Pv 0 σ H)(hl:∀i σ H,i≤xs.length→Pv i σ H→SqL K H a xs)
  (hs:∀i x σ H,xs[i]?=some x→Pv i σ H→g x σ H fun σ2 H2=>tb { D with nx:=Pv (i+1),ct:=Pv (i+1),bk:=D.nx } σ2 H2) (hd:∀σ H,Pv xs.length σ H→D.nx σ H):
  ∃W:Nat→Nat→St→Hp→Prop,(∃m,W 0 m σ H)∧∀i m σ H,W i m σ H →
   ((Itl K a).stop i H∧D.nx σ H)∨((Itl K a).go i H∧∃N:St→Hp→Prop,(∀σ' H',N σ' H'→∃m',m'<m∧W (i+1) m' σ' H')∧∀x H',(Itl K a).yld i H x H'→g x σ H' fun σ2 H2=>tb { D with nx:=N,ct:=N,bk:=D.nx } σ2 H2):=by
 refine⟨fun i m σ H=>m=xs.length-i∧i≤xs.length∧Pv i σ H,⟨xs.length,by simp,Nat.zero_le _,h0⟩,?_⟩
 rintro i m σ H ⟨rfl,hi,p⟩
 have q:=hl i σ H hi p
 by_cases ad:i<xs.length
 ·refine .inr ⟨⟨xs,xs[i],q,by simp[ad]⟩,Pv (i+1),fun σ' H' p'=>⟨xs.length-(i+1),by omega,rfl,ad,p'⟩,fun x H' y=>?_⟩
  obtain⟨e,y⟩:=y
  subst e
  exact hs i x σ _ (y xs q) p
 ·have e:i=xs.length:=by omega
  subst e
  exact .inl ⟨⟨xs,q,Nat.le_refl _⟩,hd σ H p⟩
theorem zsc{K:PySem.W.Frag}{a:Addr}{xs:List V}{g:TG}{tb:TS}{D:zkx}{σ:St}{H:Hp}(Pv:Nat→St→Hp→Prop)(h0:Pv 0 σ H)(hl:∀i σ H,i≤xs.length→Pv i σ H→SqT K H a xs)
  (hs:∀i x σ H,xs[i]?=some x→Pv i σ H→g x σ H fun σ2 H2=>tb { D with nx:=Pv (i+1),ct:=Pv (i+1),bk:=D.nx } σ2 H2) (hd:∀σ H,Pv xs.length σ H→D.nx σ H):
  ∃W:Nat→Nat→St→Hp→Prop,(∃m,W 0 m σ H)∧∀i m σ H,W i m σ H →
   ((Itt K a).stop i H∧D.nx σ H)∨((Itt K a).go i H∧∃N:St→Hp→Prop,(∀σ' H',N σ' H'→∃m',m'<m∧W (i+1) m' σ' H')∧∀x H',(Itt K a).yld i H x H'→g x σ H' fun σ2 H2=>tb { D with nx:=N,ct:=N,bk:=D.nx } σ2 H2):=by
 refine⟨fun i m σ H=>m=xs.length-i∧i≤xs.length∧Pv i σ H,⟨xs.length,by simp,Nat.zero_le _,h0⟩,?_⟩
 rintro i m σ H ⟨rfl,hi,p⟩
 have q:=hl i σ H hi p
 by_cases ad:i<xs.length
 ·refine .inr ⟨⟨xs,xs[i],q,by simp[ad]⟩,Pv (i+1),fun σ' H' p'=>⟨xs.length-(i+1),by omega,rfl,ad,p'⟩,fun x H' y=>?_⟩
  obtain⟨e,y⟩:=y
  subst e
  exact hs i x σ _ (y xs q) p
 ·have e:i=xs.length:=by omega
  subst e
  exact .inl ⟨⟨xs,q,Nat.le_refl _⟩,hd σ H p⟩
theorem zm1{lo:Int}{n:Nat}{g:TG}{tb:TS}{D:zkx}{σ:St}{H:Hp}(Pv:Nat→St→Hp→Prop)(h0:Pv 0 σ H)
  (hs:∀i σ H,i<n→Pv i σ H→g (.int (lo+i)) σ H fun σ2 H2=>tb { D with nx:=Pv (i+1),ct:=Pv (i+1),bk:=D.nx } σ2 H2) (hd:∀σ H,Pv n σ H→D.nx σ H):
  ∃W:Nat→Nat→St→Hp→Prop,(∃m,W 0 m σ H)∧∀i m σ H,W i m σ H →
   ((Itr lo n).stop i H∧D.nx σ H)∨((Itr lo n).go i H∧∃N:St→Hp→Prop,(∀σ' H',N σ' H'→∃m',m'<m∧W (i+1) m' σ' H')∧∀x H',(Itr lo n).yld i H x H'→g x σ H' fun σ2 H2=>tb { D with nx:=N,ct:=N,bk:=D.nx } σ2 H2):=by
 refine⟨fun i m σ H=>m=n-i∧i≤n∧Pv i σ H,⟨n,by simp,Nat.zero_le _,h0⟩,?_⟩
 rintro i m σ H ⟨rfl,hi,p⟩
 by_cases ad:i<n
 ·refine .inr ⟨ad,Pv (i+1),fun σ' H' p'=>⟨n-(i+1),by omega,rfl,ad,p'⟩,fun x H' y=>?_⟩
  obtain⟨e,y⟩:=y
  subst e y
  exact hs i σ _ ad p
 ·have e:i=n:=by omega
  subst e
  exact .inl ⟨Nat.le_refl _,hd σ H p⟩
theorem zu4{c:TT}{tb:TS}{D:zkx}{σ:St}{H:Hp}(Pv:St→Hp→Prop)(μ:St→Hp→Nat)(h0:Pv σ H)
  (hs:∀σ H,Pv σ H→c σ H fun b H1=>if b=true then tb { D with nx:=fun σ' H'=>Pv σ' H'∧μ σ' H'<μ σ H,ct:=fun σ' H'=>Pv σ' H'∧μ σ' H'<μ σ H,bk:=D.nx } σ H1 else D.nx σ H1)
  (mono:∀σ H Q Q',(∀b H1,Q b H1→Q' b H1)→c σ H Q→c σ H Q'):zvt c tb D σ H:=by
 refine⟨fun m σ H=>m=μ σ H∧Pv σ H,⟨_,rfl,h0⟩,?_⟩
 rintro m σ H ⟨rfl,p⟩
 refine mono σ H _ _ (fun b H1 q=>?_) (hs σ H p)
 cases b with
 |true=>exact⟨_,fun σ' H' ⟨p',l⟩=>⟨_,l,rfl,p'⟩,q⟩
 |false=>exact q
abbrev R2:=V→V→Hp→VK→Prop
def OpR(X:Cx)(f:Value→Value→Sem Value)(r:R2):Prop:=
 ∀(pins:List (Addr×Obj))(s:Shared)(σ:St)(H:Hp)(x y:V)(v u:Value)(Q:VK),Inv X pins σ H s→RelV x v→RelV y u→r x y H Q →
  wpAny (model X.prog X.w) X.A (f v u) (EP X pins σ Q) X.xe s
def UnR(X:Cx)(f:Value→Sem Value)(r:V→Hp→VK→Prop):Prop:=
 ∀(pins:List (Addr×Obj))(s:Shared)(σ:St)(H:Hp)(x:V)(v:Value)(Q:VK),Inv X pins σ H s→RelV x v→r x H Q →
  wpAny (model X.prog X.w) X.A (f v) (EP X pins σ Q) X.xe s
def zdf(X:Cx)(f:Value)(r:List V→Hp→VK→Prop):Prop:=
 ∀(pins:List (Addr×Obj))(s:Shared)(σ:St)(H:Hp)(xs:List V)(us:List Value)(Q:VK),Inv X pins σ H s→Vals xs us→r xs H Q →
  wpAny (model X.prog X.w) X.A (call f us) (EP X pins σ Q) X.xe s
def tOp(r:R2)(ta tb:TE):TE:=fun σ H Q=>ta σ H fun x H1=>tb σ H1 fun y H2=>r x y H2 Q
def tUn(r:V→Hp→VK→Prop)(ta:TE):TE:=fun σ H Q=>ta σ H fun x H1=>r x H1 Q
def rI(C:Int→Int→Prop)(g:Int→Int→V):R2:=fun x y H Q=>∃i j,x=.int i∧y=.int j∧C i j∧Q (g i j) H
def rI0(g:Int→Int→V):R2:=fun x y H Q=>∃i j,x=.int i∧y=.int j∧Q (g i j) H
def rU(g:Int→V):V→Hp→VK→Prop:=fun x H Q=>∃i,x=.int i∧Q (g i) H
section
variable {X : Cx} {a b c : Expr} {ta tb tc : TE} {pos : Pos}
theorem zzg(ha:PE X a ta)(hb:PE X b tb){pins:List (Addr×Obj)}{s:Shared}{σ:St}{H:Hp}{R:V→V→Hp→Prop}(I:Inv X pins σ H s)
  (h:ta σ H fun x H1=>tb σ H1 fun y H2=>R x y H2) {Q:Value→Shared→Prop} {f:Value→Value→Sem Value}
  (hf:∀v u s2 x y H2,Inv X pins σ H2 s2→RelV x v→RelV y u→R x y H2→wpAny (model X.prog X.w) X.A (f v u) Q X.xe s2):
  wpAny (model X.prog X.w) X.A (eval a X.env) (fun v s₁=>wpAny (model X.prog X.w) X.A (eval b X.env) (fun u s₂=>wpAny (model X.prog X.w) X.A (f v u) Q X.xe s₂) X.xe s₁) X.xe s:=by
 refine thn (ha pins s σ H _ I h) fun v s1 ⟨x,H1,I1,r1,q1⟩=>?_
 refine thn (hb pins s1 σ H1 _ I1 q1) fun u s2 ⟨y,H2,I2,r2,q2⟩=>?_
 exact hf v u s2 x y H2 I2 r1 r2 q2
theorem zba{op:Operator}{r:R2}(ho:OpR X (binaryOp op) r)(ha:PE X a ta)(hb:PE X b tb):PE X (.BinOp a op b pos) (tOp r ta tb):=by
 intro pins s σ H Q I h
 exact wpAny_BinOp (zzg ha hb I h fun v u s2 x y H2 I2 rx ry q=>ho pins s2 σ H2 x y v u Q I2 rx ry q)
theorem zAo{op:UnaryOp}{r:V→Hp→VK→Prop}(ho:UnR X (unaryOp op) r)(ha:PE X a ta):PE X (.UnaryOp op a pos) (tUn r ta):=by
 intro pins s σ H Q I h
 exact UnaryOp_ (thn (ha pins s σ H _ I h) fun v s1 ⟨x,H1,I1,r1,q1⟩=>ho pins s1 σ H1 x v Q I1 r1 q1)
theorem opI{f:Value→Value→Sem Value}{C:Int→Int→Prop}{g:Int→Int→Int}
  (rule:∀(i j:Int)(t u:Tok)(s:Shared)(Q:Value→Shared→Prop)(E:Value→Shared→Prop),C i j→Q (.int (g i j) s.toks) { s with toks:=s.toks+1 }→wpAny (model X.prog X.w) X.A (f (.int i t) (.int j u)) Q E s):
  OpR X f (rI C fun i j=>.int (g i j)):=by
 intro pins s σ H x y v u Q I rx ry h
 obtain⟨i,j,rfl,rfl,hc,q⟩:=h
 obtain⟨t,rfl⟩:=rx
 obtain⟨t',rfl⟩:=ry
 exact rule i j t t' s _ _ hc ⟨.int (g i j),H,I.tok _,⟨_,rfl⟩,q⟩
theorem zx6{f:Value→Value→Sem Value}{g:Int→Int→Int}
  (rule:∀(i j:Int)(t u:Tok)(s:Shared)(Q:Value→Shared→Prop)(E:Value→Shared→Prop),Q (.int (g i j) s.toks) { s with toks:=s.toks+1 }→wpAny (model X.prog X.w) X.A (f (.int i t) (.int j u)) Q E s):
  OpR X f (rI0 fun i j=>.int (g i j)):=by
 intro pins s σ H x y v u Q I rx ry h
 obtain⟨i,j,rfl,rfl,q⟩:=h
 obtain⟨t,rfl⟩:=rx
 obtain⟨t',rfl⟩:=ry
 exact rule i j t t' s _ _ ⟨.int (g i j),H,I.tok _,⟨_,rfl⟩,q⟩
theorem zwt{f:Value→Value→Sem Value}{g:Int→Int→Bool}
  (rule:∀(i j:Int)(t u:Tok)(s:Shared)(Q:Value→Shared→Prop)(E:Value→Shared→Prop),Q (.bool (g i j)) s→wpAny (model X.prog X.w) X.A (f (.int i t) (.int j u)) Q E s):
  OpR X f (rI0 fun i j=>.bl (g i j)):=by
 intro pins s σ H x y v u Q I rx ry h
 obtain⟨i,j,rfl,rfl,q⟩:=h
 obtain⟨t,rfl⟩:=rx
 obtain⟨t',rfl⟩:=ry
 exact rule i j t t' s _ _ ⟨.bl (g i j),H,I,rfl,q⟩
def zyo(i j:Int):Prop:=0<j∧j<1073741824
def zAa(i j:Int):Prop:=0≤j∧j≤1000000∧i.natAbs<2^64
def CMul(i j:Int):Prop:=(-(2^64)<i∧i<2^64)∨(-(2^64)<j∧j<2^64)
theorem CMul.ok{i j:Int}(h:CMul i j):IntMulOk i j:=by
 rcases h with⟨h1,h2⟩|⟨h1,h2⟩
 ·exact .of_left (intBits_le_64 h1 h2)
 ·exact .of_right (intBits_le_64 h1 h2)
theorem two_pow_nn(k:Nat):(0:Int)≤2^k:=by
 rw[two_pow_cast]
 exact Int.natCast_nonneg _
theorem zcr:OpR X (binaryOp .Add) (rI0 fun i j=>.int (i+j)):=zx6 fun _ _ _ _ _ _ _ q=>add_int q
theorem zh9:OpR X (binaryOp .Sub) (rI0 fun i j=>.int (i-j)):=zx6 fun _ _ _ _ _ _ _ q=>sub_int q
theorem zg4:OpR X (binaryOp .Mult) (rI CMul fun i j=>.int (i*j)):=opI fun _ _ _ _ _ _ _ hc q=>mul_int q hc.ok
theorem zxx:OpR X (binaryOp .FloorDiv) (rI zyo fun i j=>.int (i/j)):=opI fun i j _ _ _ _ _ hc q=>by
 have h1:(0:Int)<j:=hc.1
 have h2:j<1073741824:=hc.2
 exact floordiv_int (by omega) (by rw[Int.fdiv_eq_ediv_of_nonneg i (by omega)];exact q) (.inl (PyProof.noPylong_small (by omega)))
theorem zh5:OpR X (binaryOp .Mod) (rI (fun _ j=>0<j) fun i j=>.int (i%j)):=opI fun i j _ _ _ _ _ hc q=>by
 have h1:(0:Int)<j:=hc
 exact mod_int' (by omega) (by rw[Int.fmod_eq_emod_of_nonneg i (by omega)];exact q)
theorem zzn:OpR X (binaryOp .Pow) (rI zAa fun i j=>.int (i^j.toNat)):=opI fun _ _ _ _ _ _ _ hc q=>pow_int_small hc.1 hc.2.1 hc.2.2 q
theorem znu:OpR X (binaryOp .LShift) (rI zAa fun i j=>.int (i*2^j.toNat)):=opI fun _ _ _ _ _ _ _ hc q=>lshift_int_small hc.1 hc.2.1 hc.2.2 q
theorem zzd:OpR X (binaryOp .RShift) (rI (fun _ j=>0≤j) fun i j=>.int (i/2^j.toNat)):=opI fun i j _ _ _ _ _ hc q=>
 rshift_int hc (by rw[Int.fdiv_eq_ediv_of_nonneg i (two_pow_nn _)];exact q)
theorem zzi:OpR X (binaryOp .BitAnd) (rI0 fun i j=>.int (Builtin.bitAnd i j)):=zx6 fun _ _ _ _ _ _ _ q=>and_int q
theorem zsn:OpR X (binaryOp .BitOr) (rI0 fun i j=>.int (Builtin.bitOr i j)):=zx6 fun _ _ _ _ _ _ _ q=>or_int q
theorem unI{f:Value→Sem Value}{g:Int→Int}
  (rule:∀(i:Int)(t:Tok)(s:Shared)(Q:Value→Shared→Prop)(E:Value→Shared→Prop),Q (.int (g i) s.toks) { s with toks:=s.toks+1 }→wpAny (model X.prog X.w) X.A (f (.int i t)) Q E s):
  UnR X f (rU fun i=>.int (g i)):=by
 intro pins s σ H x v Q I rx h
 obtain⟨i,rfl,q⟩:=h
 obtain⟨t,rfl⟩:=rx
 exact rule i t s _ _ ⟨.int (g i),H,I.tok _,⟨_,rfl⟩,q⟩
theorem zy2:UnR X (unaryOp .USub) (rU fun i=>.int (-i)):=unI fun _ _ _ _ _ q=>neg_int q
end
def zAf:V→V→Bool
 |.non,.non=>true|.non,.int _=>true|.int _,.non=>true|.non,.bl _=>true|.bl _,.non=>true|.non,.str _=>true|.str _,.non=>true
 |.int _,.int _=>true|.bl _,.bl _=>true|.str _,.str _=>true|.byt _,.byt _=>true
 |.int _,.str _=>true|.str _,.int _=>true|.bl _,.str _=>true|.str _,.bl _=>true
 |_,_=>false
def rEq:R2:=fun x y H Q=>zAf x y=true∧Q (.bl (decide (x=y))) H
def rNe:R2:=fun x y H Q=>zAf x y=true∧Q (.bl (!decide (x=y))) H
theorem zha{i j:Int}:decide (V.int i=V.int j)=(i==j):=by
 rw[Bool.eq_iff_iff]
 simp
theorem zwa{i j:Bool}:decide (V.bl i=V.bl j)=(i==j):=by
 rw[Bool.eq_iff_iff]
 simp
theorem zsu{i j:Str}:decide (V.str i=V.str j)=(i==j):=by
 rw[Bool.eq_iff_iff]
 simp
theorem zsr{i j:Array UInt8}:decide (V.byt i=V.byt j)=(i.toList==j.toList):=by
 rw[Bool.eq_iff_iff]
 cases i
 cases j
 simp
section
variable {X : Cx} {a b c : Expr} {ta tb tc : TE} {pos : Pos}
theorem zbg{pins:List (Addr×Obj)}{σ:St}{H:Hp}{s:Shared}{Q:VK}{k k':Bool}(I:Inv X pins σ H s)(q:Q (.bl k) H)(e:k=k'):EP X pins σ Q (.bool k') s:=by
 subst e
 exact⟨.bl k,H,I,rfl,q⟩
theorem zbh:OpR X (compareOp .Eq) rEq:=by
 intro pins s σ H x y v u Q I rx ry h
 obtain⟨hs,q⟩:=h
 cases x with
 |non=>
  cases rx
  cases y with
  |non=>cases ry;exact PySem.EqNone.eq_none_none (zbg I q (by simp))
  |bl j=>cases ry;exact PySem.EqNone.eq_none_bool (zbg I q (by simp))
  |int j=>obtain⟨t',rfl⟩:=ry;exact PySem.EqNone.eq_none_int (zbg I q (by simp))
  |str j=>obtain⟨t',rfl⟩:=ry;exact PySem.EqNone.eq_none_str (zbg I q (by simp))
  |_=>exact absurd (show false=true from hs) Bool.false_ne_true
 |bl i=>
  cases rx
  cases y with
  |non=>cases ry;exact PySem.EqNone.eq_bool_none (zbg I q (by simp))
  |bl j=>cases ry;exact eq_bool (zbg I q zwa)
  |str j=>obtain⟨t',rfl⟩:=ry;exact PySem.EqMixed.eq_bool_str (zbg I q (by simp))
  |_=>exact absurd (show false=true from hs) Bool.false_ne_true
 |int i=>
  obtain⟨t,rfl⟩:=rx
  cases y with
  |non=>cases ry;exact PySem.EqNone.eq_int_none (zbg I q (by simp))
  |int j=>obtain⟨t',rfl⟩:=ry;exact eq_int (zbg I q zha)
  |str j=>obtain⟨t',rfl⟩:=ry;exact PySem.EqMixed.eq_int_str (zbg I q (by simp))
  |_=>exact absurd (show false=true from hs) Bool.false_ne_true
 |str i=>
  obtain⟨t,rfl⟩:=rx
  cases y with
  |non=>cases ry;exact PySem.EqNone.eq_str_none (zbg I q (by simp))
  |bl j=>cases ry;exact PySem.EqMixed.eq_str_bool (zbg I q (by simp))
  |int j=>obtain⟨t',rfl⟩:=ry;exact PySem.EqMixed.eq_str_int (zbg I q (by simp))
  |str j=>obtain⟨t',rfl⟩:=ry;exact eq_str (zbg I q zsu)
  |_=>exact absurd (show false=true from hs) Bool.false_ne_true
 |byt i=>
  obtain⟨t,rfl⟩:=rx
  cases y with
  |byt j=>obtain⟨t',rfl⟩:=ry;exact PySem.W.eq_bytes (zbg I q zsr)
  |_=>exact absurd (show false=true from hs) Bool.false_ne_true
 |_=>cases y<;>exact absurd (show false=true from hs) Bool.false_ne_true
theorem zmq:OpR X (compareOp .NotEq) rNe:=by
 intro pins s σ H x y v u Q I rx ry h
 obtain⟨hs,q⟩:=h
 cases x with
 |non=>
  cases rx
  cases y with
  |non=>cases ry;exact PySem.EqNone.ne_none_none (zbg I q (by simp))
  |bl j=>cases ry;exact PySem.EqNone.ne_none_bool (zbg I q (by simp))
  |int j=>obtain⟨t',rfl⟩:=ry;exact PySem.EqNone.ne_none_int (zbg I q (by simp))
  |str j=>obtain⟨t',rfl⟩:=ry;exact PySem.EqNone.ne_none_str (zbg I q (by simp))
  |_=>exact absurd (show false=true from hs) Bool.false_ne_true
 |bl i=>
  cases rx
  cases y with
  |non=>cases ry;exact PySem.EqNone.ne_bool_none (zbg I q (by simp))
  |bl j=>cases ry;exact ne_bool (zbg I q (congrArg not zwa))
  |str j=>obtain⟨t',rfl⟩:=ry;exact PySem.EqMixed.ne_bool_str (zbg I q (by simp))
  |_=>exact absurd (show false=true from hs) Bool.false_ne_true
 |int i=>
  obtain⟨t,rfl⟩:=rx
  cases y with
  |non=>cases ry;exact PySem.EqNone.ne_int_none (zbg I q (by simp))
  |int j=>obtain⟨t',rfl⟩:=ry;exact ne_int (zbg I q (congrArg not zha))
  |str j=>obtain⟨t',rfl⟩:=ry;exact PySem.EqMixed.ne_int_str (zbg I q (by simp))
  |_=>exact absurd (show false=true from hs) Bool.false_ne_true
 |str i=>
  obtain⟨t,rfl⟩:=rx
  cases y with
  |non=>cases ry;exact PySem.EqNone.ne_str_none (zbg I q (by simp))
  |bl j=>cases ry;exact PySem.EqMixed.ne_str_bool (zbg I q (by simp))
  |int j=>obtain⟨t',rfl⟩:=ry;exact PySem.EqMixed.ne_str_int (zbg I q (by simp))
  |str j=>obtain⟨t',rfl⟩:=ry;exact ne_str (zbg I q (congrArg not zsu))
  |_=>exact absurd (show false=true from hs) Bool.false_ne_true
 |byt i=>
  obtain⟨t,rfl⟩:=rx
  cases y with
  |byt j=>obtain⟨t',rfl⟩:=ry;exact PySem.W.ne_bytes (zbg I q (congrArg not zsr))
  |_=>exact absurd (show false=true from hs) Bool.false_ne_true
 |_=>cases y<;>exact absurd (show false=true from hs) Bool.false_ne_true
theorem zm9:OpR X (compareOp .Lt) (rI0 fun i j=>.bl (decide (i<j))):=zwt fun _ _ _ _ _ _ _ q=>lt_int q
theorem ziz:OpR X (compareOp .LtE) (rI0 fun i j=>.bl (decide (i≤j))):=zwt fun _ _ _ _ _ _ _ q=>le_int q
theorem zhu:OpR X (compareOp .Gt) (rI0 fun i j=>.bl (decide (j<i))):=zwt fun _ _ _ _ _ _ _ q=>gt_int q
theorem zzv:OpR X (compareOp .GtE) (rI0 fun i j=>.bl (decide (j≤i))):=zwt fun _ _ _ _ _ _ _ q=>ge_int q
theorem zh2:OpR X (compareOp .Is) (fun x y H Q=>y=.non∧Q (.bl (decide (x=.non))) H):=by
 intro pins s σ H x y v u Q I rx ry h
 obtain⟨rfl,q⟩:=h
 cases ry
 refine is_none_gen (zbg I q ?_)
 cases x<;>first
  |(cases rx;rfl)
  |(obtain⟨t,rfl⟩:=rx;rfl)
theorem zke:OpR X (compareOp .IsNot) (fun x y H Q=>y=.non∧Q (.bl (!decide (x=.non))) H):=by
 intro pins s σ H x y v u Q I rx ry h
 obtain⟨rfl,q⟩:=h
 cases ry
 refine isnot_none_gen (zbg I q ?_)
 cases x<;>first
  |(cases rx;rfl)
  |(obtain⟨t,rfl⟩:=rx;rfl)
theorem zao(b:Expr){op:CmpOp}(h:op≠.In:=by decide)(h2:op≠.NotIn:=by decide):behindInMarks op b=false:=by
 have e1:(op==CmpOp.In)=false:=by cases op<;>first|rfl|exact absurd rfl h
 have e2:(op==CmpOp.NotIn)=false:=by cases op<;>first|rfl|exact absurd rfl h2
 cases b<;>simp[behindInMarks,e1,e2]
theorem zbp{op:CmpOp}{r:R2}(ho:OpR X (compareOp op) r)(ha:PE X a ta)(hb:PE X b tb)(hm:behindInMarks op b=false):PE X (.Compare a [op] [b] pos) (tOp r ta tb):=by
 intro pins s σ H Q I h
 exact wpAny_Compare1 (zzg ha hb I h fun v u s2 x y H2 I2 rx ry q=>ho pins s2 σ H2 x y v u Q I2 rx ry q) hm
def zAu(t:TE):TT:=fun σ H Q=>t σ H fun x H'=>∃k,x=.bl k∧Q k H'
theorem zam{op:CmpOp}{r:R2}(ho:OpR X (compareOp op) r)(ha:PE X a ta)(hb:PE X b tb)(hm:behindInMarks op b=false):PT X (.Compare a [op] [b] pos) (zAu (tOp r ta tb)):=by
 intro pins s σ H Q I h
 refine wpAny_isTrue_Compare1 (thn (ha pins s σ H _ I h) fun v s1 ⟨x,H1,I1,r1,q1⟩=>thn (hb pins s1 σ H1 _ I1 q1) fun u s2 ⟨y,H2,I2,r2,q2⟩=>
  thn (ho pins s2 σ H2 x y v u _ I2 r1 r2 q2) fun c s3 ⟨z,H3,I3,r3,k,e,q3⟩=>?_) hm
 subst e
 cases r3
 exact wpAny_truthy_bool ⟨H3,I3,q3⟩
def zy0(r r':R2)(ta tb tc:TE):TE:=fun σ H Q=>ta σ H fun x H1=>tb σ H1 fun y H2=>r x y H2 fun z H3=>∃k,z=.bl k ∧
 (if k=true then tc σ H3 fun w' H4=>r' y w' H4 Q else Q (.bl false) H3)
theorem zpt{op op':CmpOp}{r r':R2}(ho:OpR X (compareOp op) r)(ho':OpR X (compareOp op') r')(ha:PE X a ta)(hb:PE X b tb)(hc:PE X c tc)
  (hm:lastMarks [op,op'] [b,c]=false:=by with_unfolding_all rfl):PE X (.Compare a [op,op'] [b,c] pos) (zy0 r r' ta tb tc):=by
 intro pins s σ H Q I h
 refine Compare_chain (thn (ha pins s σ H _ I h) fun v s1 ⟨x,H1,I1,r1,q1⟩=>chain_link (thn (hb pins s1 σ H1 _ I1 q1) fun u s2 ⟨y,H2,I2,r2,q2⟩=>
  thn (ho pins s2 σ H2 x y v u _ I2 r1 r2 q2) fun d s3 ⟨z,H3,I3,r3,k,e,q3⟩=>?_)) hm
 subst e
 cases r3
 refine wpAny_truthy_bool ?_
 cases k with
 |false=>exact ite_ff ⟨.bl false,H3,I3,rfl,q3⟩
 |true=>exact ite_tt (chain_last (thn (hc pins s3 σ H3 _ I3 q3) fun w' s4 ⟨z',H4,I4,r4,q4⟩=>ho' pins s4 σ H4 y z' u w' Q I4 r2 r4 q4))
theorem zjc:(sizeLine:Nat)<2^63:=by rw[sizeLine_eq];decide
theorem zfb{x:V}{us:List Value}(r:Vals [x] us):∃u,us=[u]∧RelV x u:=by
 cases r with
 |cons r1 r2=>cases r2;exact⟨_,rfl,r1⟩
theorem zzz{x y:V}{us:List Value}(r:Vals [x,y] us):∃u w',us=[u,w']∧RelV x u∧RelV y w':=by
 cases r with
 |cons r1 r2=>
  cases r2 with
  |cons r3 r4=>cases r4;exact⟨_,_,rfl,r1,r3⟩
theorem zmt:zdf X (.type "int") (fun xs H Q=>(∃i,xs=[.int i]∧Q (.int i) H)∨∃k,xs=[.bl k]∧Q (.int (if k then 1 else 0)) H):=by
 intro pins s σ H xs us Q I r h
 rcases h with⟨i,rfl,q⟩|⟨k,rfl,q⟩
 ·obtain⟨u,rfl,t,rfl⟩:=zfb r
  exact call_int_int ⟨.int i,H,I,⟨_,rfl⟩,q⟩
 ·obtain⟨u,rfl,r1⟩:=zfb r
  cases r1
  exact call_int_bool ⟨.int (if k then 1 else 0),H,I.tok _,⟨_,rfl⟩,q⟩
end
structure ObjM(h:Heap)(x dx C:Addr)(mA:Str→Option Value):Prop where
 obj:h.get? x=some (PySem.W.instObj C dx)
 ns:h.Ns1 dx mA
 ne:dx≠x
theorem zta{h:Heap}{dx:Addr}{mA:Str→Option Value}(n:h.Ns1 dx mA):∃od,h.get? dx=some od∧∀name,PySem.W.lookIn name od=some (mA name):=by
 obtain⟨o,es,ep,ho,hd,hk,_,hm⟩:=n
 refine⟨o,ho,fun name=>?_⟩
 have e:=hm name
 unfold nsFind findBy at e
 rw[←Array.find?_toList] at e
 unfold PySem.W.lookIn
 rw[hd]
 dsimp only
 split
 ·rename_i y q
  rw[q] at e
  exact congrArg some e
 ·rename_i q
  rw[q] at e
  have a:es.toList.any (·.refKey)=false:=by
   rw[List.any_eq_false]
   intro y hy
   obtain⟨z,t,ad⟩:=hk y (Array.mem_toList_iff.mp hy)
   simp[DictEntry.refKey,ad]
  have a':¬es.toList.any (·.refKey)=true:=by rw[a];exact Bool.false_ne_true
  rw[if_neg a']
  exact congrArg some e
theorem ObjM.look{h:Heap}{x dx C:Addr}{mA:Str→Option Value}(I:ObjM h x dx C mA):∃od,PySem.W.InstAt h x (PySem.W.instObj C dx) C (some od)∧∀name,PySem.W.lookIn name od=some (mA name):=
 let ⟨od,ho,hl⟩:=zta I.ns
 ⟨od,⟨I.obj,rfl,rfl,ho⟩,hl⟩
section
variable {P : Program} {w : World} {H H' : Hp} {h h' : Heap} {a C dx : Addr} {fs fs' : List (Str × V)}
theorem zxq(hok:HOk P w H h)(e:H a=some (.ins C dx fs)):∃mA,ObjM h a dx C mA∧(∀f,zyp (fs.lookup f) (mA f))∧PySem.Within mA (fs.map (·.1))∧fs.length≤1000∧H dx=some (.own a):=by
 obtain⟨d,z,ne,ob,mA,n,r,q⟩:=(show ObjOk P w H h a (.ins C dx fs) from hok a _ e)
 exact⟨mA,⟨ob,n,ne⟩,r,q,z,d⟩
end
structure Cls(K:PySem.W.Frag)(C:Addr):Prop where
 pg:PySem.W.plainGet K C Str.empty=true
 hd:PySem.W.hasDictIn K C=true
 po:PySem.W.plainOver K C=true
 sa:PySem.W.findIn K (.ref C) "__setattr__" = some (some (.builtin "object.__setattr__"))
theorem Cls.get{K:PySem.W.Frag}{C:Addr}(c:Cls K C)(f:Str):PySem.W.plainGet K C f=true:=c.pg
section
variable {X : Cx} {pins : List (Addr × Obj)} {σ : St} {H : Hp} {s : Shared} {A : Around} {E : Value → Shared → Prop} {Q : Value → Shared → Prop} {c : Value} {b : Bool}
inductive TyOf (K:PySem.W.Frag) (H:Hp):V→Value→Prop where
 |non:TyOf K H .non (.type "NoneType")
 |bl (x:Bool):TyOf K H (.bl x) (.type "bool")
 |int (i:Int):TyOf K H (.int i) (.type "int")
 |str (x:Str):TyOf K H (.str x) (.type "str")
 |flt (x:UInt64):TyOf K H (.flt x) (.type "float")
 |lst {a:Addr} {xs:List V} (e:H a=some (.lst xs)):TyOf K H (.ref a) (.type "list")
 |frz {a:Addr} {o:Obj} {xs:List V} (e:H a=some (.frz o (.lst xs))):TyOf K H (.ref a) (.type "list")
 |tup {a:Addr} {xs:List V} (e:H a=some (.tup xs)):TyOf K H (.ref a) (.type "tuple")
 |dK {a:Addr} {kvs:List (Key×V)} (e:H a=some (.dK kvs)):TyOf K H (.ref a) (.type "dict")
 |dT {a:Addr} {kvs:List (List Key×V)} (e:H a=some (.dT kvs)):TyOf K H (.ref a) (.type "dict")
 |ins {a C dx:Addr} {fs:List (Str×V)} (e:H a=some (.ins C dx fs)) (cl:Cls K C) (ha:PySem.W.findIn K (.ref C) "__class__" = some (some (.builtin "object.__class__")))
   (hn:PySem.W.specialIn K (.builtin "object.__class__") "__get__" = some (some (.builtin "getset_descriptor.__get__"))) (htk:PySem.W.takesIn K (.builtin "object.__class__")=some true)
   (hm:PySem.W.mroIn K C (.type "object")=some true):TyOf K H (.ref a) (.ref C)
theorem zt2{x:V}{u t:Value}(I:Inv X pins σ H s)(rx:RelV x u)(ty:TyOf X.K H x t)(e:PySem.W.kitOne X.K t c=some b)(h:∀tk,Q (.bool b) { s with toks:=tk }):
  wpAny (model X.prog X.w) A (call (.builtin "isinstance") [u,c]) Q E s:=by
 cases ty with
 |non=>cases(show u=Value.none from rx);exact PySem.W.kia_one PySem.W.kitx_none I.kIn True.intro e (fun z=>nomatch z) h
 |bl y=>cases(show u=Value.bool y from rx);exact PySem.W.kia_one PySem.W.kitx_bool I.kIn True.intro e (fun z=>nomatch z) h
 |int i=>obtain⟨t,q⟩:=(show ∃t,u=Value.int i t from rx);cases q;exact PySem.W.kia_one PySem.W.kitx_int I.kIn True.intro e (fun z=>nomatch z) h
 |str y=>obtain⟨t,q⟩:=(show ∃t,u=Value.str y t from rx);cases q;exact PySem.W.kia_one PySem.W.kitx_str I.kIn True.intro e (fun z=>nomatch z) h
 |flt y=>obtain⟨t,q⟩:=(show ∃t,u=Value.float y t from rx);cases q;exact PySem.W.kia_one PySem.W.kitx_float I.kIn True.intro e (fun z=>nomatch z) h
 |@lst a xs ea=>
  cases(show u=Value.ref a from rx)
  obtain⟨_,_,n,_,h1⟩:=(show ObjOk X.prog X.w H s.heap a (.lst xs) from I.hok a _ ea)
  exact PySem.W.kia_one PySem.W.kitx_list I.kIn ⟨_,h1,rfl⟩ e (fun z=>nomatch z) h
 |@frz a ob xs ea=>
  cases(show u=Value.ref a from rx)
  obtain⟨_,_,_,n,_,h1⟩:=(show ObjOk X.prog X.w H s.heap a (.frz ob (.lst xs)) from I.hok a _ ea)
  exact PySem.W.kia_one PySem.W.kitx_list I.kIn ⟨_,h1,rfl⟩ e (fun z=>nomatch z) h
 |@tup a xs ea=>
  cases(show u=Value.ref a from rx)
  obtain⟨_,_,_,p⟩:=(show ObjOk X.prog X.w H s.heap a (.tup xs) from I.hok a _ ea)
  obtain⟨o,h1,h2,_⟩:=p
  exact PySem.W.kia_one PySem.W.kitx_tuple I.kIn ⟨o,h1,h2⟩ e (fun z=>nomatch z) h
 |@dK a kvs ea=>
  cases(show u=Value.ref a from rx)
  obtain⟨_,_,vs,_,p⟩:=(show ObjOk X.prog X.w H s.heap a (.dK kvs) from I.hok a _ ea)
  obtain⟨o,es,ep,h1,h2,_⟩:=p
  exact PySem.W.kia_one PySem.W.kitx_dict I.kIn ⟨o,h1,h2.1⟩ e (fun z=>nomatch z) h
 |@dT a kvs ea=>
  cases(show u=Value.ref a from rx)
  obtain⟨_,_,xs,_,o,es,ep,h1,h2,_⟩:=(show ObjOk X.prog X.w H s.heap a (.dT kvs) from I.hok a _ ea)
  exact PySem.W.kia_one PySem.W.kitx_dict I.kIn ⟨o,h1,h2.1⟩ e (fun z=>nomatch z) h
 |@ins a C dx fs ea cl ha hn htk hm=>
  cases(show u=Value.ref a from rx)
  obtain⟨mA,O,_⟩:=zxq I.hok ea
  obtain⟨od,J,_⟩:=O.look
  exact PySem.W.kia_one (PySem.W.kitx_own (cl.get _) cl.hd ha hn htk hm) I.kIn J e (fun z=>nomatch z) h
end
structure Room(k:Nat)(A:Around):Prop where
 hd:A.handled=none
 dp:A.depth+3*k+5<recursionLimit
 un:A.units+16*k+200<cLine
theorem Room.mono{j k:Nat}{A:Around}(r:Room k A)(h:j≤k):Room j A:=⟨r.hd,by have:=r.dp;omega,by have:=r.un;omega⟩
theorem Room.deeper{k:Nat}{A:Around}(r:Room (k+1) A)(env:Env):Room k (A.deeper env):=
 ⟨r.hd,by have:=r.dp;show A.depth+1+3*k+5<_;omega,by have:=r.un;show A.units+3+16*k+200<_;omega⟩
theorem Room.depth{k:Nat}{A:Around}(r:Room k A):A.depth<recursionLimit:=by have:=r.dp;omega
theorem Room.units{k:Nat}{A:Around}(r:Room k A):A.units+64<cLine:=by have:=r.un;omega
def zz9:TA:=fun _ H Q=>Q [] H
def zvd(ta:TE)(tr:TA):TA:=fun σ H Q=>ta σ H fun x H1=>tr σ H1 fun xs H2=>Q (x::xs) H2
section
variable {X : Cx} {e : Expr} {es : List Expr} {te : TE} {t : TA} {pos : Pos}
theorem zab:PA X [] zz9:=fun _ _ _ _ H Q I h=>Calls.spliced_nil ⟨[],H,I,.nil,h⟩
theorem zaa(ha:PE X e te)(hr:PA X es t)(hs:starEach (e::es) X.env=(false,eval e X.env)::starEach es X.env:=by rfl):PA X (e::es) (zvd te t):=by
 intro pos pins s σ H Q I h
 rw[hs]
 show wpAny _ _ (spliced ((false,eval e X.env)::backTo pos (starEach es X.env))) _ _ s
 refine Calls.spliced_cons (thn (ha pins s σ H _ I h) fun u s1 ⟨x,H1,I1,r1,q1⟩=>?_)
 exact thn (hr pos pins s1 σ H1 _ I1 q1) fun us s2 ⟨xs,H2,I2,r2,q2⟩=>⟨x::xs,H2,I2,.cons r1 r2,q2⟩
def zA6(t:TA):TE:=fun σ H Q=>t σ H fun xs H1=>xs.length≤sizeLine∧∀p,H1 p=none→Q (.ref p) (upd H1 p (.tup xs))
def zA7(t:TA):TE:=fun σ H Q=>t σ H fun xs H1=>xs.length≤sizeLine∧∀p,H1 p=none→Q (.ref p) (upd H1 p (.lst xs))
theorem za6{x1}(h:PA X es t):PE X (.Tuple es x1 pos) (zA6 t):=by
 intro pins s σ H Q I hq
 refine wpAny_Tuple_spliced (thn (h pos pins s σ H _ I hq) fun us s1 ⟨xs,H1,I1,r,z,q⟩=>⟨by rw[←r.length];exact z,?_⟩)
 have hf:H1 s1.heap.objs.size=none:=I1.hok.fresh (Nat.le_refl _)
 refine⟨.ref s1.heap.objs.size,upd H1 s1.heap.objs.size (.tup xs),I1.laid (t':=s1.toks) (fun b u e=>Heap.get?_push_of_some _ e) (Nat.le_refl _) ?_,rfl,q _ hf⟩
 exact⟨z,us,r,⟨_,Heap.get?_push_size _ rfl,rfl,_,rfl⟩⟩
theorem zc3(h:PA X es t):PE X (.List es pos) (zA7 t):=by
 intro pins s σ H Q I hq
 refine wpAny_List_spliced (thn (h pos pins s σ H _ I hq) fun us s1 ⟨xs,H1,I1,r,z,q⟩=>⟨by rw[←r.length];exact z,?_⟩)
 have hf:H1 s1.heap.objs.size=none:=I1.hok.fresh (Nat.le_refl _)
 refine⟨.ref s1.heap.objs.size,upd H1 s1.heap.objs.size (.lst xs),I1.laid (t':=s1.toks) (fun b u e=>Heap.get?_push_of_some _ e) (Nat.le_refl _) ?_,rfl,q _ hf⟩
 exact⟨z,us,0,r,Heap.get?_push_size _ rfl⟩
end
abbrev Sp:=List V→Hp→VK→XK→Prop
abbrev CXT:=List Env→Hp→Shared→XK→Value→Shared→Prop
structure zvp(P:Program)(w:World)(K:PySem.W.Frag)(mg:Str→Option Value)(base:Heap)(A:Around)(outer:List Env)(s:Shared)(H:Hp):Prop where
 frames:A.frames=some outer
 mod:Mod K mg base
 bs:∀b o,base.get? b=some o→s.heap.get? b=some o∧H b=none
 bsz:base.objs.size≤s.heap.objs.size
 funs:s.heap.FunFrames base outer
 frf:∀b∈frs outer,H b=none
 hok:HOk P w H s.heap
 bare:AllBare s.gens
def CE(outer:List Env)(P:Program)(w:World)(H:Hp)(s:Shared)(Q:VK)(u:Value)(s':Shared):Prop:=
 ∃v H',s'.os=s.os∧AllBare s'.gens∧Un (frs outer) [] H H' s.heap s'.heap∧HOk P w H' s'.heap∧RelV v u∧Q v H'
def CR(CX:CXT)(outer:List Env)(P:Program)(w:World)(H:Hp)(s:Shared)(Q:VK)(E:XK)(r:Result)(s':Shared):Prop:=
 match r with
 |.ok (.ret u)=>CE outer P w H s Q u s'
 |.ok _=>False
 |.error e=>CX outer H s E e s'
structure FnOk(P:Program)(w:World)(K:PySem.W.Frag)(mg:Str→Option Value)(base:Heap)(CX:CXT)(k:Nat)(f:Addr)(fd:FuncData)(ps:List Str)(sp:Sp):Prop where
 len:∀vs H Q E,sp vs H Q E→vs.length=ps.length
 run:∀(A:Around)(outer:List Env)(s:Shared)(H:Hp)(args:Args)(us:List Value)(vs:List V)(Q:VK)(E:XK),Room k A→zvp P w K mg base A outer s H→BindsTo s fd args (ps.zip us)→Vals vs us→sp vs H Q E →
  codeAny (model P w) A (.call (.ref f) args) (CR CX outer P w H s Q E) s
theorem FnOk.imp{P:Program}{w:World}{K:PySem.W.Frag}{mg:Str→Option Value}{base:Heap}{CX:CXT}{k:Nat}{f:Addr}{fd:FuncData}{ps:List Str}{sp sp':Sp}(F:FnOk P w K mg base CX k f fd ps sp)
  (h:∀vs H Q E,sp' vs H Q E→sp vs H Q E):FnOk P w K mg base CX k f fd ps sp':=
 ⟨fun vs H Q E q=>F.len vs H Q E (h _ _ _ _ q),fun A outer s H args us vs Q E hr he hb hv hs=>F.run A outer s H args us vs Q E hr he hb hv (h _ _ _ _ hs)⟩
section
variable {X : Cx} {pins : List (Addr × Obj)} {σ : St} {H : Hp} {s s' : Shared}
theorem Inv.env0(I:Inv X pins σ H s):zvp X.prog X.w X.K X.mg X.base X.A X.stack s H:=
 ⟨I.ok.frames,I.ok.mod,I.bs,Nat.le_trans I.ok.bsz I.sz,I.stack,I.stkFree,I.hok,I.bare⟩
theorem Inv.after{Q:VK}{u:Value}(I:Inv X pins σ H s)(h:CE X.stack X.prog X.w H s Q u s'):EP X pins σ Q u s':=by
 obtain⟨v,H',os,ad,un,af,r,q⟩:=h
 obtain⟨hh,g,d,t,ae⟩:=s'
 obtain rfl:ae=s.os:=os
 exact⟨v,H',I.call (h':=hh) (g':=g) (d':=d) (t':=t) (ch:=[]) un af ad (fun b z=>absurd z (by simp)),r,q⟩
end
def zue(sp:Sp)(dvs:List V)(E:XK)(t:TA):TE:=fun σ H Q=>t σ H fun vs H1=>sp (vs++dvs) H1 Q E
def Binds(K:PySem.W.Frag)(fd:FuncData)(ps:List Str)(ds:List Value):Prop:=
 ∀(s:Shared)(us:List Value),K.In s.heap→(us++ds).length=ps.length→BindsTo s fd ⟨us,[]⟩ (ps.zip (us++ds))
theorem Binds.all{K:PySem.W.Frag}{fd:FuncData}{ps:List Str}(h:∀us:List Value,us.length=ps.length→bindArgs fd ⟨us,[]⟩=pure (ps.zip us)):Binds K fd ps []:=fun s us _ hl=>by
 rw[List.append_nil] at hl ⊢
 exact .of_eq (h us hl)
def zof(CX:CXT)(X:Cx)(E:XK):Prop:=∀(pins:List (Addr×Obj))(σ:St)(H:Hp)(s:Shared)(e:Value)(s':Shared),Inv X pins σ H s→CX X.stack H s E e s'→X.xe e s'
section
variable {X : Cx} {CX : CXT} {k : Nat} {f C : Addr} {fd : FuncData} {ps : List Str} {sp : Sp} {dvs : List V} {ds : List Value} {E : XK} {x m : Str} {p pos apos : Pos} {e o : Expr} {es : List Expr} {ta : TE} {t : TA}
theorem zwg{pins:List (Addr×Obj)}{σ:St}{H:Hp}{s:Shared}{Q:VK}{us:List Value}{vs:List V}(F:FnOk X.prog X.w X.K X.mg X.base CX k f fd ps sp)(hr:Room k X.A)(hb:Binds X.K fd ps ds)(hd:Vals dvs ds)(hx:zof CX X E)
  (I:Inv X pins σ H s) (r:Vals vs us) (h:sp (vs++dvs) H Q E):wpAny (model X.prog X.w) X.A (call (.ref f) us) (EP X pins σ Q) X.xe s:=by
 have r2:Vals (vs++dvs) (us++ds):=r.append hd
 have hl:(us++ds).length=ps.length:=by rw[←r2.length];exact F.len _ _ _ _ h
 refine wpAny_call (codeAny_mono (F.run X.A X.stack s H ⟨us,[]⟩ (us++ds) (vs++dvs) Q E hr I.env0 (hb s us I.kIn hl) r2 h) fun r s' hq=>?_)
 cases r with
 |error e=>exact hx pins σ H s e s' I hq
 |ok fl=>
  cases fl with
  |ret u=>exact I.after hq
  |next=>exact False.elim hq
  |brk=>exact False.elim hq
  |cont=>exact False.elim hq
theorem zfz(F:FnOk X.prog X.w X.K X.mg X.base CX k f fd ps sp)(hr:Room k X.A)(hg:Gl X x)(hm:X.mg x=some (.ref f))(hk:PySem.W.keepIn X.K (.ref f)=true)(hb:Binds X.K fd ps ds)(hd:Vals dvs ds)(hx:zof CX X E)
  (ha:PA X (e::es) t) (hdb:(x==("__debug__" : Str))=false:=by decide) (he:starEach (e::es) X.env=(false,eval e X.env)::starEach es X.env:=by rfl) (hpl:(backTo pos (starEach es X.env)).any (·.1)=false:=by rfl):
  PE X (.Call (.Name x p) (e::es) [] pos) (zue sp dvs E t):=by
 intro pins s σ H Q I h
 refine wpAny_Call_Name_kw (zkj I hg hm ?_ hdb)
 refine PySem.W.callWith_K (h₀:=X.base) I.ok.mod.kin hk (thn (ha pos pins s σ H _ I h) fun us s1 ⟨vs,H1,I1,r,q⟩=>⟨I1.kIn,?_⟩) he hpl
 exact zwg F hr hb hd hx I1 r q
end
section
variable {X : Cx} {CX : CXT} {k : Nat} {f C : Addr} {fd : FuncData} {ps ks : List Str} {sp : Sp} {E : XK} {x m : Str} {p pos apos kpos : Pos} {e o : Expr} {es : List Expr} {kws : List Keyword} {te ta : TE} {t tk : TA} {nm : Option Str}
variable {g : List Value → List Value → List Value} {gV : List V → List V → List V}
end
structure zap(N P:List Str)(sc:Scope):Prop where
 kind:sc.kind=.function
 co:sc.isCoroutine=false
 gen:sc.isGenerator=false
 nd:N.Nodup
 pre:N.take P.length=P
 par:∀x∈P,sc.names.lookup x=some .local∨sc.names.lookup x=some .cell
 nofree:∀y∈sc.names,y.2≠.free
theorem zm7{kindOf:Str→Option NameKind}{x:Str}:∀{binds:List (Str×Value)} {m:Str→Option Value},(∀v,(x,v)∉binds)→bindL kindOf binds m x=m x
 |[],_,_=>rfl
 |(n,v)::r,m,h=>by
  unfold bindL
  rw[zm7 fun w hw=>h w (List.mem_cons_of_mem _ hw)]
  split
  ·have:x≠n:=by rintro rfl;exact h v List.mem_cons_self
   simp[this]
  ·rfl
theorem zmx{kindOf:Str→Option NameKind}{x:Str}:∀{binds:List (Str×Value)} {m:Str→Option Value},(∀v,(x,v)∉binds)→bindC kindOf binds m x=m x
 |[],_,_=>rfl
 |(n,v)::r,m,h=>by
  unfold bindC
  rw[zmx fun w hw=>h w (List.mem_cons_of_mem _ hw)]
  split
  ·rfl
  ·have:x≠n:=by rintro rfl;exact h v List.mem_cons_self
   simp[this]
theorem zm5{kindOf:Str→Option NameKind}{x:Str}{v:Value}:∀{P:List Str} {vs:List Value} {i:Nat} {m:Str→Option Value},P.Nodup→P[i]?=some x→vs[i]?=some v→kindOf x=some .local →
  bindL kindOf (P.zip vs) m x=some v
 |[],_,_,_,_,h,_,_=>by simp at h
 |_::_,[],_,_,_,_,h,_=>by simp at h
 |p::P,w::vs,0,m,nd,h1,h2,hk=>by
  simp at h1 h2;subst h1;subst h2
  show bindL kindOf ((p,w)::P.zip vs) m p=_
  unfold bindL
  rw[zm7 fun v hv=>(List.nodup_cons.mp nd).1 (List.of_mem_zip hv).1,if_pos hk]
  simp
 |p::P,w::vs,i+1,m,nd,h1,h2,hk=>by
  show bindL kindOf ((p,w)::P.zip vs) m x=_
  unfold bindL
  exact zm5 (i:=i) (List.nodup_cons.mp nd).2 (by simpa using h1) (by simpa using h2) hk
theorem zna{kindOf:Str→Option NameKind}{x:Str}{v:Value}:∀{P:List Str} {vs:List Value} {i:Nat} {m:Str→Option Value},P.Nodup→P[i]?=some x→vs[i]?=some v→kindOf x≠some .local →
  bindC kindOf (P.zip vs) m x=some v
 |[],_,_,_,_,h,_,_=>by simp at h
 |_::_,[],_,_,_,_,h,_=>by simp at h
 |p::P,w::vs,0,m,nd,h1,h2,hk=>by
  simp at h1 h2;subst h1;subst h2
  show bindC kindOf ((p,w)::P.zip vs) m p=_
  unfold bindC
  rw[zmx fun v hv=>(List.nodup_cons.mp nd).1 (List.of_mem_zip hv).1,if_neg hk]
  simp
 |p::P,w::vs,i+1,m,nd,h1,h2,hk=>by
  show bindC kindOf ((p,w)::P.zip vs) m x=_
  unfold bindC
  exact zna (i:=i) (List.nodup_cons.mp nd).2 (by simpa using h1) (by simpa using h2) hk
def zhx(N:List Str)(vs:List V):St:=vs.map some++List.replicate (N.length-vs.length) none
def zci(CX:CXT)(P:Program)(w:World)(K:PySem.W.Frag)(mg:Str→Option Value)(base:Heap)(N:List Str)(qual:Str)(scope:Scope)(f:Addr)(cd:Value)(A:Around)(outer:List Env)(s:Shared)(H:Hp)(E:XK):Cx where
 prog:=P
 w:=w
 K:=K
 mg:=mg
 base:=base
 A:=A.deeper (envOfC qual scope s.heap.objs.size f cd)
 N:=N
 s₀:=s
 H₀:=H
 env:=envOfC qual scope s.heap.objs.size f cd
 outer:=outer
 stack:=envOfC qual scope s.heap.objs.size f cd::outer
 ex:=[]
 calm:=true
 fn:=fun _=>true
 pn:=[]
 xe:=fun e s'=>wpAny (model P w) (A.deeper (envOfC qual scope s.heap.objs.size f cd)) (leaving (envOfC qual scope s.heap.objs.size f cd) e) (fun _ s''=>CX outer H s E e s'') (fun e' s''=>CX outer H s E e' s'') s'
theorem zph{sc:Scope}{n:Nat}{x:Str}(h:sc.names.lookup x=some .cell):∃c,(cellsFrom n sc.names []).lookup x=some c:=by
 have q:=PySem.W.cellsFrom_some sc.names n [] (.inl h)
 exact Option.isSome_iff_exists.mp q
theorem zt0{CX:CXT}{P:Program}{w:World}{K:PySem.W.Frag}{mg:Str→Option Value}{base:Heap}{N ps:List Str}{qual:Str}{scope:Scope}{f:Addr}{cd:Value}{A:Around}{outer:List Env}{s s1:Shared}{H:Hp}{E:XK}{us:List Value}{vs:List V}
  (S:zap N ps scope) (hd:A.handled=none) (e0:zvp P w K mg base A outer s H) (hl:vs.length=ps.length) (r:Vals vs us)
  (x:InCallC s s.heap.objs.size (bindL (envOfC qual scope s.heap.objs.size f cd).kindOf (ps.zip us) fun _=>none) (cellsFrom (s.heap.objs.size+1) scope.names []) (bindC (envOfC qual scope s.heap.objs.size f cd).kindOf (ps.zip us) fun _=>none) s1):
  Inv (zci CX P w K mg base N qual scope f cd A outer s H E) [] (zhx N vs) H s1:=by
 have af:ps.length≤N.length:=by have:=congrArg List.length S.pre;rw[List.length_take] at this;omega
 obtain⟨h1,tk,rfl,hk⟩:=x.done
 have ad:∀b:Addr,b∉(zci CX P w K mg base N qual scope f cd A outer s H E).ex:=fun b z=>absurd (show b∈([]:List Addr) from z) (by simp)
 refine⟨⟨e0.mod,S.kind,rfl,rfl,Nat.le_refl _,fun y z c h1 h2=>?_,fun y hy=>?_,fun y c _ h=>?_,fun _=>hd,Around.frames_deeper e0.frames,.inr ⟨rfl,rfl⟩,fun b z=>absurd z (ad b),e0.bs,e0.bsz,fun b _ _=>ad b,fun b z=>absurd z (ad b),e0.funs,e0.frf⟩,
  rfl,e0.bare,Un.kept hk,⟨_,x.toInCall.ns,fun i y v h1 h2 h3=>?_⟩,fun y c h=>⟨_,x.cell y c h⟩,e0.hok.fresh (Nat.le_refl _),fun y c h=>?_,fun p hp=>absurd (show p∈([]:List (Addr×Obj)) from hp) (by simp),e0.hok.kept hk,?_⟩
 ·exact name_of_addr x.apart (PySem.mem_of_lookup h1) (PySem.mem_of_lookup h2)
 ·have hy:scope.names.lookup y=some .cell∨scope.names.lookup y=some .free:=hy
  rcases hy with hy|hy
  ·exact zph hy
  ·exact absurd rfl (S.nofree _ (PySem.mem_of_lookup hy))
 ·exact Nat.le_of_lt (x.above y c (PySem.mem_of_lookup h))
 ·have hi:i<vs.length:=by
   unfold zhx at h2
   by_cases hi:i<vs.length
   ·exact hi
   ·rw[List.getElem?_append_right (by simpa using hi)] at h2
    rw[List.getElem?_replicate] at h2
    split at h2<;>cases h2
  have ha:vs[i]?=some v:=by
   unfold zhx at h2
   rw[List.getElem?_append_left (by simpa using hi),List.getElem?_map] at h2
   cases e:vs[i]? with
   |none=>rw[e] at h2;cases h2
   |some a=>rw[e] at h2;cases h2;rfl
  obtain⟨u,hu,rv⟩:=r.get ha
  have hp:ps[i]?=some y:=by
   rw[←S.pre,List.getElem?_take_of_lt (by omega)];exact h1
  have ae:ps.Nodup:=by rw[←S.pre];exact S.nd.sublist (List.take_sublist _ _)
  refine⟨u,rv,?_⟩
  rcases S.par y (List.mem_of_getElem? hp) with k|k
  ·exact .inl ⟨k,zm5 ae hp hu k⟩
  ·obtain⟨c,e⟩:=zph (n:=s.heap.objs.size+1) k
   refine .inr ⟨.inl k,c,e,?_⟩
   have q:=x.cell y c e
   rw[zna ae hp hu (by show scope.names.lookup y≠_;rw[k];decide)] at q
   exact q
 ·exact e0.hok.fresh (Nat.le_of_lt (x.above y c (PySem.mem_of_lookup h)))
 ·unfold zhx
  show _=N.length
  rw[List.length_append,List.length_map,List.length_replicate]
  omega
theorem zwe{CX:CXT}{P:Program}{w:World}{K:PySem.W.Frag}{mg:Str→Option Value}{base:Heap}{k:Nat}{f:Addr}{name qual:Str}{params:Arguments}{body:List Stmt}{scope:Scope}{dV kV doc pm cdv ct oc:Value}{an od:Option Addr}
  {osl:Array (Option Value)} {N ps:List Str} {sp:Sp} (lk:K.lookup f=some ⟨oc,od,.func (PySem.W.fnOf name qual params body scope dV kV doc pm an cdv ct),osl⟩) (hcd:PySem.W.codeIn K cdv qual=true) (S:zap N ps scope)
  (len:∀vs H Q E,sp vs H Q E→vs.length=ps.length)
  (hbody:∀(A:Around)(outer:List Env)(s:Shared)(H:Hp)(vs:List V)(Q:VK)(E:XK),Room k (A.deeper (envOfC qual scope s.heap.objs.size f cdv))→sp vs H Q E →
   ∃t,PSs (zci CX P w K mg base N qual scope f cdv A outer s H E) body t∧t { nx:=fun _ H'=>Q .non H',rt:=Q } (zhx N vs) H):
  FnOk P w K mg base CX (k+1) f (PySem.W.fnOf name qual params body scope dV kV doc pm an cdv ct) ps sp:=by
 refine⟨len,fun A outer s H args us vs Q E hr e0 hb r ae=>?_⟩
 have hl:=len _ _ _ _ ae
 have KX:K.In s.heap:=e0.mod.kin.keeps fun b o e=>(e0.bs b o e).1
 have af:s.heap.NoLimit:=e0.mod.nolimit.keeps fun b o e=>(e0.bs b o e).1
 have ad:∀y∈ps.zip us,scope.names.lookup y.1=some .local∨(scope.names.lookup y.1=some .cell∧((cellsFrom (s.heap.objs.size+1) scope.names []).lookup y.1).isSome=true):=fun⟨n,v⟩ hy=>by
  rcases S.par n (List.of_mem_zip hy).1 with q|q
  ·exact .inl q
  ·exact .inr ⟨q,PySem.W.cellsFrom_some _ _ _ (.inl q)⟩
 refine codeAny_call_function hr.depth (KX _ _ lk) rfl S.co S.gen rfl (PySem.W.codeRec_of KX hcd) (hb _ _ _ _ ?_)
 refine wpAny_newFunctionEnv_cells S.kind ad fun env he s1 x=>?_
 subst he
 refine⟨af.keeps x.toInCall.keep,codeAny_func ?_⟩
 obtain⟨t,ht,hq⟩:=hbody A outer s H vs Q E (hr.deeper _) ae
 have I:Inv (zci CX P w K mg base N qual scope f cdv A outer s H E) [] (zhx N vs) H s1:=zt0 S hr.hd e0 hl r x
 refine wpAny_mono (ht [] s1 (zhx N vs) H _ I hq) (fun fl s' hs=>?_) fun e s' hs=>hs
 have fin:∀{σ':St} {H':Hp} {v:V} {u:Value},Inv (zci CX P w K mg base N qual scope f cdv A outer s H E) [] σ' H' s'→RelV v u→Q v H'→CE outer P w H s Q u s':=
  fun {σ' H' v u} J rv q=>⟨v,H',J.os,J.bare,J.base,J.hok,rv,q⟩
 cases fl with
 |ret u=>
  obtain⟨v,σ',H',J,rv,q⟩:=hs
  exact fin J rv q
 |next=>
  obtain⟨σ',H',J,q⟩:=hs
  exact fin (v:=V.non) (u:=Value.none) J rfl q
 |brk=>
  obtain⟨_,_,_,q⟩:=hs
  exact False.elim q
 |cont=>
  obtain⟨_,_,_,q⟩:=hs
  exact False.elim q
section
variable {X : Cx} {x : Str} {p pos : Pos} {e : Expr} {es : List Expr} {t : TA} {id T : String} {r : List V → Hp → VK → Prop}
def tCB(r:List V→Hp→VK→Prop)(t:TA):TE:=fun σ H Q=>t σ H fun vs H1=>r vs H1 Q
theorem zav(hc:zdf X (.builtin id) r)(hg:Gl X x)(hm:X.mg x=none)(hv:bootBuiltins x=some (.builtin id))(ha:PA X (e::es) t)(hn:x ≠ "__name__" := by decide)(hdb:(x==("__debug__" : Str))=false:=by decide)
  (he:starEach (e::es) X.env=(false,eval e X.env)::starEach es X.env:=by rfl) (hpl:(backTo pos (starEach es X.env)).any (·.1)=false:=by rfl):PE X (.Call (.Name x p) (e::es) [] pos) (tCB r t):=by
 intro pins s σ H Q I h
 refine wpAny_Call_Name_kw (zlo I hg hm hv ?_ hn hdb)
 exact PyProof.Rows.callWith_builtin1 (thn (ha pos pins s σ H _ I h) fun us s1 ⟨vs,H1,I1,r1,q1⟩=>hc pins s1 σ H1 vs us Q I1 r1 q1) he hpl
theorem zbn(hc:zdf X (.type T) r)(hg:Gl X x)(hm:X.mg x=none)(hv:bootBuiltins x=some (.type T))(ha:PA X (e::es) t)(hn:x ≠ "__name__" := by decide)(hdb:(x==("__debug__" : Str))=false:=by decide)
  (he:starEach (e::es) X.env=(false,eval e X.env)::starEach es X.env:=by rfl) (hpl:(backTo pos (starEach es X.env)).any (·.1)=false:=by rfl):PE X (.Call (.Name x p) (e::es) [] pos) (tCB r t):=by
 intro pins s σ H Q I h
 refine wpAny_Call_Name_kw (zlo I hg hm hv ?_ hn hdb)
 exact PyProof.Rows.callWith_type1 (thn (ha pos pins s σ H _ I h) fun us s1 ⟨vs,H1,I1,r1,q1⟩=>hc pins s1 σ H1 vs us Q I1 r1 q1) he hpl
end
end L2
namespace HT
open PySem PyProof.Rows
section
open PySem.SeqAt
open PySem.AutoSeq1 (wpAny_loadPart')
open PySem.MeetsSeq PySem.MeetsSeq2 PySem.MeetsSeq3
end
section
variable {prog : Program} {w : World} {A : Around} {E : Value → Shared → Prop} {s : Shared}
theorem cat_tup{t b:Addr}{vs ws:List Value}{Q:Value→Shared→Prop}(ht:IsTup s.heap t vs.toArray)(hb:IsTup s.heap b ws.toArray)(hv:vs≠[])
  (h1:ws=[]→Q (.ref t) s) (h2:ws≠[]→Q (.ref s.heap.objs.size) { s with heap:=s.heap.push { cls:=.type "tuple",data:=.seq (vs++ws).toArray } })
  (hsz:vs.length+ws.length≤sizeLine):wpAny (model prog w) A (binaryOp .Add (.ref t) (.ref b)) Q E s:=by
 obtain⟨⟨cls,dd,data,sl⟩,ho,hc,n,hd⟩:=id ht
 obtain⟨⟨ak,aj,ae,ah⟩,ad,af,n2,ai⟩:=id hb
 simp only at hc hd af ai
 subst hc hd af ai
 have e:vs.toArray++ws.toArray=(vs++ws).toArray:=by simp
 by_cases hw:ws=[]
 ·exact concat_meets ⟨_,ho,rfl⟩ ⟨_,ad,rfl⟩ noFill_tuple_add seq_tuple_add PySem.F.slot_tuple_add PySem.F.entry_tuple_add (PySem.F.args_tuple_add_2 _ _)
   (tuple_addW1 t b vs.toArray ws.toArray n n2 dd aj sl ah (by simpa using hv) (by simp[hw])) ⟨ho,ad,h1 hw⟩
 ·refine concat_meets ⟨_,ho,rfl⟩ ⟨_,ad,rfl⟩ noFill_tuple_add seq_tuple_add PySem.F.slot_tuple_add PySem.F.entry_tuple_add (PySem.F.args_tuple_add_2 _ _)
   (tuple_addW2 t b vs.toArray ws.toArray n n2 dd aj sl ah (by simpa using hv) (by simpa using hw) (by rw[List.size_toArray,List.size_toArray];exact hsz)) ⟨ho,ad,?_⟩
  rw[e]
  exact h2 hw
def sIx(n d:Nat):Option Int→Nat
 |none=>d
 |some v=>if v<0 then (v+(n:Int)).toNat else min v.toNat n
theorem sIx_none(n d:Nat):sIx n d none=d:=rfl
theorem sIx_nat(n d k:Nat):sIx n d (some (k:Int))=min k n:=by
 show(if (k:Int)<0 then ((k:Int)+(n:Int)).toNat else min (k:Int).toNat n)=min k n
 rw[if_neg (by omega),Int.toNat_natCast]
theorem zy8(n d:Nat)(hd:d≤n)(o:Option Int):sIx n d o≤n:=by
 cases o with
 |none=>exact hd
 |some v=>
  show(if v<0 then (v+(n:Int)).toNat else min v.toNat n)≤n
  by_cases hv:v<0
  ·rw[if_pos hv];omega
  ·rw[if_neg hv];exact Nat.min_le_right _ _
theorem zsv(v:Int)(n d:Nat):(if v<0 then max (v+(n:Int)) 0 else min v (n:Int))=((sIx n d (some v):Nat):Int):=by
 show(if v<0 then max (v+(n:Int)) 0 else min v (n:Int))=(((if v<0 then (v+(n:Int)).toNat else min v.toNat n):Nat):Int)
 by_cases hv:v<0
 ·simp only[if_pos hv];omega
 ·simp only[if_neg hv];omega
theorem zsa(lo hi:Option Int)(n:Nat):Builtin.Slice.sliceAdjust lo hi 1 (n:Int)=(((sIx n 0 lo:Nat):Int),((sIx n n hi:Nat):Int)):=by
 have h1:¬((1:Int)<0):=by omega
 unfold Builtin.Slice.sliceAdjust
 simp only[h1,if_false]
 refine Prod.ext ?_ ?_
 ·cases lo with
  |none=>rfl
  |some v=>exact zsv v n 0
 ·cases hi with
  |none=>rfl
  |some v=>exact zsv v n n
theorem zrq(i j:Nat):Builtin.Slice.slicePlaces (i:Int) (j:Int) 1=j-i:=by
 unfold Builtin.Slice.slicePlaces
 have h1:(1:Int)>0:=by omega
 simp only[h1,if_true,Int.ediv_one]
 split<;>omega
theorem zla{v:Value}{o:Option Int}{Q:Option Int→Shared→Prop}(p:IsPart v o)(h:Q o s):wpAny (model prog w) A (Builtin.Slice.slicePartIndex v) Q E s:=by
 cases p with
 |none=>exact slicePart_none h
 |int i t=>exact slicePart_int h
theorem zfg{sl:Addr}{vl vu:Value}{lo hi:Option Int}{n:Nat}{Q:Int×Int×Nat→Shared→Prop}(hs:s.heap.IsSliceOf sl vl vu .none)(pl:IsPart vl lo)(pu:IsPart vu hi)
  (h:Q (((sIx n 0 lo:Nat):Int),1,sIx n n hi-sIx n 0 lo) s):wpAny (model prog w) A (Builtin.Slice.sliceApplied (.ref sl) (pure (n:Int))) Q E s:=by
 obtain⟨os,ad,af,ae⟩:=id hs
 unfold Builtin.Slice.sliceApplied Builtin.Slice.sliceFields
 refine wpAny_bind (wpAny_bind (wpAny_field ad ae (x:=vl) rfl (wpAny_bind (wpAny_field ad ae (x:=vu) rfl (wpAny_bind (wpAny_field ad ae (x:=.none) rfl (wpAny_pure ?_)))))))
 refine wpAny_bind (slicePart_none ?_)
 show wpAny _ _ (if ((1:Int)==0)=true then _ else _) _ _ s
 rw[if_neg (by decide)]
 refine wpAny_bind (zla pl (wpAny_bind (zla pu (wpAny_bind (wpAny_pure ?_)))))
 show wpAny _ _ (match Builtin.Slice.sliceAdjust lo hi 1 (n:Int) with|(lo,hi)=>pure (lo,(1:Int),Builtin.Slice.slicePlaces lo hi 1)) _ _ s
 rw[zsa lo hi n]
 show wpAny _ _ (pure (((sIx n 0 lo:Nat):Int),(1:Int),Builtin.Slice.slicePlaces ((sIx n 0 lo:Nat):Int) ((sIx n n hi:Nat):Int) 1)) _ _ s
 rw[zrq]
 exact wpAny_pure h
theorem zuy(xs:Array Value)(i k:Nat):((List.range k).filterMap fun(m:Nat)=>xs[((i:Int)+(m:Int)*1).toNat]?).toArray=((xs.toList.drop i).take k).toArray:=by
 have e:(fun(m:Nat)=>xs[((i:Int)+(m:Int)*1).toNat]?)=fun m=>xs[i+m]?:=by
  funext m
  have:((i:Int)+(m:Int)*1).toNat=i+m:=by omega
  rw[this]
 rw[e]
 have:=pick_run xs i k
 rw[List.filterMap_map] at this
 have e2:((fun x=>xs[x]?)∘fun x=>i+x)=fun m=>xs[i+m]?:=rfl
 rw[e2] at this
 rw[this]
theorem getItem_tuple_cut{t sl:Addr}{items:Array Value}{vl vu:Value}{lo hi:Option Int}{Q:Value→Shared→Prop}(ht:IsTup s.heap t items)(hs:s.heap.IsSliceOf sl vl vu .none)(pl:IsPart vl lo)(pu:IsPart vu hi)
  (hw:¬(sIx items.size 0 lo=0∧sIx items.size items.size hi=items.size))
  (h:Q (.ref s.heap.objs.size) { s with heap:=s.heap.push { cls:=.type "tuple",data:=.seq ((items.toList.drop (sIx items.size 0 lo)).take (sIx items.size items.size hi-sIx items.size 0 lo)).toArray } })
  (hsz:items.size≤sizeLine):wpAny (model prog w) A (getItem (.ref t) (.ref sl)) Q E s:=by
 have ad:sizeOk (.seq ((items.toList.drop (sIx items.size 0 lo)).take (sIx items.size items.size hi-sIx items.size 0 lo)).toArray):=by
  show((items.toList.drop (sIx items.size 0 lo)).take (sIx items.size items.size hi-sIx items.size 0 lo)).toArray.size≤sizeLine
  rw[List.size_toArray,List.length_take,List.length_drop,Array.length_toList]
  omega
 have hj:sIx items.size items.size hi≤items.size:=zy8 _ _ (Nat.le_refl _) hi
 obtain⟨os,af,ah,aj⟩:=id hs
 have ai:s.TypeIs (.ref sl) "slice" := ⟨os,af,ah⟩
 unfold getItem
 try with_reducible refine wpAny_holding ?_
 first|refine wpAny_bind (wpAny_pure ?_)|skip
 refine wpAny_bind (wpAny_sequenceKey ht.typeIs (by decide) ?_)
 refine wpAny_bind (wpAny_callSpecial?_slot (name:=Str.ofString "__getitem__") ht.typeIs PyProof.Rows.slot_tuple_getitem
  (wpAny_call_entry PyProof.Rows.slot_tuple_getitem ht.typeIs entry_tuple_getitem ?_ (args_tuple_getitem _ _)))
 show wpAny _ _ (Builtin.Tuple.tupleItemsOf (.ref t)>>=_) _ _ s
 refine wpAny_bind (tupleItemsOf_ ht ?_)
 refine wpAny_bind (wpAny_typeOf ai ?_)
 rw[if_pos (by decide)]
 refine wpAny_bind (zfg hs pl pu ?_)
 have ae:¬((((sIx items.size 0 lo:Nat):Int)==0&&(1:Int)==1&&(sIx items.size items.size hi-sIx items.size 0 lo)==items.size)=true):=by
  intro q
  rw[Bool.and_eq_true,Bool.and_eq_true] at q
  have q1:((sIx items.size 0 lo:Nat):Int)=0:=eq_of_beq q.1.1
  have q2:sIx items.size items.size hi-sIx items.size 0 lo=items.size:=eq_of_beq q.2
  exact hw ⟨by omega,by omega⟩
 show wpAny _ _ (if (((sIx items.size 0 lo:Nat):Int)==0&&(1:Int)==1&&(sIx items.size items.size hi-sIx items.size 0 lo)==items.size)=true then _ else _) _ _ s
 rw[if_neg ae,zuy]
 first
  |exact wpAny_bind (m:=Builtin.Tuple.tupleExact _) (wpAny_newObj_type (wpAny_pure ⟨_,rfl,wpAny_pure h⟩) ad)
  |exact wpAny_bind (m:=Builtin.Tuple.tupleExact _) (wpAny_newObj_type (wpAny_bind (wpAny_pure (wpAny_pure ⟨_,rfl,wpAny_pure h⟩))) ad)
  |exact wpAny_bind (wpAny_bind (m:=Builtin.Tuple.tupleExact _) (wpAny_newObj_type (wpAny_pure (wpAny_pure ⟨_,rfl,wpAny_pure h⟩)) ad))
  |exact wpAny_bind (wpAny_bind (m:=Builtin.Tuple.tupleExact _) (wpAny_newObj_type (wpAny_pure ⟨_,rfl,wpAny_pure h⟩) ad))
end
end HT
namespace L2
open PySem PySem.Spec PyProof.Rows
abbrev TO:=St→Hp→(Option Int→Hp→Prop)→Prop
def PO(X:Cx)(e:Option Expr)(t:TO):Prop:=
 ∀(pins:List (Addr×Obj))(s:Shared)(σ:St)(H:Hp)(Q:Option Int→Hp→Prop),Inv X pins σ H s→t σ H Q →
  wpAny (model X.prog X.w) X.A (evalPart e X.env) (fun u s'=>∃o H',Inv X pins σ H' s'∧IsPart u o∧Q o H') X.xe s
def zx8:TO:=fun _ H Q=>Q none H
def zz5(t:TE):TO:=fun σ H Q=>t σ H fun x H1=>∃i,x=.int i∧Q (some i) H1
theorem zgb{ns:List Int}:∀{us:List Value},Vals (ns.map V.int) us→IntsAre us ns:=by
 induction ns with
 |nil=>intro us r;rw[List.map_nil] at r;cases r;exact .nil
 |cons n ns ih=>
  intro us r
  rw[List.map_cons] at r
  cases r with
  |cons r1 r2=>
   obtain⟨t,e⟩:=r1
   subst e
   exact .cons n t (ih r2)
section
variable {X : Cx} {e : Expr} {te : TE} {lo hi : Option Expr} {tl th : TO} {pos p2 : Pos}
theorem znl:PO X none zx8:=by
 intro pins s σ H Q I h
 rw[evalPart_none]
 exact wpAny_pure ⟨none,H,I,.none,h⟩
theorem zov(h:PE X e te):PO X (some e) (zz5 te):=by
 intro pins s σ H Q I hw
 rw[evalPart_some]
 refine thn (h pins s σ H _ I hw) fun u s1 ⟨x,H1,I1,r1,q1⟩=>?_
 obtain⟨i,rfl,q⟩:=q1
 obtain⟨t,rfl⟩:=r1
 exact⟨some i,H1,I1,.int i t,q⟩
def SlR(X:Cx)(r:V→Option Int→Option Int→Hp→VK→Prop):Prop:=
 ∀(pins:List (Addr×Obj))(s:Shared)(σ:St)(H:Hp)(x:V)(v vl vu:Value)(lo hi:Option Int)(sl:Addr)(Q:VK),Inv X pins σ H s→RelV x v→s.heap.IsSliceOf sl vl vu .none→IsPart vl lo→IsPart vu hi→r x lo hi H Q →
  ∃T id,typeLookup (.type T) "__getitem__" = pure (some (.builtin id))∧s.TypeIs v T∧wpAny (model X.prog X.w) X.A (getItem v (.ref sl)) (EP X pins σ Q) X.xe s
def tSl(r:V→Option Int→Option Int→Hp→VK→Prop)(te:TE)(tl th:TO):TE:=fun σ H Q=>te σ H fun x H1=>tl σ H1 fun l H2=>th σ H2 fun u H3=>r x l u H3 Q
theorem zkw{r:V→Option Int→Option Int→Hp→VK→Prop}(hr:SlR X r)(he:PE X e te)(hl:PO X lo tl)(hu:PO X hi th):PE X (.Subscript e (.Slice lo hi none p2) pos) (tSl r te tl th):=by
 intro pins s σ H Q I h
 refine Subscript_ (thn (he pins s σ H _ I h) fun v s1 ⟨x,H1,I1,r1,q1⟩=>?_)
 refine wpAny_Slice (thn (hl pins s1 σ H1 _ I1 q1) fun vl s2 ⟨l,H2,I2,pl,q2⟩=>thn (hu pins s2 σ H2 _ I2 q2) fun vu s3 ⟨u,H3,I3,pu,q3⟩=>?_)
 rw[evalPart_none]
 refine wpAny_pure ?_
 have I4:Inv X pins σ H3 { s3 with heap:=s3.heap.push { cls:=.type "slice",data:=.fields #[vl,vu,.none] } }:=I3.kept (t':=s3.toks) fun b ob q=>Heap.get?_push_of_some _ q
 obtain⟨T,id,hT,ht,hg⟩:=hr pins { s3 with heap:=s3.heap.push { cls:=.type "slice",data:=.fields #[vl,vu,.none] } } σ H3 x v vl vu l u s3.heap.objs.size Q I4 r1 (Heap.IsSliceOf.new ..) pl pu q3
 show wpAny (model X.prog X.w) X.A (subscriptTail e (.Slice lo hi none p2) v (.ref s3.heap.objs.size)) (EP X pins σ Q) X.xe { s3 with heap:=s3.heap.push { cls:=.type "slice",data:=.fields #[vl,vu,.none] } }
 exact tail_any (ops:=[.ref s3.heap.objs.size,v]) ht hT hg (by with_unfolding_all rfl)
def zkd(xs:List V)(lo hi:Option Int):List V:=(xs.drop (HT.sIx xs.length 0 lo)).take (HT.sIx xs.length xs.length hi-HT.sIx xs.length 0 lo)
theorem zo5(xs:List V)(lo hi:Option Int):(zkd xs lo hi).length≤xs.length:=by
 unfold zkd
 rw[List.length_take,List.length_drop]
 omega
def zAz(K:PySem.W.Frag):V→Option Int→Option Int→Hp→VK→Prop:=fun x lo hi H Q=>∃a xs,x=.ref a∧SqT K H a xs ∧
 ¬(HT.sIx xs.length 0 lo=0∧HT.sIx xs.length xs.length hi=xs.length)∧∀p,H p=none→Q (.ref p) (upd H p (.tup (zkd xs lo hi)))
theorem zy1:SlR X (zAz X.K):=by
 intro pins s σ H x v vl vu lo hi sl Q I rx hs pl pu h
 obtain⟨a,xs,rfl,hx,hw,q⟩:=h
 cases rx
 obtain⟨ae,r,ht,hz⟩:=I.tuple hx
 have ad:ae.toArray.size=xs.length:=by rw[List.size_toArray];exact r.length.symm
 refine⟨"tuple",_,PyProof.Rows.slot_tuple_getitem.lookup,ht.typeIs,?_⟩
 refine HT.getItem_tuple_cut ht hs pl pu (by rw[ad];exact hw) ?_ (by rw[ad];exact hz)
 rw[ad]
 refine⟨.ref s.heap.objs.size,_,I.laid (t':=s.toks) (o:=.tup (zkd xs lo hi)) (fun b ob q=>Heap.get?_push_of_some _ q) (Nat.le_refl _) ?_,rfl,q _ (I.hok.fresh (Nat.le_refl _))⟩
 exact⟨Nat.le_trans (zo5 xs lo hi) hz,_,(r.drop (HT.sIx xs.length 0 lo)).take (HT.sIx xs.length xs.length hi-HT.sIx xs.length 0 lo),IsTup.new _ _⟩
def zzx(K:PySem.W.Frag):R2:=fun x y H Q=>∃a b xs ys,x=.ref a∧y=.ref b∧SqT K H a xs∧SqT K H b ys∧xs≠[]∧xs.length+ys.length≤sizeLine ∧
 (ys=[]→Q (.ref a) H)∧(ys≠[]→∀p,H p=none→Q (.ref p) (upd H p (.tup (xs++ys))))
theorem Vals.nil_iff{xs:List V}{us:List Value}(r:Vals xs us):us=[]↔xs=[]:=by
 cases r with
 |nil=>simp
 |cons _ _=>simp
theorem zxf:OpR X (binaryOp .Add) (zzx X.K):=by
 intro pins s σ H x y v u Q I rx ry h
 obtain⟨a,b,xs,ys,rfl,rfl,ha,hb,hx,hz,q1,q2⟩:=h
 cases rx
 cases ry
 obtain⟨ae,r1,p1,_⟩:=I.tuple ha
 obtain⟨ad,r2,p2,_⟩:=I.tuple hb
 refine HT.cat_tup p1 p2 (fun z=>hx (r1.nil_iff.mp z)) (fun z=>⟨.ref a,H,I,rfl,q1 (r2.nil_iff.mp z)⟩) (fun z=>?_) (by rw[←r1.length,←r2.length];exact hz)
 refine⟨.ref s.heap.objs.size,_,I.laid (t':=s.toks) (o:=.tup (xs++ys)) (fun b ob q=>Heap.get?_push_of_some _ q) (Nat.le_refl _) ?_,rfl,q2 (fun w=>z (r2.nil_iff.mpr w)) _ (I.hok.fresh (Nat.le_refl _))⟩
 exact⟨by rw[List.length_append];exact hz,_,r1.append r2,IsTup.new _ _⟩
end
def ixN(n:Nat)(i:Int):Option Nat:=if 0≤i then (if i<n then some i.toNat else none) else if -(n:Int)≤i then some (i+n).toNat else none
def atI{α:Type}(xs:List α)(i:Int):Option α:=(ixN xs.length i).bind fun j=>xs[j]?
theorem zsk{n:Nat}{i:Int}{j:Nat}(h:ixN n i=some j):seqIndex? i n=some j∧j<n∧-(n:Int)≤i∧i<n:=by
 unfold ixN at h
 by_cases h0:0≤i
 ·rw[if_pos h0] at h
  by_cases h1:i<n
  ·rw[if_pos h1] at h
   have e:i.toNat=j:=Option.some.inj h
   exact⟨by rw[seqIndex_of h0 h1,e],by omega,by omega,h1⟩
  ·rw[if_neg h1] at h;cases h
 ·rw[if_neg h0] at h
  by_cases h1 : -(n:Int)≤i
  ·rw[if_pos h1] at h
   have e:(i+n).toNat=j:=Option.some.inj h
   exact⟨by rw[seqIndex_neg (by omega) h1,e],by omega,h1,by omega⟩
  ·rw[if_neg h1] at h;cases h
theorem zsq{α:Type}{xs:List α}{i:Int}{v:α}(h:atI xs i=some v):∃j,seqIndex? i xs.length=some j∧xs[j]?=some v∧j<xs.length∧-(xs.length:Int)≤i∧i<xs.length:=by
 unfold atI at h
 cases e:ixN xs.length i with
 |none=>rw[e] at h;cases h
 |some j=>
  rw[e] at h
  obtain⟨h1,h2,h3,h4⟩:=zsk e
  exact⟨j,h1,h,h2,h3,h4⟩
theorem zcx{α:Type}{xs:List α}{j:Nat}{v:α}(h:xs[j]?=some v):atI xs (j:Int)=some v:=by
 have hj:j<xs.length:=(List.getElem?_eq_some_iff.mp h).1
 have e:ixN xs.length (j:Int)=some j:=by
  unfold ixN
  rw[if_pos (by omega),if_pos (by omega)];simp
 unfold atI;rw[e];exact h
def zxo(b:Expr):Prop:=∀o i,subscripted b false o i=operate [o,i] (getItem o i)
def IxR(X:Cx)(r:R2):Prop:=
 ∀(value slice:Expr)(pins:List (Addr×Obj))(s:Shared)(σ:St)(H:Hp)(x y:V)(v u:Value)(Q:VK),Inv X pins σ H s→RelV x v→RelV y u→r x y H Q →
  subscripted slice false v u=operate [v,u] (getItem v u)→wpAny (model X.prog X.w) X.A (subscriptTail value slice v u) (EP X pins σ Q) X.xe s
def MtR(X:Cx)(id:String)(r:V→List V→Hp→VK→Prop):Prop:=
 ∀(pins:List (Addr×Obj))(s:Shared)(σ:St)(H:Hp)(x:V)(xs:List V)(v:Value)(us:List Value)(Q:VK),Inv X pins σ H s→RelV x v→Vals xs us→r x xs H Q →
  wpAny (model X.prog X.w) X.A (call (.builtin id) (v::us)) (EP X pins σ Q) X.xe s
section
variable {X : Cx} {a b : Expr} {ta tb : TE} {pos : Pos}
theorem zal{r:R2}(hr:IxR X r)(ha:PE X a ta)(hb:PE X b tb)(hs:zxo b):PE X (.Subscript a b pos) (tOp r ta tb):=by
 intro pins s σ H Q I h
 exact Subscript_ (zzg ha hb I h fun v u s2 x y H2 I2 rx ry q=>hr a b pins s2 σ H2 x y v u Q I2 rx ry q (hs _ _))
def zz7(K:PySem.W.Frag):R2:=fun x y H Q=>∃p xs i v,x=.ref p∧y=.int i∧SqL K H p xs∧atI xs i=some v∧Q v H
def zz1(K:PySem.W.Frag):R2:=fun x y H Q=>∃p xs i v,x=.ref p∧y=.int i∧SqT K H p xs∧atI xs i=some v∧Q v H
theorem zx1:IxR X (zz7 X.K):=by
 intro value ad pins s σ H x y v u Q I rx ry h hs
 obtain⟨p,xs,i,z,rfl,rfl,hq,he,q⟩:=h
 cases rx
 obtain⟨t,rfl⟩:=ry
 obtain⟨af,r,pl,hz⟩:=I.list hq
 obtain⟨j,h1,h2,h3,h4,h5⟩:=zsq he
 obtain⟨w,ew,ae⟩:=r.get h2
 have hl:=r.length
 have hn:=zjc
 have fin:EP X pins σ Q w s:=⟨z,H,I,ae,q⟩
 by_cases h0:0≤i
 ·have hj:i.toNat=j:=by
   rw[seqIndex_of h0 h5] at h1
   exact Option.some.inj h1
  exact item_listR pl.isList h0 (by omega) (by rw[hj];simpa using ew) fin hs
 ·have hj:(i+(af.toArray.size:Int)).toNat=j:=by
   rw[seqIndex_neg (by omega) h4] at h1
   rw[List.size_toArray,←hl]
   exact Option.some.inj h1
  exact subscriptTail_builtinR (x:=w) pl.isList.typeIs slot_list_getitem.lookup
   (wpAny_getItem_list_neg (Q:=fun r s'=>r=w∧EP X pins σ Q r s') pl.isList (by omega) (by rw[List.size_toArray]<;>omega) (by omega) (by rw[hj];simpa using ew) ⟨rfl,fin⟩) hs
theorem zob:IxR X (zz1 X.K):=by
 intro value ad pins s σ H x y v u Q I rx ry h hs
 obtain⟨p,xs,i,z,rfl,rfl,hq,he,q⟩:=h
 cases rx
 obtain⟨t,rfl⟩:=ry
 obtain⟨af,r,pl,hz⟩:=I.tuple hq
 obtain⟨j,h1,h2,h3,h4,h5⟩:=zsq he
 obtain⟨w,ew,ae⟩:=r.get h2
 have hl:=r.length
 have hn:=zjc
 have fin:EP X pins σ Q w s:=⟨z,H,I,ae,q⟩
 exact subscriptTail_builtinR (x:=w) pl.typeIs slot_tuple_getitem.lookup
  (getItem_tuple (j:=j) (Q:=fun r s'=>r=w∧EP X pins σ Q r s') pl (by omega) (by omega) (by rw[List.size_toArray,←hl];exact h1) (by simpa using ew) ⟨rfl,fin⟩) hs
theorem zq9(its:List Value)(n j:Nat)(u:Value):Obj.mapSeq (·.setIfInBounds j u) { cls:=.type "list",data:=.seq its.toArray n }={ cls:=.type "list",data:=.seq (its.set j u).toArray n }:=by
 simp[Obj.mapSeq]
theorem Inv.lst{pins:List (Addr×Obj)}{σ:St}{H:Hp}{s:Shared}{p:Addr}{xs:List V}(I:Inv X pins σ H s)(h:H p=some (.lst xs)):
  ∃(its:List Value)(n:Nat),Vals xs its∧s.heap.get? p=some { cls:=.type "list",data:=.seq its.toArray n }∧xs.length≤sizeLine:=by
 obtain⟨z,its,n,r,e⟩:=I.hok p _ h
 exact⟨its,n,r,e,z⟩
theorem Inv.lstUpd{pins:List (Addr×Obj)}{σ:St}{H:Hp}{s:Shared}{p:Addr}{xs ys:List V}{its its':List Value}{n n':Nat}{f:Obj→Obj}(I:Inv X pins σ H s)(h:H p=some (.lst xs))
  (ho:s.heap.get? p=some { cls:=.type "list",data:=.seq its.toArray n }) (hf:f { cls:=.type "list",data:=.seq its.toArray n }={ cls:=.type "list",data:=.seq its'.toArray n' }) (r:Vals ys its') (hz:ys.length≤sizeLine) (t:Nat):
  Inv X pins σ (upd H p (.lst ys)) { s with heap:=s.heap.update p f,toks:=t }:=by
 have e:(s.heap.update p f).get? p=some { cls:=.type "list",data:=.seq its'.toArray n' }:=by
  rw[Heap.get?_update_self f ho (by rw[hf]<;>rfl),hf]
 refine I.write (x:=p) (e:=p) (by rw[h];trivial) (.inl rfl) (fun b u hb q=>(Heap.get?_update_other _ _ (Ne.symm hb)).trans q) ⟨_,e⟩ ?_
 exact⟨hz,its',n',r,e⟩
def zz3:V→V→V→Hp→(Hp→Prop)→Prop:=fun o i v H Q=>∃p xs k j,o=.ref p∧i=.int k∧H p=some (.lst xs)∧ixN xs.length k=some j∧Q (upd H p (.lst (xs.set j v)))
theorem zvw:zAr X zz3:=by
 intro pins s σ H o i v ov iv u Q I ro ri rv h
 obtain⟨p,xs,k,j,rfl,rfl,hp,hj,q⟩:=h
 cases ro
 obtain⟨t,rfl⟩:=ri
 obtain⟨ad,n,r,ho,hz⟩:=I.lst hp
 obtain⟨h1,h2,h3,h4⟩:=zsk hj
 have hl:=r.length
 have hn:=zjc
 have I':Inv X pins σ (upd H p (.lst (xs.set j v))) { s with heap:=s.heap.update p (Obj.mapSeq (·.setIfInBounds j u)) }:=
  I.lstUpd hp ho (zq9 ad n j u) (r.set rv j) (by rw[List.length_set];exact hz) s.toks
 by_cases h0:0≤k
 ·have hk:k.toNat=j:=by
   rw[seqIndex_of h0 h4] at h1
   exact Option.some.inj h1
  exact PySem.W.ki_setAt ho h0 (by omega) (by rw[List.size_toArray,←hl];exact h4) (by rw[hk];exact⟨_,I',q⟩)
 ·have hk:(k+(ad.toArray.size:Int)).toNat=j:=by
   rw[seqIndex_neg (by omega) h3] at h1
   rw[List.size_toArray,←hl]
   exact Option.some.inj h1
  exact PySem.W.ki_setBack ho (by omega) (by rw[List.size_toArray,←hl];exact h3) (by omega) (by rw[hk];exact⟨_,I',q⟩)
def zgq:V→Bool
 |.non=>true
 |.bl _=>true
 |.int _=>true
 |.str _=>true
 |_=>false
def eqV:V→V→Bool
 |.non,.non=>true
 |.bl a,.bl b=>a==b
 |.bl a,.int b=>(if a then 1 else 0)==b
 |.int a,.bl b=>a==(if b then 1 else 0)
 |.int a,.int b=>a==b
 |.str a,.str b=>a==b
 |_,_=>false
theorem zyv{A:Around}{s:Shared}{y x:V}{u v:Value}(ry:RelV y u)(rx:RelV x v)(fy:zgq y=true)(fx:zgq x=true):SeqAt.EqAt A s u v (eqV y x):=by
 cases y with
 |non=>
  cases ry
  cases x with
  |non=>cases rx;exact SeqAt.EqAt.same _
  |bl b=>cases rx;exact SeqAt.EqAt.none_bool b
  |int b=>obtain⟨t,rfl⟩:=rx;exact SeqAt.EqAt.none_int b t
  |str b=>obtain⟨t,rfl⟩:=rx;exact SeqAt.EqAt.none_str b t
  |_=>exact absurd (show false=true from fx) Bool.false_ne_true
 |bl a=>
  cases ry
  cases x with
  |non=>cases rx;exact SeqAt.EqAt.bool_none a
  |bl b=>cases rx;exact SeqAt.EqAt.bool_bool a b
  |int b=>obtain⟨t,rfl⟩:=rx;exact SeqAt.EqAt.bool_int a b t
  |str b=>obtain⟨t,rfl⟩:=rx;exact SeqAt.EqAt.bool_str a b t
  |_=>exact absurd (show false=true from fx) Bool.false_ne_true
 |int a=>
  obtain⟨t',rfl⟩:=ry
  cases x with
  |non=>cases rx;exact SeqAt.EqAt.int_none a t'
  |bl b=>cases rx;exact SeqAt.EqAt.int_bool a t' b
  |int b=>obtain⟨t,rfl⟩:=rx;exact SeqAt.EqAt.int_int a t' b t
  |str b=>obtain⟨t,rfl⟩:=rx;exact SeqAt.EqAt.int_str a t' b t
  |_=>exact absurd (show false=true from fx) Bool.false_ne_true
 |str a=>
  obtain⟨t',rfl⟩:=ry
  cases x with
  |non=>cases rx;exact SeqAt.EqAt.str_none a t'
  |bl b=>cases rx;exact SeqAt.EqAt.str_bool a t' b
  |int b=>obtain⟨t,rfl⟩:=rx;exact SeqAt.EqAt.str_int a t' b t
  |str b=>obtain⟨t,rfl⟩:=rx;exact SeqAt.EqAt.str_str a t' b t
  |_=>exact absurd (show false=true from fx) Bool.false_ne_true
 |_=>exact absurd (show false=true from fy) Bool.false_ne_true
def eqU(x:V)(u:Value):Bool:=match u with
 |.none=>eqV .non x
 |.bool b=>eqV (.bl b) x
 |.int i _=>eqV (.int i) x
 |.str z _=>eqV (.str z) x
 |_=>false
theorem zrv{x y:V}{u:Value}(r:RelV y u)(f:zgq y=true):eqU x u=eqV y x:=by
 cases y with
 |non=>cases r;rfl
 |bl b=>cases r;rfl
 |int i=>obtain⟨t,rfl⟩:=r;rfl
 |str z=>obtain⟨t,rfl⟩:=r;rfl
 |_=>exact absurd (show false=true from f) Bool.false_ne_true
theorem zi6{x:V}:∀{xs:List V} {us:List Value},Vals xs us→xs.all zgq=true→us.any (eqU x)=xs.any fun y=>eqV y x
 |_,_,.nil,_=>rfl
 |y::xs,u::us,.cons r t,f=>by
  rw[List.all_cons,Bool.and_eq_true] at f
  rw[List.any_cons,List.any_cons,zrv r f.1,zi6 t f.2]
theorem zfj{A:Around}{s:Shared}{x:V}{v:Value}(rx:RelV x v)(fx:zgq x=true):∀{xs:List V} {us:List Value},Vals xs us→xs.all zgq=true→∀u∈us,SeqAt.EqAt A s u v (eqU x u)
 |_,_,.nil,_=>fun u hu=>by cases hu
 |y::xs,u::us,.cons r t,f=>fun u' hu=>by
  rw[List.all_cons,Bool.and_eq_true] at f
  rcases List.mem_cons.mp hu with rfl|hu
  ·rw[zrv r f.1];exact zyv r rx f.1 fx
  ·exact zfj rx fx t f.2 u' hu
def inV(x:V)(xs:List V):Bool:=xs.any fun y=>eqV y x
def rIn(K:PySem.W.Frag)(neg:Bool):R2:=fun x y H Q=>∃p xs,y=.ref p∧(SqL K H p xs∨SqT K H p xs)∧zgq x=true∧xs.all zgq=true∧Q (.bl (if neg then !inV x xs else inV x xs)) H
theorem zs9:OpR X (compareOp .In) (rIn X.K false):=by
 intro pins s σ H x y v u Q I rx ry h
 obtain⟨p,xs,rfl,hq,fx,fs,q⟩:=h
 cases ry
 rcases hq with hq|hq
 ·obtain⟨ad,r,pl,hz⟩:=I.list hq
  refine SeqAt.in_listAt (eqU x) pl.isList (fun w hw=>zfj rx fx r fs w (by simpa using hw)) ⟨.bl _,H,I,rfl,?_⟩
  rw[show ad.toArray.any (eqU x)=ad.any (eqU x) by simp,zi6 r fs]
  exact q
 ·obtain⟨ad,r,pl,hz⟩:=I.tuple hq
  refine SeqAt.in_tupleAt (eqU x) pl (fun w hw=>zfj rx fx r fs w (by simpa using hw)) ⟨.bl _,H,I,rfl,?_⟩
  rw[show ad.toArray.any (eqU x)=ad.any (eqU x) by simp,zi6 r fs]
  exact q
theorem zor:OpR X (compareOp .NotIn) (rIn X.K true):=by
 intro pins s σ H x y v u Q I rx ry h
 obtain⟨p,xs,rfl,hq,fx,fs,q⟩:=h
 cases ry
 rcases hq with hq|hq
 ·obtain⟨ad,r,pl,hz⟩:=I.list hq
  refine SeqAt.notIn_listAt (eqU x) pl.isList (fun w hw=>zfj rx fx r fs w (by simpa using hw)) ⟨.bl _,H,I,rfl,?_⟩
  rw[show ad.toArray.any (eqU x)=ad.any (eqU x) by simp,zi6 r fs]
  exact q
 ·obtain⟨ad,r,pl,hz⟩:=I.tuple hq
  refine SeqAt.notIn_tupleAt (eqU x) pl (fun w hw=>zfj rx fx r fs w (by simpa using hw)) ⟨.bl _,H,I,rfl,?_⟩
  rw[show ad.toArray.any (eqU x)=ad.any (eqU x) by simp,zi6 r fs]
  exact q
theorem zoc:zdf X (.builtin "len") (fun xs H Q=>∃p ys,xs=[.ref p]∧(SqL X.K H p ys∨SqT X.K H p ys)∧Q (.int ys.length) H):=by
 intro pins s σ H xs us Q I r h
 obtain⟨p,ys,rfl,hq,q⟩:=h
 obtain⟨u,rfl,rx⟩:=zfb r
 cases rx
 have hn:=zjc
 rcases hq with hq|hq
 ·obtain⟨ae,r',pl,hz⟩:=I.list hq
  have ad:=r'.length
  exact Calls.call_len_list pl.isList (by simp only[List.size_toArray]<;>omega) ⟨.int ys.length,H,I.tok _,⟨s.toks+1,by rw[List.size_toArray,ad]⟩,q⟩
 ·obtain⟨ae,r',pl,hz⟩:=I.tuple hq
  have ad:=r'.length
  exact len_tuple pl (by simp only[List.size_toArray]<;>omega) ⟨.int ys.length,H,I.tok _,⟨s.toks+1,by rw[List.size_toArray,ad]⟩,q⟩
theorem zot:zdf X (.type "list") (fun xs H Q=>∃p ys,xs=[.ref p]∧(SqL X.K H p ys∨SqT X.K H p ys)∧∀l,H l=none→Q (.ref l) (upd H l (.lst ys))):=by
 intro pins s σ H xs us Q I r h
 obtain⟨p,ys,rfl,hq,q⟩:=h
 obtain⟨u,rfl,rx⟩:=zfb r
 cases rx
 have fin:∀(ad:List Value),Vals ys ad→ys.length≤sizeLine→∀(h':Heap)(c':Nat),(∀b o',s.heap.get? b=some o'→h'.get? b=some o') →
   h'.get? s.heap.objs.size=some { cls:=.type "list",dict:=none,data:=.seq ad.toArray c',slots:=#[] }→EP X pins σ Q (.ref s.heap.objs.size) { s with heap:=h' }:=fun ad r' hz h' c' kp e=>
  ⟨.ref s.heap.objs.size,_,I.laid (t':=s.toks) kp (Nat.le_refl _) (show ObjOk X.prog X.w _ h' _ (.lst ys) from⟨hz,ad,c',r',e⟩),rfl,q _ (I.hok.fresh (Nat.le_refl _))⟩
 rcases hq with hq|hq
 ·obtain⟨ad,r',pl,hz⟩:=I.list hq
  have ae:=r'.length
  obtain⟨o,ho,hc,n,hd⟩:=pl.isList
  exact call_list_seq p (.inl rfl) ho hc hd (fun h' c' kp e=>fin ad r' hz h' c' kp e) (by simp only[List.size_toArray]<;>omega)
 ·obtain⟨ad,r',pl,hz⟩:=I.tuple hq
  have ae:=r'.length
  obtain⟨o,ho,hc,n,hd⟩:=pl
  exact call_list_seq p (.inr rfl) ho hc hd (fun h' c' kp e=>fin ad r' hz h' c' kp e) (by simp only[List.size_toArray]<;>omega)
theorem zbr:zdf X (.type "tuple") (fun xs H Q=>∃p ys,xs=[.ref p]∧((SqL X.K H p ys∧∀l,H l=none→Q (.ref l) (upd H l (.tup ys)))∨(SqT X.K H p ys∧Q (.ref p) H))):=by
 intro pins s σ H xs us Q I r h
 obtain⟨p,ys,rfl,h⟩:=h
 obtain⟨u,rfl,rx⟩:=zfb r
 cases rx
 rcases h with⟨hq,q⟩|⟨hq,q⟩
 ·obtain⟨ad,r',pl,hz⟩:=I.list hq
  have ae:=r'.length
  refine call_tuple_list pl.isList (fun h' kp=>?_) (by simp only[List.size_toArray]<;>omega)
  have I1:Inv X pins σ H { s with heap:=h' }:=I.kept (t':=s.toks) kp
  have I2:Inv X pins σ (upd H h'.objs.size (.tup ys)) { s with heap:=h'.push { cls:=.type "tuple",data:=.seq ad.toArray } }:=
   I1.laid (t':=s.toks) (fun b o e=>Heap.get?_push_of_some _ e) (Nat.le_refl _) (show ObjOk X.prog X.w _ _ _ (.tup ys) from⟨hz,ad,r',IsTup.new _ _⟩)
  exact⟨.ref h'.objs.size,_,I2,rfl,q _ (I1.hok.fresh (Nat.le_refl _))⟩
 ·obtain⟨ad,r',pl,hz⟩:=I.tuple hq
  exact call_tuple_same pl ⟨.ref p,H,I,rfl,q⟩
def tyV(K:PySem.W.Frag)(T:String)(x:V)(H:Hp):Prop:=match x with
 |.str _=>T = "str"
 |.int _=>T = "int"
 |.ref p=>(T = "list" ∧ ∃xs,SqL K H p xs)∨(T = "tuple" ∧ ∃o,K.lookup p=some o∧o.cls=.type "tuple" ∧ o.dict=none) ∨
   (T = "dict" ∧ ((∃kvs,H p=some (.dK kvs))∨∃kvs,H p=some (.dT kvs)))∨(T = "set" ∧ ∃S n,H p=some (.set S n))
 |_=>False
theorem zv5{pins:List (Addr×Obj)}{σ:St}{H:Hp}{s:Shared}{T:String}{x:V}{v:Value}(I:Inv X pins σ H s)(r:RelV x v)(ty:tyV X.K T x H):
  s.TypeIs v T∧∀a,v=.ref a→∃ob,s.heap.get? a=some ob∧ob.dict=none:=by
 cases x with
 |str z=>
  obtain⟨t,rfl⟩:=r
  cases(show T = "str" from ty)
  exact⟨typeIs_str s z t,fun _ e=>nomatch e⟩
 |int i=>
  obtain⟨t,rfl⟩:=r
  cases(show T = "int" from ty)
  exact⟨typeIs_int s i t,fun _ e=>nomatch e⟩
 |ref p=>
  cases r
  rcases ty with⟨rfl,xs,hq⟩|⟨rfl,o,hk,hc,hd⟩|⟨rfl,hk⟩|⟨rfl,S,n,hk⟩
  ·obtain⟨ad,_,pl,_⟩:=I.list hq
   refine⟨pl.isList.typeIs,fun a e=>?_⟩
   cases e
   obtain⟨o,n,e,c,hd,_⟩:=pl
   exact⟨o,e,hd⟩
  ·refine⟨⟨o,I.kIn p o hk,hc⟩,fun a e=>?_⟩
   cases e
   exact⟨o,I.kIn _ o hk,hd⟩
  ·have z:∃o,s.heap.get? p=some o∧o.ExactDict:=by
    rcases hk with⟨kvs,hk⟩|⟨kvs,hk⟩
    ·obtain⟨_,_,_,_,o,_,_,e,ex,_⟩:=I.hok p _ hk
     exact⟨o,e,ex⟩
    ·obtain⟨_,_,_,_,o,_,_,e,ex,_⟩:=I.hok p _ hk
     exact⟨o,e,ex⟩
   obtain⟨o,e,ex⟩:=z
   refine⟨⟨o,e,ex.1⟩,fun a e2=>?_⟩
   cases e2
   exact⟨o,e,ex.2.1⟩
  ·obtain⟨o,_,_,_,e,ex,_⟩:=I.hok p _ hk
   refine⟨⟨o,e,ex.1⟩,fun a e2=>?_⟩
   cases e2
   exact⟨o,e,ex.2.1⟩
 |_=>exact False.elim ty
def zAm(K:PySem.W.Frag)(T:String)(r:V→List V→Hp→VK→Prop)(to:TE):TE:=fun σ H Q=>to σ H fun x H1=>tyV K T x H1∧r x [] H1 Q
def tBM(K:PySem.W.Frag)(T:String)(r:V→List V→Hp→VK→Prop)(to:TE)(t:TA):TE:=fun σ H Q=>to σ H fun x H1=>tyV K T x H1∧t σ H1 fun xs H2=>r x xs H2 Q
variable {o e : Expr} {es : List Expr} {to : TE} {t : TA} {name : Str} {apos cpos : Pos} {T id : String} {r : V → List V → Hp → VK → Prop}
theorem zym(pa:PlainAttrs T)(slot:Slot T name id)(hty:typeOf (.builtin id)=pure (.type "method_descriptor"))(hm:MtR X id r)(ho:PE X o to)
  (hbase:attributeBase o name X.env (eval o X.env)=eval o X.env:=by rfl) (hline:(apos.endLine==cpos.line)=true:=by rfl):PE X (.Call (.Attribute o name apos) [] [] cpos) (zAm X.K T r to):=by
 intro pins s σ H Q I h
 refine wpAny_Call_method0_late hbase hline (thn (ho pins s σ H _ I h) fun v s1 ⟨x,H1,I1,r1,ty,q1⟩=>?_)
 obtain⟨h1,h2⟩:=zv5 I1 r1 ty
 exact⟨T,id,pa,slot,hty,h1,h2,Calls.callWith_builtin rfl (PySem.evalArgs_none (hm pins s1 σ H1 x [] v [] Q I1 r1 .nil q1))⟩
theorem zAl(pa:PlainAttrs T)(slot:Slot T name id)(hty:typeOf (.builtin id)=pure (.type "method_descriptor"))(hm:MtR X id r)(ho:PE X o to)(ha:PA X (e::es) t)
  (hbase:attributeBase o name X.env (eval o X.env)=eval o X.env:=by rfl)
  (hfew:((backTo cpos (starEach (e::es) X.env)).all (fun x=>!x.1)&&(backToKw cpos (keywordEach [] X.env)).all (fun x=>x.1.isSome)
   && decide ((e::es).length+([]:List Keyword).length+(if ([]:List Keyword).isEmpty then 0 else 1)<30))=true:=by rfl)
  (hline:(apos.endLine==cpos.line)=true:=by rfl) (hs:starEach (e::es) X.env=(false,eval e X.env)::starEach es X.env:=by rfl) (hplain:(backTo cpos (starEach es X.env)).any (·.1)=false:=by rfl):
  PE X (.Call (.Attribute o name apos) (e::es) [] cpos) (tBM X.K T r to t):=by
 intro pins s σ H Q I h
 refine wpAny_Call_method_late hbase hfew hline rfl (thn (ho pins s σ H _ I h) fun v s1 ⟨x,H1,I1,r1,ty,q1⟩=>?_)
 obtain⟨h1,h2⟩:=zv5 I1 r1 ty
 refine⟨T,id,pa,slot,hty,h1,h2,?_⟩
 have hA:=ha cpos pins s1 σ H1 _ I1 q1
 rw[hs] at hA ⊢
 refine Calls.callWith_builtin (by show(false||(backTo cpos (starEach es X.env)).any (·.1))=false;rw[hplain]<;>rfl) (Calls.evalArgs_plain ?_)
 exact thn hA fun us s2 ⟨vs,H2,I2,r2,q2⟩=>hm pins s2 σ H2 x vs v us Q I2 r1 r2 q2
end
def MtM(X:Cx)(id:String)(r:V→List V→Hp→VK→Prop):Prop:=
 ∀(pins:List (Addr×Obj))(s:Shared)(σ:St)(H:Hp)(x:V)(xs:List V)(v:Value)(us:List Value)(Q:VK),Inv X pins σ H s→RelV x v→Vals xs us→r x xs H Q →
  wpAny (model X.prog X.w) X.A (call (.builtin id) (v::us)) (EP X pins σ Q) X.xe s
theorem Vals.one:∀{x:V} {us:List Value},Vals [x] us→∃u,us=[u]∧RelV x u
 |_,_,.cons r .nil=>⟨_,rfl,r⟩
section
variable {X : Cx} {pins : List (Addr × Obj)} {σ : St} {H : Hp} {s : Shared} {l b : Addr} {xs ys zs : List V}
theorem Inv.lset{its its':List Value}{n:Nat}{f:Array Value→Array Value}{t':Nat}(I:Inv X pins σ H s)(hH:H l=some (.lst xs))
  (e:s.heap.get? l=some { cls:=.type "list",data:=.seq its.toArray n }) (hf:f its.toArray=its'.toArray) (hv:Vals ys its') (hz:ys.length≤sizeLine):
  Inv X pins σ (upd H l (.lst ys)) { s with heap:=s.heap.update l (Obj.mapSeq f),toks:=t' }:=by
 have q:=PySem.IsL.update e f
 rw[hf] at q
 refine I.write (x:=l) (e:=l) (by rw[hH];exact trivial) (.inl rfl) (fun b' u hb hu=>(Heap.get?_update_other s.heap (Obj.mapSeq f) (Ne.symm hb)).trans hu) ⟨_,q⟩ ?_
 exact⟨hz,its',_,hv,q⟩
theorem Inv.lnew{its:List Value}{t':Nat}(I:Inv X pins σ H s)(hv:Vals ys its)(hz:ys.length≤sizeLine):
  Inv X pins σ (upd H s.heap.objs.size (.lst ys)) { s with heap:=s.heap.push { cls:=.type "list",data:=.seq its.toArray },toks:=t' }:=
 I.laid (fun _ _ q=>Heap.get?_push_of_some _ q) (Nat.le_refl _) ⟨hz,its,0,hv,Heap.get?_push_size _ rfl⟩
theorem Inv.fresh(I:Inv X pins σ H s):H s.heap.objs.size=none:=I.hok.fresh (Nat.le_refl _)
theorem Inv.lstM(I:Inv X pins σ H s)(hH:H l=some (.lst xs)):xs.length≤sizeLine∧∃(its:List Value)(n:Nat),Vals xs its∧xs.length=its.length∧s.heap.get? l=some { cls:=.type "list",data:=.seq its.toArray n }:=by
 obtain⟨z,its,n,r,e⟩:=I.hok l _ hH
 exact⟨z,its,n,r,r.length,e⟩
end
section
variable {X : Cx}
def zxa:V→List V→Hp→VK→Prop:=fun x vs H Q=>∃l xs y,x=.ref l∧vs=[y]∧H l=some (.lst xs)∧xs.length<sizeLine∧Q .non (upd H l (.lst (xs++[y])))
theorem zec:MtM X "list.append" zxa:=by
 intro pins s σ H x vs v us Q I rx rv h
 obtain⟨l,xs,y,rfl,rfl,hH,hz,q⟩:=h
 cases rx
 obtain⟨u,rfl,ru⟩:=rv.one
 obtain⟨z,ad,n,r,hl,e⟩:=I.lstM hH
 refine call_meets F.slot_list_append ⟨_,e,rfl⟩ F.entry_list_append (F.args_list_append_2 _ _) (PySem.list_append l ad.toArray n u (by rw[List.size_toArray];omega)) ⟨e,?_⟩
 refine⟨.non,_,I.lset (its':=ad++[u]) hH e (by simp) (r.append (.cons ru .nil)) ?_,rfl,q⟩
 rw[List.length_append,List.length_singleton]
 omega
def zAy:R2:=fun x y H Q=>∃l b xs zs,x=.ref l∧y=.ref b∧H l=some (.lst xs)∧H b=some (.lst zs)∧xs.length+zs.length≤sizeLine∧∀p,H p=none→Q (.ref p) (upd H p (.lst (xs++zs)))
theorem zy3:OpR X (binaryOp .Add) zAy:=by
 intro pins s σ H x y v u Q I rx ry h
 obtain⟨l,b,xs,zs,rfl,rfl,hH,hB,hz,q⟩:=h
 cases rx
 cases ry
 obtain⟨z,ae,n,r,hl,e⟩:=I.lstM hH
 obtain⟨z2,ad,n2,r2,af,e2⟩:=I.lstM hB
 refine PySem.P.add_list e e2 ?_ (by rw[List.size_toArray,List.size_toArray];omega)
 have ea:ae.toArray++ad.toArray=(ae++ad).toArray:=by simp
 rw[ea]
 exact⟨.ref _,_,I.lnew (t':=s.toks) (r.append r2) (by rw[List.length_append];omega),rfl,q _ I.fresh⟩
end
section
variable {prog : Program} {w : World} {A : Around} {E : Value → Shared → Prop} {s : Shared}
set_option maxRecDepth 100000 in
end
end L2
namespace Att
open PySem PySem.W PySem.Calls PyProof.Rows
theorem zj9{P:Params}{h:Heap}:∀(ns:List Int)(vs:List Value),WellAll P h vs (ns.map WData.int)→IntsAre vs ns:=by
 intro ns
 induction ns with
 |nil=>
  intro vs w
  rw[List.map_nil] at w
  cases w
  exact .nil
 |cons n ns ih=>
  intro vs w
  rw[List.map_cons] at w
  cases w with
  |cons a b=>
   cases a
   exact .cons _ _ (ih _ b)
theorem zua{l:OpenLaw}{n:Nat}(hn:l.most=some n){P:Params}{h:Heap}{args:List WData}{vals:List Value}
  (hpre:l.row.toRowW.claim.pre args=true) (hwl:WellAll P h vals args):
  ∃a vs ns,vals=[Value.ref a]∧args=[WData.list (ns.map WData.int)]∧h.get? a=some { cls:=.type "list",data:=.seq vs.toArray }∧IntsAre vs ns∧ns.length≤n:=by
 have ae:WShape.hasAll [] args [.list .int]=true:=(pre_splitW hpre).1
 have hc:l.pre.holds [] { args:=args }=true:=(pre_splitW hpre).2
 obtain⟨d,r,rfl,h1,h2⟩:=hasAllW_cons ae
 obtain rfl:=hasAllW_nil h2
 obtain⟨xs,rfl,h3⟩:=hasW_list h1
 obtain⟨ns,rfl⟩:=items_int h3
 have ad:ns.length≤n:=by
  unfold OpenLaw.pre at hc
  have h4:(WTm.not (.lt (.lit (.int (n:Int))) (.len (.arg 0)))).holds [] { args:=[.list (ns.map .int)] }=true:=by
   have h4:=(holds_andW hc).1
   rw[hn] at h4
   exact h4
  have h5:=condW_of h4 (w_not (w_lt w_lit (w_len_list (w_arg rfl))))
  rw[List.length_map] at h5
  refine Nat.le_of_not_lt fun q=>?_
  have q':(n:Int)<((ns.length:Nat):Int):=by omega
  first
   |(rw[decide_eq_true q'] at h5;exact absurd h5 (by decide))
   |(simp at h5;omega)
 cases hwl with
 |cons w1 w2=>
  cases w2
  cases w1 with
  |list ho hall=>exact⟨_,_,ns,rfl,rfl,ho,zj9 ns _ hall,ad⟩
theorem zt8(l:OpenLaw)(args:List WData):l.row.toRowW.claim.post args (.bool true) args=true:=
 postW_of (r:=l.row.toRowW) (X:=(true==true))
  (show WShape.has [] (.bool true) .bool=true by first|rfl|decide|simp[WShape.has,WShape.arms,WShape.armsAll])
  (show(WTm.eq .res (.lit (.bool true))).value [] { args:=args,res:=some (.bool true),after:=args }=some (.bool (true==true)) from w_eq_bool (w_res rfl) w_lit) rfl
theorem attach_call{l:OpenLaw}{n:Nat}{q:Program}{loose:List Str}{XP:(Str→Option Value)→Heap→Prop}{YP:World→Heap→Prop}{d:DefRec}
  (hn:l.most=some n) (hdf:d.params.defaults=[])
  (call:∀(w:World)(s₀ s₁:Shared)(mg mb:Str→Option Value)(fa:Addr)(o:Obj)(pm cd doc:Value)(a:Addr)(vs:List Value)(ns:List Int),
   Ground q loose [] XP w s₀ mg mb s₁.heap→YP w s₁.heap →
   s₁.heap.get? fa=some o→o.data=.func (docDef d.name d.params d.body d.scope pm cd doc)→s₁.heap.CodeRec cd d.name→mg d.name=some (.ref fa) →
   s₁.heap.get? a=some { cls:=.type "list",data:=.seq vs.toArray }→IntsAre vs ns→ns.length≤n→s₁.gens=#[] →
   codeAny (model l.prog w) callerA (.call (.ref fa) ⟨[.ref a],[]⟩) (fun r s'=>r=.ok (.ret (.bool true))∧OldK s₁.heap s'.heap∧s'.os=s₁.os∧AllBare s'.gens) s₁):
  WalkO q loose XP YP l.row.toRowW d [] (fun f vs=>PySem.call f vs):=by
 intro w s₀ s₁ mg mb G Y fa o pm cd doc dV kV ho hd ak hD aj hg args ai as ae al ao am ap
 obtain rfl:dV=.none:=Dflts.none hD hdf
 obtain rfl:kV=.none:=Dflts.noKw hD
 obtain⟨a,vs,ns,rfl,rfl,af,ad,ah⟩:=zua hn ae am
 refine enter_call (codeAny_mono (call w s₀ s₁ mg mb fa o pm cd doc a vs ns G Y ho (fd_plain hd) ak aj af ad ah hg) fun r s' hq=>?_)
 obtain⟨rfl,h2,h3,h4⟩:=hq
 exact⟨.inl ⟨.bool true,.bool true,[],rfl,fun _=>rfl,.bool true,zt8 l _,fun _=>⟨List.Pairwise.nil,fun _ hm=>(nomatch hm)⟩⟩,h2,h3,h4⟩
end Att
namespace L2
open PySem PySem.Spec PyProof.Rows
theorem zi9:∀{vs:List Value} {ns:List Int},IntsAre vs ns→Vals (ns.map V.int) vs
 |_,_,.nil=>.nil
 |_,_,.cons n t h=>.cons ⟨t,rfl⟩ (zi9 h)
def zf1(s:Stmt):Arguments:=match s with
 |.FunctionDef _ a _ _ _ _ _ _ _ _=>a
 |_=>{ posonlyargs:=[],args:=[],vararg:=none,kwonlyargs:=[],kw_defaults:=[],kwarg:=none,defaults:=[] }
def za8(s:Stmt):List Stmt:=match s with
 |.FunctionDef _ _ b _ _ _ _ _ _ _=>b
 |_=>[]
def zag(s:Stmt):Scope:=match s with
 |.FunctionDef _ _ _ _ _ _ sc _ _ _=>sc
 |_=>{ kind:=.function,names:=[],isGenerator:=false,isCoroutine:=false }
abbrev CX0:CXT:=fun _ _ _ _ _ _=>False
abbrev E0:XK:=fun _ _ _=>False
theorem zlx{X:Cx}:zof CX0 X E0:=fun _ _ _ _ _ _ _ h=>h.elim
structure Fun(K:PySem.W.Frag)(x qual:Str)(st:Stmt)(f:Addr)(fd:FuncData):Prop where
 ex:∃(oc:Value)(od:Option Addr)(kV doc pm:Value)(an:Option Addr)(cdv ct:Value)(osl:Array (Option Value)),
  fd=PySem.W.fnOf x qual (zf1 st) (za8 st) (zag st) .none kV doc pm an cdv ct∧K.lookup f=some ⟨oc,od,.func fd,osl⟩∧PySem.W.codeIn K cdv qual=true
 kp:PySem.W.keepIn K (.ref f)=true
section
variable {P : Program} {w : World} {K : PySem.W.Frag} {mg : Str → Option Value} {base : Heap}
theorem Fun.ok{x qual:Str}{st:Stmt}{f:Addr}{fd:FuncData}{N ps:List Str}{k:Nat}{sp:Sp}(F:Fun K x qual st f fd)(S:zap N ps (zag st))(len:∀vs H Q E,sp vs H Q E→vs.length=ps.length)
  (hbody:∀(cdv:Value)(A:Around)(outer:List Env)(s:Shared)(H:Hp)(vs:List V)(Q:VK)(E:XK),Room k (A.deeper (envOfC qual (zag st) s.heap.objs.size f cdv))→sp vs H Q E →
   ∃t,PSs (zci CX0 P w K mg base N qual (zag st) f cdv A outer s H E).nox (za8 st) t∧t { nx:=fun _ H'=>Q .non H',rt:=Q } (zhx N vs) H):FnOk P w K mg base CX0 (k+1) f fd ps sp:=by
 obtain⟨oc,od,kV,doc,pm,an,cdv,ct,osl,rfl,lk,ad⟩:=F.ex
 refine zwe lk ad S len fun A outer s H vs Q E hr ae=>?_
 obtain⟨t,h,q⟩:=hbody cdv A outer s H vs Q E hr ae
 exact⟨t,h.nox,q⟩
theorem Fun.binds{x qual:Str}{st:Stmt}{f:Addr}{fd:FuncData}{ps:List Str}(F:Fun K x qual st f fd)
  (h:∀(kV doc pm:Value)(an:Option Addr)(cdv ct:Value)(us:List Value),us.length=ps.length→bindArgs (PySem.W.fnOf x qual (zf1 st) (za8 st) (zag st) .none kV doc pm an cdv ct) ⟨us,[]⟩=pure (ps.zip us)):Binds K fd ps []:=by
 obtain⟨oc,od,kV,doc,pm,an,cdv,ct,osl,rfl,lk,ad⟩:=F.ex
 exact .all (h kV doc pm an cdv ct)
theorem zzs{x qual:Str}{st:Stmt}{f:Addr}{oc:Value}{od an:Option Addr}{osl:Array (Option Value)}{kV doc pm cdv ct:Value}(l:K.lookup f=some ⟨oc,od,.func (PySem.W.fnOf x qual (zf1 st) (za8 st) (zag st) .none kV doc pm an cdv ct),osl⟩)
  (c:PySem.W.codeIn K cdv qual=true) (k:PySem.W.keepIn K (.ref f)=true):Fun K x qual st f (PySem.W.fnOf x qual (zf1 st) (za8 st) (zag st) .none kV doc pm an cdv ct):=⟨⟨oc,od,kV,doc,pm,an,cdv,ct,osl,rfl,l,c⟩,k⟩
end
theorem zb0{n:Nat}(h:n≤1000):n<sizeLine:=Nat.lt_of_le_of_lt h (by decide)
section
variable {X : Cx}
theorem pv(i:Nat){x:Str}{pos:Pos}(hN:X.N[i]?=some x:=by rfl)(hv:Vis X.env.scope x:=by first|exact Or.inl rfl|exact Or.inr (Or.inl rfl)|exact Or.inr (Or.inr rfl))(hd:(x==("__debug__" : Str))=false:=by decide)
  (hcd:(x==("__classdict__" : Str))=false:=by decide):PE X (.Name x pos) (zxd i):=zu9 hN hv hd hcd
end
theorem zga{A B:Prop}(h:B):if false=true then A else B:=by
 rw[if_neg Bool.false_ne_true]
 exact h
theorem zrb{A B:Prop}(h:A):if true=true then A else B:=by
 rw[if_pos rfl]
 exact h
theorem zbv{c A B:Prop}[Decidable c](h1:c→A)(h2:¬c→B):if c then A else B:=by
 by_cases h:c
 ·rw[if_pos h]
  exact h1 h
 ·rw[if_neg h]
  exact h2 h
theorem zlp{c A B:Prop}[Decidable c](hc:c)(h:B):if (!decide c)=true then A else B:=by
 rw[decide_eq_true hc]
 exact zga h
def zgw(c:Addr):Heap→Prop:=fun h=>∃(o:Obj)(vs:Array Value)(q:Str)(t:Nat),h.get? c=some o∧o.data=.fields vs∧vs[1]?=some (.str q t)
def zev(H:Hp)(P:Addr):Prop:=∃ps:Array Value,H P=some (.tbl ps)∧TriplesOk ps.toList∧∀pos:Pos,codeAmong pos ps.toList=none∨∃c:Addr,codeAmong pos ps.toList=some (.ref c)∧H c=some (.ext (zgw c))
def Kp(H H':Hp)(b:Addr):HO→Prop
 |.tbl _=>(∃ps,H' b=some (.tbl ps))∧(zev H b→zev H' b)
 |o=>H' b=some o
def Same(H H':Hp):Prop:=∀b o,H b=some o→Kp H H' b o
theorem Kp.of{H H':Hp}{b:Addr}{o:HO}(h:H b=some o)(e:H' b=some o)(hc:∀c,H c=some (.ext (zgw c))→H' c=some (.ext (zgw c))):Kp H H' b o:=by
 cases o
 case tbl ps=>
  refine⟨⟨ps,e⟩,fun⟨qs,hq,tr,hp⟩=>?_⟩
  rw[h] at hq
  cases hq
  exact⟨_,e,tr,fun pos=>(hp pos).imp id fun⟨c,z1,z2⟩=>⟨c,z1,hc c z2⟩⟩
 all_goals exact e
theorem zir{H H':Hp}(h:∀b o,H b=some o→H' b=some o):Same H H':=fun b o e=>Kp.of e (h b o e) fun c z=>h c _ z
theorem Same.refl(H:Hp):Same H H:=zir fun _ _ h=>h
theorem Same.trans{H H1 H2:Hp}(a:Same H H1)(b:Same H1 H2):Same H H2:=fun c o h=>by
 have z:=a c o h
 cases o
 case tbl ps=>
  obtain⟨⟨qs,hq⟩,k⟩:=z
  obtain⟨q2,k2⟩:=b c _ hq
  exact⟨q2,fun t=>k2 (k t)⟩
 all_goals exact b c _ z
theorem Kp.some{H H':Hp}{b:Addr}{o:HO}(k:Kp H H' b o):∃u,H' b=some u:=by
 cases o
 case tbl ps=>exact⟨_,k.1.choose_spec⟩
 all_goals exact⟨_,k⟩
theorem Same.free{H H':Hp}(e:Same H H'){l:Addr}(h:H' l=Option.none):H l=Option.none:=by
 cases q:H l with
 |none=>rfl
 |some o=>
  obtain⟨u,z⟩:=(e l o q).some
  rw[z] at h
  cases h
theorem Same.tab{H H':Hp}{P:Addr}(e:Same H H')(t:zev H P):zev H' P:=by
 obtain⟨ps,h,_⟩:=id t
 exact(e _ _ h).2 t
theorem zk4{pos pos':Pos}{c:Value}(l:List Value)(h:TriplesOk l):codeAmong pos (l++[rawInt pos'.line,rawInt pos'.col,c])=codeAmong pos l∨codeAmong pos (l++[rawInt pos'.line,rawInt pos'.col,c])=some c:=by
 fun_induction TriplesOk l with
 |case1=>
  by_cases hc:((pos'.line:Int)==(pos.line:Int)&&(pos'.col:Int)==(pos.col:Int))=true
  ·exact .inr (by simp only[List.nil_append,codeAmong,rawInt];rw[if_pos hc])
  ·exact .inl (by simp only[List.nil_append,codeAmong,rawInt];rw[if_neg hc])
 |case2 a t b u x rest ih=>
  simp only[List.cons_append,codeAmong]
  split
  ·exact .inl rfl
  ·exact ih h
 |case3=>exact h.elim
theorem zm6{α β:Type}(g:α→β→β){f:α→β→Sem (ForInStep β)}:∀(l:List α)(b:β),(∀x∈l,∀c,f x c=pure (ForInStep.yield (g x c))) →
  forIn l b f=(pure (l.foldl (fun c x=>g x c) b):Sem β)
 |[],b,_=>by simp only[List.forIn_nil,List.foldl_nil]
 |x::r,b,h=>by
  rw[List.forIn_cons,h x List.mem_cons_self b,pure_bind]
  exact zm6 g r (g x b) fun y hy c=>h y (List.mem_cons_of_mem _ hy) c
def ze9(sc:Scope)(env:Env):List (Str×Addr):=
 sc.names.foldl (fun cs y=>if (y.2==NameKind.free)=true then (y.1,(env.cells.lookup y.1).getD 0)::cs else cs) []
theorem znv{sc:Scope}{env:Env}(h:∀y∈sc.names,y.2=.free→∃c,env.cells.lookup y.1=some c):closureFor sc env=pure (ze9 sc env):=by
 simp only[closureFor]
 rw[zm6 (fun(y:Str×NameKind)(cs:List (Str×Addr))=>if (y.2==NameKind.free)=true then (y.1,(env.cells.lookup y.1).getD 0)::cs else cs) sc.names [] (fun y hy c=>by
  obtain⟨n,k⟩:=y
  by_cases hk:k=.free
  ·obtain⟨a,ha⟩:=h _ hy hk
   subst hk
   simp only[cellOf,ha,beq_self_eq_true,if_true,pure_bind,Option.getD_some]
  ·have z:(k==NameKind.free)=false:=by simpa using hk
   simp only[z,Bool.false_eq_true,if_false])]
 rfl
theorem zm3{α β:Type}{P:β→Prop}{g:α→List β→List β}:∀(l:List α)(b:List β),(∀p∈b,P p)→(∀x∈l,∀c,(∀p∈c,P p)→∀p∈g x c,P p)→∀p∈l.foldl (fun c x=>g x c) b,P p
 |[],b,hb,_=>hb
 |x::r,b,hb,h=>zm3 r (g x b) (h x List.mem_cons_self b hb) fun y hy=>h y (List.mem_cons_of_mem _ hy)
theorem zv0{sc:Scope}{env:Env}(h:∀y∈sc.names,y.2=.free→∃c,env.cells.lookup y.1=some c):∀p∈ze9 sc env,env.cells.lookup p.1=some p.2:=by
 refine zm3 (P:=fun p:Str×Addr=>env.cells.lookup p.1=some p.2) sc.names [] (fun _ z=>nomatch z) fun y hy c hc p hp=>?_
 by_cases hk:y.2=.free
 ·have z:(y.2==NameKind.free)=true:=by simpa using hk
  rw[if_pos z] at hp
  rcases List.mem_cons.mp hp with e|hp
  ·obtain⟨a,ha⟩:=h y hy hk
   rw[e]
   show env.cells.lookup y.1=some ((env.cells.lookup y.1).getD 0)
   rw[ha]
   rfl
  ·exact hc p hp
 ·have z:¬(y.2==NameKind.free)=true:=by simpa using hk
  rw[if_neg z] at hp
  exact hc p hp
theorem zli{α β:Type}{q:β}{g:α→List β→List β}(hg:∀x c,q∈c→q∈g x c):∀(l:List α)(b:List β),q∈b→q∈l.foldl (fun c x=>g x c) b
 |[],_,hb=>hb
 |x::r,b,hb=>zli hg r (g x b) (hg x b hb)
theorem zwq{sc:Scope}{env:Env}{x:Str}{c:Addr}(hx:(x,NameKind.free)∈sc.names)(hc:env.cells.lookup x=some c):(x,c)∈ze9 sc env:=by
 have kp:∀(y:Str×NameKind)(cs:List (Str×Addr)),(x,c)∈cs→(x,c)∈(if (y.2==NameKind.free)=true then (y.1,(env.cells.lookup y.1).getD 0)::cs else cs):=fun y cs h=>by
  by_cases z:(y.2==NameKind.free)=true
  ·rw[if_pos z]
   exact List.mem_cons_of_mem _ h
  ·rw[if_neg z]
   exact h
 unfold ze9
 obtain⟨l1,l2,e⟩:=List.append_of_mem hx
 rw[e,List.foldl_append,List.foldl_cons]
 refine zli (g:=fun(y:Str×NameKind)(cs:List (Str×Addr))=>if (y.2==NameKind.free)=true then (y.1,(env.cells.lookup y.1).getD 0)::cs else cs) kp l2 _ ?_
 rw[if_pos (by simp)]
 rw[hc]
 exact List.mem_cons_self
theorem zet{β:Type}{x:Str}{b:β}:∀{l:List (Str×β)},(x,b)∈l→∃c,l.lookup x=some c
 |[],h=>nomatch h
 |(y,d)::r,h=>by
  by_cases e:x=y
  ·subst e
   exact⟨d,by rw[List.lookup_cons_self]⟩
  ·have z:(x==y)=false:=by simpa using e
   rcases List.mem_cons.mp h with q|q
   ·cases q
    exact absurd rfl e
   ·obtain⟨c,hc⟩:=zet q
    exact⟨c,by rw[List.lookup_cons,z];exact hc⟩
theorem za9{sc:Scope}{env:Env}(h:∀y∈sc.names,y.2=.free→∃c,env.cells.lookup y.1=some c){x:Str}{c:Addr}(e:(ze9 sc env).lookup x=some c):env.cells.lookup x=some c:=
 zv0 h _ (PySem.mem_of_lookup e)
theorem zdq{sc:Scope}{env:Env}(h:∀y∈sc.names,y.2=.free→∃c,env.cells.lookup y.1=some c){x:Str}{c:Addr}(hx:(x,NameKind.free)∈sc.names)(hc:env.cells.lookup x=some c):(ze9 sc env).lookup x=some c:=by
 obtain⟨d,hd⟩:=zet (zwq hx hc)
 have:=za9 h hd
 rw[hc] at this
 cases this
 exact hd
def zh6(sc sc0:Scope):Scope:=
 { sc with names:=sc.names.map fun(n,k)=>if (k==.free&&sc0.kind==.function&&sc0.names.lookup n==some .cell) then (n,.cell) else (n,k) }
def ztq(sc0 sc:Scope)(XN N':List Str)(n:Nat)(kp:List Nat):Bool:=
 decide (sc.kind=.function)&&sc.names.all (fun y=>decide (y.2≠.cell))&&sc.names.all (fun y=>decide (y.2=.local→sc.names.lookup y.1=some .local)) &&
 sc.names.all (fun y=>decide (y.2=.free→sc0.names.lookup y.1=some .cell))&&decide (N'.length=n+kp.length) &&
 (List.range kp.length).all (fun i=>match N'[n+i]?,kp[i]? with
  |some x,some j=>decide (XN[j]?=some x∧(x,NameKind.free)∈sc.names∧((zh6 sc sc0).names.lookup x=some .cell∨(zh6 sc sc0).names.lookup x=some .free))
  |_,_=>false)
theorem zlt{sc0 sc:Scope}{XN N':List Str}{n:Nat}{kp:List Nat}(h:ztq sc0 sc XN N' n kp=true):
  sc.kind=.function∧(∀y∈sc.names,y.2≠.cell)∧(∀y∈sc.names,y.2=.local→sc.names.lookup y.1=some .local)∧(∀y∈sc.names,y.2=.free→sc0.names.lookup y.1=some .cell)∧N'.length=n+kp.length ∧
  ∀(i:Nat)(x:Str),N'[n+i]?=some x→∃j,kp[i]?=some j∧XN[j]?=some x∧(x,NameKind.free)∈sc.names∧((zh6 sc sc0).names.lookup x=some .cell∨(zh6 sc sc0).names.lookup x=some .free):=by
 unfold ztq at h
 simp only[Bool.and_eq_true,List.all_eq_true,decide_eq_true_eq] at h
 obtain⟨⟨⟨⟨⟨h1,h2⟩,h3⟩,h4⟩,h5⟩,h6⟩:=h
 refine⟨h1,h2,h3,h4,h5,fun i x hx=>?_⟩
 have hi:i<kp.length:=by
  have:=(List.getElem?_eq_some_iff.mp hx).1
  omega
 have q:=h6 i (List.mem_range.mpr hi)
 rw[hx,List.getElem?_eq_getElem hi] at q
 exact⟨kp[i],List.getElem?_eq_getElem hi,of_decide_eq_true q⟩
abbrev NoX:Value→Shared→Prop:=fun _ _=>False
def blk(X:Cx)(N':List Str)(sc:Scope)(C:Addr)(fp:List Addr)(pins:List (Addr×Obj))(s:Shared)(H:Hp):Cx:=
 { X with N:=N',s₀:=s,H₀:=H,env:=compEnvC sc (ze9 sc X.env) C X.env,outer:=X.stack,stack:=X.stack,ex:=fp,fn:=fun _=>false,pn:=X.pn++pins,xe:=NoX }
abbrev zyb(cs:List Expr)(env:Env):Sem Bool:=forIn cs true fun c r=>if r=true then do let ok ←isTrue c env (eval c env);pure (ForInStep.yield ok) else pure (ForInStep.yield r)
def PTs(X:Cx)(cs:List Expr)(t:TT):Prop:=
 ∀(pins:List (Addr×Obj))(s:Shared)(σ:St)(H:Hp)(Q:Bool→Hp→Prop),Inv X pins σ H s→t σ H Q→wpAny (model X.prog X.w) X.A (zyb cs X.env) (TP X pins σ Q) X.xe s
def zA5:TT:=fun _ H Q=>Q true H
theorem zd9{X:Cx}:PTs X [] zA5:=fun _ _ _ H _ I h=>wpAny_tests_nil ⟨H,I,h⟩
theorem zb2{X:Cx}{c:Expr}{t:TT}(hc:PT X c t):PTs X [c] t:=fun pins s σ H Q I h=>wpAny_tests_one (hc pins s σ H Q I h)
theorem zsl{prog:Program}{w:World}{A:Around}{R:Result→Shared→Prop}{elt tg iter:Expr}{cs:List Expr}{sc:Scope}{pos:Pos}{it acc:Value}{env:Env}(J:Nat→Shared→Prop)
  (turn:∀n s,J n s→wpAny (model prog w) A (pyNext it) (fun r s1=>match r with
   |none=>R (.ok .next) s1
   |some v=>wpAny (model prog w) A (letOwnedTupleGo tg it v) (fun _ s2=>wpAny (model prog w) A (assign tg env v) (fun _ s3=>wpAny (model prog w) A (zyb cs env) (fun ok s4=>
     if ok=true then wpAny (model prog w) A (eval elt env) (fun x s5=>wpAny (model prog w) A (call (.builtin "list.append") [acc,x]) (fun _ s6=>∃m,m<n∧J m s6) NoX s5) NoX s4
     else ∃m,m<n∧J m s4) NoX s3) NoX s2) NoX s1) NoX s)
  (n:Nat) (s:Shared) (h:J n s):codeAny (model prog w) A (.compLoop (.ListComp elt [⟨tg,iter,cs,0⟩] sc pos) 0 it acc env) R s:=by
 refine codeAny_loop rfl J (fun n s hJ=>?_) n h
 show wpAny _ A ((compTurn (.ListComp elt [⟨tg,iter,cs,0⟩] sc pos) 0 it acc env).onRaise (fun x=>do noteFrame x env;theTreesLotGoes x)) _ _ s
 refine wpAny_noted ?_
 rw[compTurn_list]
 have no:∀{E:Value→Shared→Prop} (e:Value) (z:Shared),NoX e z→E e z:=fun _ _ f=>f.elim
 refine wpAny_bind (wpAny_standAt (wpAny_bind (wpAny_mono (turn n s hJ) (fun r s1 h1=>?_) no)))
 cases r with
 |none=>exact wpAny_pure h1
 |some v=>
  refine wpAny_bind (wpAny_mono h1 (fun _ s2 h2=>?_) no)
  refine wpAny_bind (wpAny_mono h2 (fun _ s3 h3=>?_) no)
  refine wpAny_bind (wpAny_mono h3 (fun ok s4 h4=>?_) no)
  cases ok with
  |false=>exact wpAny_pure ⟨rfl,h4⟩
  |true=>
   exact wpAny_bind (wpAny_bind (wpAny_mono h4 (fun x s5 h5=>wpAny_bind (wpAny_mono h5 (fun _ s6 h6=>wpAny_pure (wpAny_pure ⟨rfl,h6⟩)) no)) no))
def zra(J:It)(g:TG)(tc:TT)(te:TE)(σ0:St)(H1:Hp)(Q:VK):Prop:=∃W:Nat→Nat→List V→St→Hp→Prop,
  (∃m,W 0 m [] σ0 H1)∧∀i m ys σ' H',W i m ys σ' H'→ys.length≤sizeLine ∧
    ((J.stop i H'∧∀p,H' p=none→Q (.ref p) (upd H' p (.lst ys))) ∨
     (J.go i H'∧∃N:List V→St→Hp→Prop,(∀ys' σ2 H2,N ys' σ2 H2→∃m',m'<m∧W (i+1) m' ys' σ2 H2)∧∀x H2,J.yld i H' x H2→g x σ' H2 fun σ3 H3=>tc σ3 H3 fun b H4=>
       if b=true then te σ3 H4 fun v H5=>N (ys++[v]) σ3 H5 else N ys σ3 H4))
def tLc(n:Nat)(kp:List Nat)(wi:TI)(g:TG)(tc:TT)(te:TE):TE:=fun σ H Q=>wi σ H fun J H1=>zra J g tc te (List.replicate n none++kp.map fun j=>(σ[j]?).join) H1 Q
theorem zuj{lo:Int}{k:Nat}{σ0:St}{H:Hp}{g:TG}{tc:TT}{te:TE}{Q:VK}(Pv:Nat→List V→St→Hp→Prop)(h0:Pv 0 [] σ0 H)(hz:∀i ys σ H,i≤k→Pv i ys σ H→ys.length≤sizeLine)
  (hs:∀i ys σ H,i<k→Pv i ys σ H→g (.int (lo+i)) σ H fun σ3 H3=>tc σ3 H3 fun b H4=>if b=true then te σ3 H4 fun v H5=>Pv (i+1) (ys++[v]) σ3 H5 else Pv (i+1) ys σ3 H4)
  (hd:∀ys σ H,Pv k ys σ H→∀p,H p=none→Q (.ref p) (upd H p (.lst ys))):
  zra (Itr lo k) g tc te σ0 H Q:=by
 refine⟨fun i m ys σ H=>m=k-i∧i≤k∧Pv i ys σ H,⟨k,by simp,Nat.zero_le _,h0⟩,?_⟩
 rintro i m ys σ H ⟨rfl,hi,p⟩
 refine⟨hz i ys σ H hi p,?_⟩
 by_cases ad:i<k
 ·refine .inr ⟨ad,Pv (i+1),fun ys' σ' H' p'=>⟨k-(i+1),by omega,rfl,ad,p'⟩,fun x H' y=>?_⟩
  obtain⟨e1,e2⟩:=y
  subst e1
  subst e2
  exact hs i ys σ _ ad p
 ·have e:i=k:=by omega
  subst e
  exact .inl ⟨Nat.le_refl _,hd ys σ H p⟩
theorem zcw{K:PySem.W.Frag}{a:Addr}{xs:List V}{σ0:St}{H:Hp}{g:TG}{tc:TT}{te:TE}{Q:VK}(Pv:Nat→List V→St→Hp→Prop)(h0:Pv 0 [] σ0 H)(hz:∀i ys σ H,i≤xs.length→Pv i ys σ H→ys.length≤sizeLine)
  (hl:∀i ys σ H,i≤xs.length→Pv i ys σ H→SqL K H a xs)
  (hs:∀i x ys σ H,xs[i]?=some x→Pv i ys σ H→g x σ H fun σ3 H3=>tc σ3 H3 fun b H4=>if b=true then te σ3 H4 fun v H5=>Pv (i+1) (ys++[v]) σ3 H5 else Pv (i+1) ys σ3 H4)
  (hd:∀ys σ H,Pv xs.length ys σ H→∀p,H p=none→Q (.ref p) (upd H p (.lst ys))):
  zra (Itl K a) g tc te σ0 H Q:=by
 refine⟨fun i m ys σ H=>m=xs.length-i∧i≤xs.length∧Pv i ys σ H,⟨xs.length,by simp,Nat.zero_le _,h0⟩,?_⟩
 rintro i m ys σ H ⟨rfl,hi,p⟩
 refine⟨hz i ys σ H hi p,?_⟩
 have q:=hl i ys σ H hi p
 by_cases ad:i<xs.length
 ·refine .inr ⟨⟨xs,xs[i],q,by simp[ad]⟩,Pv (i+1),fun ys' σ' H' p'=>⟨xs.length-(i+1),by omega,rfl,ad,p'⟩,fun x H' y=>?_⟩
  obtain⟨e,y⟩:=y
  subst e
  exact hs i x ys σ _ (y xs q) p
 ·have e:i=xs.length:=by omega
  subst e
  exact .inl ⟨⟨xs,q,Nat.le_refl _⟩,hd ys σ H p⟩
theorem zgt{K:PySem.W.Frag}{a:Addr}{xs:List V}{σ0:St}{H:Hp}{g:TG}{tc:TT}{te:TE}{Q:VK}(Pv:Nat→List V→St→Hp→Prop)(h0:Pv 0 [] σ0 H)(hz:∀i ys σ H,i≤xs.length→Pv i ys σ H→ys.length≤sizeLine)
  (hl:∀i ys σ H,i≤xs.length→Pv i ys σ H→SqT K H a xs)
  (hs:∀i x ys σ H,xs[i]?=some x→Pv i ys σ H→g x σ H fun σ3 H3=>tc σ3 H3 fun b H4=>if b=true then te σ3 H4 fun v H5=>Pv (i+1) (ys++[v]) σ3 H5 else Pv (i+1) ys σ3 H4)
  (hd:∀ys σ H,Pv xs.length ys σ H→∀p,H p=none→Q (.ref p) (upd H p (.lst ys))):
  zra (Itt K a) g tc te σ0 H Q:=by
 refine⟨fun i m ys σ H=>m=xs.length-i∧i≤xs.length∧Pv i ys σ H,⟨xs.length,by simp,Nat.zero_le _,h0⟩,?_⟩
 rintro i m ys σ H ⟨rfl,hi,p⟩
 refine⟨hz i ys σ H hi p,?_⟩
 have q:=hl i ys σ H hi p
 by_cases ad:i<xs.length
 ·refine .inr ⟨⟨xs,xs[i],q,by simp[ad]⟩,Pv (i+1),fun ys' σ' H' p'=>⟨xs.length-(i+1),by omega,rfl,ad,p'⟩,fun x H' y=>?_⟩
  obtain⟨e,y⟩:=y
  subst e
  exact hs i x ys σ _ (y xs q) p
 ·have e:i=xs.length:=by omega
  subst e
  exact .inl ⟨⟨xs,q,Nat.le_refl _⟩,hd ys σ H p⟩
section
variable {X : Cx} {tg iter elt : Expr} {cs : List Expr} {sc sc0 : Scope} {pos : Pos} {wi : TI} {g : TG} {tc : TT} {te : TE} {XN N' : List Str} {n : Nat} {kp : List Nat}
theorem zzp{pins:List (Addr×Obj)}{σ:St}{H:Hp}{s:Shared}{fp:List Addr}{C:Addr}(I:Inv X pins σ H s)(hk:sc.kind=.function)(hcell:∀y∈sc.names,y.2≠.cell)
  (hfr:∀y∈sc.names,y.2=.free→∃c,X.env.cells.lookup y.1=some c) (hf:∀b∈fp,zis X pins H b) (hl:∀b∈fp,b<s.heap.objs.size) (hC:s.heap.objs.size≤C):(blk X N' sc C fp pins s H).Ok where
 mod:=I.ok.mod
 kind:=hk
 glob:=I.ok.glob
 blt:=I.ok.blt
 above:=hC
 inj:=fun x y c h1 h2=>I.ok.inj x y c (za9 hfr h1) (za9 hfr h2)
 has:=fun x hx=>by
  have q:∃k,(x,k)∈sc.names∧k=.free:=by
   have ad:(zh6 sc X.env.scope).names.lookup x=some .cell∨(zh6 sc X.env.scope).names.lookup x=some .free:=hx
   have go:∀k,(zh6 sc X.env.scope).names.lookup x=some k→(k=.cell∨k=.free)→(x,NameKind.free)∈sc.names:=fun k e ae=>by
    have hm:=PySem.mem_of_lookup e
    obtain⟨⟨y,ky⟩,hy,ey⟩:=List.mem_map.mp hm
    dsimp only at ey
    split at ey
    ·rename_i hc
     cases ey
     have z:ky=.free:=by
      simp only[Bool.and_eq_true] at hc
      simpa using hc.1.1
     subst z
     exact hy
    ·cases ey
     rcases ae with z|z
     ·exact absurd z (hcell _ hy)
     ·subst z
      exact hy
   rcases ad with e|e
   ·exact⟨_,go _ e (.inl rfl),rfl⟩
   ·exact⟨_,go _ e (.inr rfl),rfl⟩
  obtain⟨k,hm,rfl⟩:=q
  obtain⟨c,hc⟩:=hfr _ hm rfl
  exact⟨c,zdq hfr hm hc⟩
 cab:=fun x c h=>absurd h (by simp[blk])
 hd:=I.ok.hd
 frames:=I.ok.frames
 stk:=.inl rfl
 exf:=fun b hb=>⟨Nat.ne_of_lt (Nat.lt_of_lt_of_le (hl b hb) hC),fun x c e=>(hf b hb).2.2.2.2.1 x c (za9 hfr e)⟩
 bs:=I.bs
 bsz:=Nat.le_trans I.ok.bsz I.sz
 noex:=fun b o e hb=>by
  rcases(hf b hb).2.2.2.1 with z|z
  ·exact I.ok.noex b o e z
  ·exact absurd (Nat.lt_of_lt_of_le (Heap.lt_size e) (Nat.le_trans I.ok.bsz z)) (Nat.lt_irrefl _)
 exfs:=fun b hb z=>by
  rcases List.mem_cons.mp (I.stkSub b z) with q|q
  ·exact(hf b hb).2.1 q
  ·exact(hf b hb).2.2.1 q
 funs:=I.stack
 frf:=I.stkFree
end
section
variable {X : Cx} {tg iter elt : Expr} {cs : List Expr} {sc sc0 : Scope} {pos : Pos} {wi : TI} {g : TG} {tc : TT} {te : TE} {XN N' : List Str} {n : Nat} {kp : List Nat}
theorem ztv{pins:List (Addr×Obj)}{σ:St}{H:Hp}{s:Shared}{fp:List Addr}{C:Addr}{h1:Heap}{tk:Nat}{m:Str→Option Value}(I:Inv X pins σ H s)(h0:X.env.scope=sc0)(hN:X.N=XN)(ok:ztq sc0 sc XN N' n kp=true)
  (hf:∀b∈fp,zis X pins H b) (hl:∀b∈fp,b<s.heap.objs.size) (hC:s.heap.objs.size≤C) (old:∀b o,s.heap.get? b=some o→h1.get? b=some o) (ns:h1.Ns C m):
  Inv (blk X N' sc C fp pins s H) [] (List.replicate n none++kp.map fun j=>(σ[j]?).join) H { s with heap:=h1,toks:=tk }:=by
 obtain⟨o1,o2,o3,o4,o5,o6⟩:=zlt ok
 subst h0
 subst hN
 have ad:∀y∈sc.names,y.2=.free→∃c,X.env.cells.lookup y.1=some c:=fun y hy e=>I.ok.has y.1 (.inl (o4 y hy e))
 have ae:∀b,b<s.heap.objs.size→b≠C:=fun b hb=>Nat.ne_of_lt (Nat.lt_of_lt_of_le hb hC)
 refine⟨zzp I o1 o2 ad hf hl hC,rfl,I.bare,Un.kept old,⟨m,ns,fun i x v e1 e2 e3=>?_⟩,fun x c e=>?_,I.hok.fresh hC,fun x c e=>?_,fun p hp=>?_,I.hok.kept old,?_⟩
 ·have hi:n≤i:=by
   by_cases z:n≤i
   ·exact z
   ·rw[List.getElem?_append_left (by rw[List.length_replicate];omega),List.getElem?_replicate] at e2
    split at e2<;>cases e2
  obtain⟨j,rfl⟩:∃j,i=n+j:=⟨i-n,by omega⟩
  obtain⟨q,hq,hx,hm,aj⟩:=o6 j x e1
  rw[List.getElem?_append_right (by rw[List.length_replicate];omega),List.length_replicate,Nat.add_sub_cancel_left,List.getElem?_map,hq] at e2
  have e4:(σ[q]?).join=some v:=Option.some.inj e2
  have ai:σ[q]?=some (some v):=by
   cases z:σ[q]? with
   |none=>rw[z] at e4;cases e4
   |some w=>rw[z] at e4;cases e4;rfl
  obtain⟨c,hc⟩:=ad _ hm rfl
  have kx:X.env.kindOf x=some .cell:=o4 _ hm rfl
  obtain⟨m',al,ak⟩:=I.loc
  obtain⟨u,r,lk⟩:=ak q x v hx ai (.inr (.inl kx))
  refine⟨u,r,.inr ⟨aj,c,zdq ad hm hc,?_⟩⟩
  rcases lk with⟨k,_⟩|⟨_,c',af,hv⟩
  ·rw[kx] at k
   cases k
  ·rw[hc] at af
   cases af
   exact hv.keeps old
 ·obtain⟨v,hv⟩:=I.cell x c (za9 ad e)
  exact⟨v,hv.keeps old⟩
 ·exact I.freeC x c (za9 ad e)
 ·have ah:p∈X.pn++pins:=by
   have:p∈(X.pn++pins)++([]:List (Addr×Obj)):=hp
   rw[List.append_nil] at this
   exact this
  obtain⟨q1,q2,q3,q4,q5⟩:=I.pin p ah
  refine⟨old _ _ q1,q2,ae _ (Heap.lt_size q1),fun z=>?_,q5⟩
  rcases List.mem_cons.mp (I.stkSub _ z) with r|r
  ·exact q3 r
  ·exact q4 r
 ·show(List.replicate n none++kp.map fun j=>(σ[j]?).join).length=N'.length
  rw[List.length_append,List.length_replicate,List.length_map,o5]
theorem zuf{pins:List (Addr×Obj)}{s:Shared}{σ:St}{H:Hp}{Q:VK}{use:Option (Value→Sem Unit)}{Qf:Value→Shared→Prop}(hc:X.calm=true)(hi:PI X tg iter wi)(h0:X.env.scope=sc0)(hN:X.N=XN)(ok:ztq sc0 sc XN N' n kp=true)
  (hg:∀C fp pins s H,PG (blk X N' sc C fp pins s H) tg g) (ht:∀C fp pins s H,PTs (blk X N' sc C fp pins s H) cs tc) (he:∀C fp pins s H,PE (blk X N' sc C fp pins s H) elt te) (hs:∀x,foldedSetIterable iter X.env x=pure x)
  (I:Inv X pins σ H s) (h:tLc n kp wi g tc te σ H Q)
  (fin:∀D C ys H' s',Inv X pins σ (upd H' D (.lst ys)) s'→(∃m,s'.heap.Ns C m)→zis X pins (upd H' D (.lst ys)) C→Q (.ref D) (upd H' D (.lst ys))→compPost (model X.prog X.w) X.A X.xe use Qf (.ref D) C (.ok .next) s') {pos':Pos}:
  wpAny (model X.prog X.w) X.A (comprehension (.ListComp elt [⟨tg,iter,cs,0⟩] sc pos) sc X.env pos' (newList []) false (firstIter [⟨tg,iter,cs,0⟩] X.env) use) Qf X.xe s:=by
 obtain⟨o1,o2,o3,o4,o5,o6⟩:=zlt ok
 have aC:∀y∈sc.names,y.2=.free→∃c,X.env.cells.lookup y.1=some c:=fun y hy e=>I.ok.has y.1 (.inl (by rw[Env.kindOf,h0];exact o4 y hy e))
 refine wpAny_comprehension_free (use:=use) rfl hs (znv aC) o1 o3 (thn (hi pins s σ H _ I h) fun v s1 h1=>thn h1 fun aN s2 h2=>?_)
 obtain⟨it,fp,tn,J,H2,rfl,I2,T,av,f2,W,⟨m0,w0⟩,ap⟩:=h2
 have hl:∀b∈fp,b<s2.heap.objs.size:=fun b hb=>by
  obtain⟨o,e,_⟩:=T.obj 0 _ av b hb
  exact Heap.lt_size e
 refine wpAny_newObj_type (wpAny_newFunctionEnv o2 (by intro y hy;simp at hy) (fun h1 ar am=>?_) o1)
 dsimp only at ar am ⊢
 generalize hG:s2.heap.push { cls:=.type "list",dict:=none,data:=.seq ([]:List Value).toArray }=G at ar am ⊢
 have aO:G.objs.size=s2.heap.objs.size+1:=by rw[←hG,Heap.size_push]
 have aj:s2.heap.objs.size≤G.objs.size:=by omega
 have ak:s2.heap.objs.size≠G.objs.size:=by omega
 have old:∀b o,s2.heap.get? b=some o→h1.get? b=some o:=fun b o e=>by
  have lt:=Heap.lt_size e
  exact am.extBut b o (Nat.ne_of_lt (Nat.lt_of_lt_of_le lt aj)) (Heap.get?_push_of_some _ (hG▸Heap.get?_push_of_some _ e))
 have aE:h1.get? s2.heap.objs.size=some { cls:=.type "list",data:=.seq ([]:List Value).toArray 0 }:=
  am.extBut _ _ ak (Heap.get?_push_of_some _ (hG▸Heap.get?_push_size _ rfl))
 have al:H2 s2.heap.objs.size=none:=I2.hok.fresh (Nat.le_refl _)
 have aM:H2 G.objs.size=none:=I2.hok.fresh aj
 have ai:∀s3:Shared,s3={ s2 with heap:=h1,toks:=s2.toks+([]:List (Str×Value)).length } →
   codeAny (model X.prog X.w) X.A (.compLoop (.ListComp elt [⟨tg,iter,cs,0⟩] sc pos) 0 (.ref it) (.ref s2.heap.objs.size) (compEnvC sc (ze9 sc X.env) G.objs.size X.env))
    (compPost (model X.prog X.w) X.A X.xe use Qf (.ref s2.heap.objs.size) G.objs.size) s3:=by
  rintro s3 rfl
  have I3:=ztv (fp:=fp) (C:=G.objs.size) (h1:=h1) (tk:=s2.toks+([]:List (Str×Value)).length) I2 h0 hN ok f2 hl aj old ar
  have ae:∀{H':Hp} {o:Obj},(∀b∈fp,H' b=none)→∀b∈fp,zis (blk X N' sc G.objs.size fp pins s2 H2) [(s2.heap.objs.size,o)] H' b:=fun hn b hb=>by
   have lt:=hl b hb
   refine⟨hn b hb,Nat.ne_of_lt (Nat.lt_of_lt_of_le lt aj),I3.ok.exfs b hb,.inl hb,(I3.ok.exf b hb).2,fun p hp=>?_⟩
   rcases List.mem_append.mp hp with z|z
   ·exact(f2 b hb).2.2.2.2.2 p z
   ·have e:p.1=s2.heap.objs.size:=by rw[List.mem_singleton.mp z]
    rw[e]
    exact Nat.ne_of_gt lt
  have au:∀{σ':St} {H':Hp} {s':Shared} {o:Obj},Inv (blk X N' sc G.objs.size fp pins s2 H2) [] σ' H' s'→s'.heap.get? s2.heap.objs.size=some o→(∀v,o.data≠.cell v)→H' s2.heap.objs.size=none →
    Inv (blk X N' sc G.objs.size fp pins s2 H2) [(s2.heap.objs.size,o)] σ' H' s':=fun {σ' H' s' o} J' e hd hn=>J'.pins_of fun p hp=>by
   rw[List.mem_singleton.mp hp]
   exact⟨e,hn,ak,fun z=>by
    rcases List.mem_cons.mp (I2.stkSub _ z) with r|r
    ·exact absurd I2.lt (by rw[←r];exact Nat.lt_irrefl _)
    ·exact I2.nofs (Nat.le_refl _) r,hd⟩
  refine zsl (fun k s'=>∃(i:Nat)(ys:List V)(ad:List Value)(c:Nat)(σ':St)(H':Hp),Inv (blk X N' sc G.objs.size fp pins s2 H2) [] σ' H' s'∧tn i s'.heap∧(∀b∈fp,H' b=none) ∧
   s'.heap.get? s2.heap.objs.size=some { cls:=.type "list",data:=.seq ad.toArray c }∧Vals ys ad∧H' s2.heap.objs.size=none∧W i k ys σ' H') ?_ m0 _
   ⟨0,[],[],0,_,H2,I3,T.keep _ _ _ av fun b _ o e=>old b o e,fun b hb=>(f2 b hb).1,aE,.nil,al,w0⟩
  rintro k s' ⟨i,ys,ad,c,σ',H',I',aA,aD,aK,hv,nD,w'⟩
  obtain⟨hz,cases⟩:=ap i k ys σ' H' w'
  have aB:=au I' aK (fun v=>by intro z;cases z) nD
  rcases cases with⟨aq,q⟩|⟨go,N,az,step⟩
  ·refine thn (T.done (blk X N' sc G.objs.size fp pins s2 H2) rfl rfl rfl hc i _ s' σ' H' NoX aB (ae aD) aA aq) fun r s4 ⟨hr,I4⟩=>?_
   subst hr
   obtain⟨e4,n4,_⟩:=I4.pin (s2.heap.objs.size,{ cls:=.type "list",data:=.seq ad.toArray c }) (List.mem_append_right _ (List.mem_singleton.mpr rfl))
   have u4:Un (frs X.stack) fp H2 H' s2.heap s4.heap:=I4.base
   have aI:H' G.objs.size=none:=I4.free
   obtain⟨m4,aG,_⟩:=I4.loc
   have aL:∀b o,s2.heap.get? b=some o→b≠s2.heap.objs.size:=fun b o e=>Nat.ne_of_lt (Heap.lt_size e)
   have u5:Un (frs X.stack) fp H2 (upd H' s2.heap.objs.size (.lst ys)) s2.heap s4.heap:=
    ⟨u4.keep,u4.slot,fun b o e nb hx=>by rw[zaq (aL b o e)];exact u4.free b o e nb hx,u4.there,fun b xs e=>by rw[zaq (zax e al)];exact u4.tups b xs e,
     fun b o u e=>by rw[zaq (zax e al)];exact u4.frzs b o u e,fun b ps e=>by rw[zaq (zax e al)];exact u4.tbls b ps e⟩
   have ao:HOk X.prog X.w (upd H' s2.heap.objs.size (.lst ys)) s4.heap:=fun a o e=>by
    by_cases ea:a=s2.heap.objs.size
    ·subst ea
     rw[zaf] at e
     cases e
     exact⟨hz,ad,c,hv,e4⟩
    ·rw[zaq ea] at e
     exact(I4.hok a o e).stay (fun _ _ _ q=>q) (fun b q=>by rw[zaq (zax q nD)];exact q) fun b xs q=>by rw[zaq (zax q nD)];exact q
   have I5:Inv X pins σ (upd H' s2.heap.objs.size (.lst ys)) s4:=I2.call' I4.os u5 ao I4.bare fun b hb=>⟨(f2 b hb).2.2.2.1,(f2 b hb).2.1,(f2 b hb).2.2.2.2.1,(f2 b hb).2.2.2.2.2⟩
   refine fin _ _ ys H' s4 I5 ⟨m4,aG⟩ (I2.fpOk aj ?_) (q _ nD)
   rw[zaq (Ne.symm ak)]
   exact aI
  ·refine thn (T.item (blk X N' sc G.objs.size fp pins s2 H2) rfl rfl rfl hc i _ s' σ' H' NoX aB (ae aD) aA go) fun r s4 ⟨u,hr,h4⟩=>?_
   subst hr
   refine thn h4 fun _ s5 ⟨x,H5,I5,r5,y5,ax,aH⟩=>?_
   have aJ:=I5.pinned (ae aH) (T.obj _ _ ax)
   refine thn (hg _ _ _ _ _ _ s5 σ' H5 x u _ aJ r5 (step x H5 y5)) fun _ s6 ⟨σ6,H6,I6,q6⟩=>?_
   refine thn (ht _ _ _ _ _ _ s6 σ6 H6 _ I6 q6) fun b s7 ⟨H7,I7,q7⟩=>?_
   have af:∀{s8:Shared} {H8:Hp} (m':Nat),Inv (blk X N' sc G.objs.size fp pins s2 H2) ([(s2.heap.objs.size,{ cls:=.type "list",data:=.seq ad.toArray c })]++zgx fp s5.heap) σ6 H8 s8 →
     tn (i+1) s8.heap∧(∀b∈fp,H8 b=none)∧s8.heap.get? s2.heap.objs.size=some { cls:=.type "list",data:=.seq ad.toArray c }∧H8 s2.heap.objs.size=none:=fun {s8 H8} m' I8=>by
    have pn:∀p∈[(s2.heap.objs.size,({ cls:=.type "list",data:=.seq ad.toArray c }:Obj))]++zgx fp s5.heap,s8.heap.get? p.1=some p.2∧H8 p.1=none:=fun p hp=>
     let ⟨a,b,_⟩:=I8.pin p (List.mem_append_right _ hp);⟨a,b⟩
    refine⟨T.keep _ _ _ ax fun b hb o e=>(pn (b,o) (List.mem_append_right _ (zdh hb e))).1,fun b hb=>?_,pn _ (List.mem_append_left _ (List.mem_singleton.mpr rfl))⟩
    obtain⟨o,e,_⟩:=T.obj _ _ ax b hb
    exact(pn (b,o) (List.mem_append_right _ (zdh hb e))).2
   have ah:∀{s8:Shared} {H8:Hp} {pl:List (Addr×Obj)},Inv (blk X N' sc G.objs.size fp pins s2 H2) pl σ6 H8 s8→Inv (blk X N' sc G.objs.size fp pins s2 H2) [] σ6 H8 s8:=fun I8=>I8.pins_of fun p hp=>nomatch hp
   cases b with
   |false=>
    rw[if_neg Bool.false_ne_true] at q7 ⊢
    obtain⟨m',lt,w7⟩:=az _ _ _ q7
    obtain⟨b1,b2,b3,b4⟩:=af m' I7
    exact⟨m',lt,i+1,ys,ad,c,σ6,H7,ah I7,b1,b2,b3,hv,b4,w7⟩
   |true=>
    rw[if_pos rfl] at q7 ⊢
    refine thn (he _ _ _ _ _ _ s7 σ6 H7 _ I7 q7) fun y s8 ⟨yv,H8,I8,r8,q8⟩=>?_
    obtain⟨m',lt,w8⟩:=az _ _ _ q8
    obtain⟨b1,b2,b3,b4⟩:=af m' I8
    have aw:=hv.length
    refine append_at (hsz:=by rw[List.size_toArray,←aw];exact hz) b3 fun h9 ay e9=>?_
    have I9:Inv (blk X N' sc G.objs.size fp pins s2 H2) [] σ6 H8 { s8 with heap:=h9 }:=(ah I8).turned (t':=s8.toks) (it:=s2.heap.objs.size) (fun b o hb e=>ay.extBut b o hb e) b4 ak (.inr (Nat.le_refl _))
     (fun x c e z=>by
      obtain⟨v,hv⟩:=I2.cell x c (za9 aC e)
      exact absurd hv.lt (by rw[z];exact Nat.lt_irrefl _))
     fun p hp z=>by
      have aF:p∈X.pn++pins:=by
       have:p∈(X.pn++pins)++([]:List (Addr×Obj)):=hp
       rw[List.append_nil] at this
       exact this
      exact absurd (Heap.lt_size (I2.pin p aF).1) (by rw[z];exact Nat.lt_irrefl _)
    refine⟨m',lt,i+1,ys++[yv],ad++[y],c+1,σ6,H8,I9,T.keep _ _ _ b1 fun b hb o e=>ay.extBut b o (Nat.ne_of_lt (hl b hb)) e,b2,?_,hv.append (.cons r8 .nil),b4,w8⟩
    rw[e9]
    simp
 exact codeAny_compStart_list (ai _ rfl) (T.self _ 0 _ _ _ (T.keep _ _ _ av fun b _ o e=>old b o e) (ai _ rfl))
theorem zdc(hc:X.calm=true)(hi:PI X tg iter wi)(h0:X.env.scope=sc0)(hN:X.N=XN)(ok:ztq sc0 sc XN N' n kp=true)
  (hg:∀C fp pins s H,PG (blk X N' sc C fp pins s H) tg g) (ht:∀C fp pins s H,PTs (blk X N' sc C fp pins s H) cs tc) (he:∀C fp pins s H,PE (blk X N' sc C fp pins s H) elt te)
  (hs:∀x,foldedSetIterable iter X.env x=pure x:=by intro _;rfl):PE X (.ListComp elt [⟨tg,iter,cs,0⟩] sc pos) (tLc n kp wi g tc te):=by
 intro pins s σ H Q I h
 rw[eval_ListComp]
 refine zuf hc hi h0 hN ok hg ht he hs I h fun D C ys H' s' I' ns fp q=>?_
 obtain⟨m,hm⟩:=ns
 refine⟨m,hm,fun h' sb=>⟨.ref D,_,?_,rfl,q⟩⟩
 obtain⟨f1,f2,f3,f4,f5,f6⟩:=fp
 exact I'.turned (t':=s'.toks) (it:=C) (fun b o hb e=>sb.extBut b o hb e) f1 f2 f4 f5 f6
end
section
variable {X : Cx} {tg iter elt : Expr} {cs : List Expr} {sc sc0 : Scope} {pos : Pos} {wi : TI} {g : TG} {tc : TT} {te : TE} {XN N' : List Str} {n : Nat} {kp : List Nat}
theorem zg2{i:Nat}{y:Str}{py spos:Pos}(hNd:X.N.Nodup)(hiy:X.N[i]?=some y)(hy:X.env.scope.names.lookup y=some .local)(hsw:swapsWith (.ListComp elt [⟨tg,iter,cs,0⟩] sc pos) (some (.Name y py)) spos.line X.env=pure true)
  (hc:X.calm=true) (hi:PI X tg iter wi) (h0:X.env.scope=sc0) (hN:X.N=XN) (ok:ztq sc0 sc XN N' n kp=true)
  (hg:∀C fp pins s H,PG (blk X N' sc C fp pins s H) tg g) (ht:∀C fp pins s H,PTs (blk X N' sc C fp pins s H) cs tc) (he:∀C fp pins s H,PE (blk X N' sc C fp pins s H) elt te)
  (hs:∀x,foldedSetIterable iter X.env x=pure x:=by intro _;rfl):PS X (.Assign [.Name y py] (.ListComp elt [⟨tg,iter,cs,0⟩] sc pos) spos) (zyh (tLc n kp wi g tc te) (zsg i)):=by
 intro pins s σ H D I h
 rw[exec_Assign_Name_used _ _ _ _ hsw]
 refine wpAny_bind (wpAny_standAt (wpAny_bind ?_))
 have fin:wpAny (model X.prog X.w) X.A (comprehension (.ListComp elt [⟨tg,iter,cs,0⟩] sc pos) sc X.env (firstIterPos [⟨tg,iter,cs,0⟩] pos) (newList []) false (firstIter [⟨tg,iter,cs,0⟩] X.env) (some (assign (.Name y py) X.env)))
   (fun _ s'=>SP X pins D .next s') X.xe s:=by
  refine zuf (Q:=fun x H1=>zsg i x σ H1 D.nx) hc hi h0 hN ok hg ht he hs I h fun D' C ys H' s' I' ns fp q=>?_
  obtain⟨m,hm⟩:=ns
  obtain⟨f1,f2,f3,f4,f5,f6⟩:=fp
  obtain⟨o,es,ep,ho,rest⟩:=id hm
  have nc:∀v,o.data≠.cell v:=fun v z=>by
   rw[rest.1] at z
   cases z
  have ad:Inv X (pins++[(C,o)]) σ (upd H' D' (.lst ys)) s':=I'.pins_of fun p hp=>by
   rcases List.mem_append.mp hp with z|z
   ·exact I'.pin p (List.mem_append_right _ z)
   ·rw[List.mem_singleton.mp z]
    exact⟨ho,f1,f2,f3,nc⟩
  show wpAny (model X.prog X.w) X.A (assign (.Name y py) X.env (.ref D')) _ X.xe s'
  refine thn (zaw hNd hiy (.inl hy) (.inr hy) _ s' σ _ (.ref D') (.ref D') D.nx ad rfl q) fun _ s'' ⟨σ3,H3,I3,q3⟩=>?_
  obtain⟨p1,p2,_⟩:=I3.pin (C,o) (List.mem_append_right _ (List.mem_append_right _ (List.mem_singleton.mpr rfl)))
  refine⟨m,⟨o,es,ep,p1,rest⟩,fun h' sb=>⟨σ3,H3,?_,q3⟩⟩
  exact I3.unpinned.turned (t':=s''.toks) (it:=C) (fun b o hb e=>sb.extBut b o hb e) p2 f2 f4 f5 f6
 show wpAny (model X.prog X.w) X.A (comprehension _ _ _ _ _ _ _ _>>=_) _ _ s
 exact wpAny_bind (thn fin fun _ s' q=>wpAny_pure (wpAny_pure q))
end
section
variable {X : Cx}
def zm8(T C:String):Option Bool:=if T=C then some true else if PySem.W.kitMeta C=true then (fastBuiltinMro T).map (·.contains (.type C)) else none
theorem zyi{K:PySem.W.Frag}{T C:String}{b:Bool}(h:zm8 T C=some b):PySem.W.kitOne K (.type T) (.type C)=some b:=by
 unfold zm8 at h
 unfold PySem.W.kitOne
 by_cases e:T=C
 ·subst e
  rw[if_pos rfl] at h
  rw[if_pos (beq_self_eq_true _)]
  exact h
 ·rw[if_neg e] at h
  have z:¬(Value.type T==Value.type C)=true:=fun q=>by
   have q':=eq_of_beq q
   injection q' with ad
   exact e ad
  rw[if_neg z]
  exact h
theorem zv9:zdf X (.builtin "isinstance") (fun xs H Q=>∃(x:V)(T C:String)(b:Bool),xs=[x,.ty C]∧TyOf X.K H x (.type T)∧zm8 T C=some b∧Q (.bl b) H):=by
 intro pins s σ H xs us Q I r h
 obtain⟨x,T,C,b,rfl,ty,e,q⟩:=h
 obtain⟨u,w',rfl,rx,ry⟩:=zzz r
 cases(show w'=Value.type C from ry)
 exact zt2 I rx ty (zyi e) fun tk=>⟨.bl b,H,I.tok tk,rfl,q⟩
theorem zpz:zm8 "int" "int" = some true:=by decide +kernel
theorem zog:zm8 "int" "bool" = some false:=by decide +kernel
theorem zxk:MtR X "int.bit_length" (fun x xs H Q=>∃i:Int,x=.int i∧xs=[]∧Q (.int (Builtin.Int.intBits i:Nat)) H):=by
 intro pins s σ H x xs v us Q I rx r h
 obtain⟨i,rfl,rfl,q⟩:=h
 obtain⟨t,rfl⟩:=rx
 cases r
 exact call_int_bit_length ⟨.int _,H,I.tok _,⟨_,rfl⟩,q⟩
theorem ztc(bs:List Bool):((List.range bs.length).all fun i=>(bs[i]?).getD true)=bs.all id:=by
 rw[Bool.eq_iff_iff,List.all_eq_true,List.all_eq_true]
 refine⟨fun h b hb=>?_,fun h i hi=>?_⟩
 ·obtain⟨i,hi,rfl⟩:=List.getElem_of_mem hb
  have:=h i (List.mem_range.mpr hi)
  rw[List.getElem?_eq_getElem hi] at this
  exact this
 ·have ad:=List.mem_range.mp hi
  show(bs[i]?).getD true=true
  rw[List.getElem?_eq_getElem ad]
  exact h _ (List.getElem_mem ad)
theorem zpo(hc:X.calm=true):zdf X (.builtin "all") (fun xs H Q=>∃(p:Addr)(bs:List Bool),xs=[.ref p]∧SqL X.K H p (bs.map V.bl)∧Q (.bl (bs.all id)) H):=by
 intro pins s σ H xs us Q I r h
 obtain⟨p,bs,rfl,hq,q⟩:=h
 obtain⟨u,rfl,rx⟩:=zfb r
 cases rx
 obtain⟨ae,rv,pl,hz⟩:=I.list hq
 have hl:=pl.isList
 have af:p<s.heap.objs.size:=by obtain⟨_,e,_⟩:=hl;exact Heap.lt_size e
 refine call_all_walk (wpAny_pyIter_list hl ?_)
 refine⟨s.heap.objs.size,[s.heap.objs.size,p],[s.heap.objs.size],ae.toArray.size,_,_,fun i=>(bs[i]?).getD true,rfl,Walks.list (A:=X.A.in1) (I.ok.hd hc) _ p (Nat.ne_of_lt af) ae.toArray,
  ⟨⟨_,Heap.get?_push_size _ rfl,rfl,rfl⟩,hl.push _⟩,fun i v s' Q' E' hP hQ=>?_,fun h' tk hk=>?_⟩
 ·have e:ae[i]?=some v:=by simpa using hP
  have ad:=rv.length
  rw[List.length_map] at ad
  have hi:i<bs.length:=by
   have:=(List.getElem?_eq_some_iff.mp e).1
   omega
  obtain⟨u,hu,ru⟩:=rv.get (i:=i) (x:=.bl bs[i]) (by rw[List.getElem?_map,List.getElem?_eq_getElem hi];rfl)
  rw[e] at hu
  cases hu
  cases(show v=Value.bool bs[i] from ru)
  dsimp only at hQ
  rw[List.getElem?_eq_getElem hi] at hQ
  exact wpAny_truthy_bool hQ
 ·have ad:=rv.length
  rw[List.length_map] at ad
  have e:((List.range ae.toArray.size).all fun i=>(bs[i]?).getD true)=bs.all id:=by
   rw[List.size_toArray,←ad]
   exact ztc bs
  rw[e]
  refine⟨.bl _,H,I.kept (t':=tk) fun b o eb=>hk b o (fun hm=>?_) (Heap.get?_push_of_some _ eb),rfl,q⟩
  rw[List.mem_singleton.mp hm] at eb
  exact Nat.lt_irrefl _ (Heap.lt_size eb)
end
section
variable {prog : Program} {w : World} {A : Around} {E : Value → Shared → Prop} {s : Shared}
open AutoSeq1 (wpAny_loadPart') in
end
end L2
namespace L2
open PySem PySem.Spec PyProof.Rows
section
variable {X : Cx}
theorem zsb{P:Nat→Value→Prop}{f:Nat→V}(hP:∀i v,P i v→RelV (f i) v):∀(n k:Nat)(l:List Value),l.length=n→(∀j v,l[j]?=some v→P (k+j) v)→Vals ((List.range' k n).map f) l
 |0,k,[],_,_=>.nil
 |n+1,k,v::r,hl,h=>by
  rw[List.range'_succ,List.map_cons]
  refine .cons (hP _ _ (h 0 v rfl)) (zsb hP n (k+1) r (by simpa using hl) fun j v' e=>?_)
  have:=h (j+1) v' (by simpa using e)
  rw[show k+1+j=k+(j+1) by omega]
  exact this
 |0,_,_::_,hl,_=>by simp at hl
 |n+1,_,[],hl,_=>by simp at hl
theorem zhy(hc:X.calm=true):zdf X (.type "list") (fun xs H Q=>∃(p:Addr)(lo hi:Int),xs=[.ref p]∧H p=some (.rng lo hi)∧-(2^62)≤lo∧lo<2^62∧-(2^62)≤hi∧hi<2^62∧(hi-lo).toNat≤1000∧∀l,H l=none→Q (.ref l) (upd H l (.lst ((List.range' 0 (hi-lo).toNat).map fun i:Nat=>V.int (lo+i))))):=by
 intro pins s σ H xs us Q I r h
 obtain⟨p,lo,hi,rfl,hp,b1,b2,b3,b4,hz,q⟩:=h
 obtain⟨u,rfl,rx⟩:=zfb r
 cases rx
 obtain⟨t,u,v,e⟩:=(show ObjOk X.prog X.w H s.heap p (.rng lo hi) from I.hok p _ hp)
 have hn:Builtin.Range.rangeSize lo hi 1=(((hi-lo).toNat:Nat):Int):=by
  rw[rangeSize_one]
  split<;>omega
 refine call_list_range (I.ok.hd hc) e (small_one b1 b2 b3 b4) hn (Nat.le_trans hz (by decide)) fun g tk ad c kk eg ae=>?_
 obtain⟨sz,it⟩:=ae
 have vv:Vals ((List.range' 0 (hi-lo).toNat).map fun i:Nat=>V.int (lo+i)) ad.toList:=by
  refine zsb (P:=fun i v=>∃t,v=.int (lo+i*1) t) (fun i v hv=>?_) _ 0 ad.toList (by simpa using sz) fun j v ej=>?_
  ·obtain⟨t,rfl⟩:=hv
   exact⟨t,by rw[Int.mul_one]⟩
  ·have:=it j v (by simpa using ej)
   rw[Nat.zero_add]
   exact this
 refine⟨.ref s.heap.objs.size,_,I.laid (t':=tk) kk (Nat.le_refl _) (show ObjOk X.prog X.w _ _ _ (.lst _) from⟨?_,ad.toList,c,vv,eg⟩),rfl,q _ (I.hok.fresh (Nat.le_refl _))⟩
 rw[List.length_map,List.length_range']
 exact Nat.le_of_lt (zb0 hz)
open AutoSeq1 (wpAny_loadPart') in
def zBg(K:PySem.W.Frag)(tl:TE):TI:=fun σ H R=>tl σ H fun x H1=>∃a,x=.ref a∧(((∃xs,SqL K H1 a xs)∧R (Itl K a) H1)∨((∃xs,SqT K H1 a xs)∧R (Itt K a) H1))
theorem zys{tg l:Expr}{tl:TE}(hl:PE X l tl):PI X tg l (zBg X.K tl):=by
 intro pins s σ H R I h
 refine thn (hl pins s σ H _ I h) fun v s1 ⟨x,H1,I1,r1,q1⟩=>?_
 obtain⟨a,rfl,q⟩:=q1
 cases r1
 rcases q with⟨⟨xs,hq⟩,q⟩|⟨⟨xs,hq⟩,q⟩
 ·obtain⟨ad,rv,p,hz⟩:=I1.list hq
  refine wpAny_pyIter_list p.isList ⟨s1.heap.objs.size,[s1.heap.objs.size],_,_,H1,rfl,I1.kept (t':=s1.toks) fun b o e=>Heap.get?_push_of_some _ e,zmo a _,⟨_,Heap.get?_push_size _ rfl,rfl,rfl⟩,fun b hb=>?_,q⟩
  rw[List.mem_singleton.mp hb]
  exact I1.fpOk (Nat.le_refl _) (I1.hok.fresh (Nat.le_refl _))
 ·obtain⟨ad,rv,p,hz⟩:=I1.tuple hq
  refine wpAny_pyIter_tuple (show s1.heap.IsTuple a ad.toArray from p) ⟨s1.heap.objs.size,[s1.heap.objs.size],_,_,H1,rfl,I1.kept (t':=s1.toks) fun b o e=>Heap.get?_push_of_some _ e,zkn a _,⟨_,Heap.get?_push_size _ rfl,rfl,rfl⟩,fun b hb=>?_,q⟩
  rw[List.mem_singleton.mp hb]
  exact I1.fpOk (Nat.le_refl _) (I1.hok.fresh (Nat.le_refl _))
theorem zdr(hc:X.calm=true):zdf X (.builtin "sum") (fun xs H Q=>∃(p:Addr)(ns:List Int),xs=[.ref p]∧SqL X.K H p (ns.map V.int)∧Q (.int ns.sum) H):=by
 intro pins s σ H xs us Q I r h
 obtain⟨p,ns,rfl,hq,q⟩:=h
 obtain⟨u,rfl,rx⟩:=zfb r
 cases rx
 obtain⟨ad,rv,pl,af⟩:=I.list hq
 have ia:=zgb rv
 obtain⟨ps,hx⟩:=ia.allInts.items
 have ae:s.heap.IsList p (intItems ps):=hx▸pl.isList
 refine sum_intListG (I.ok.hd hc) ae fun g tk t' hk=>?_
 have e1:ns=ps.toList.map (·.1):=by
  rw[←nums_intItems,←hx]
  exact(show numsOf ad.toArray.toList=ns from ia.numsOf).symm
 have e2:preSum (numAt ps) ps.size=ns.sum:=by
  rw[preSum_eq,List.take_of_length_le (by simp),e1]
 rw[e2]
 exact⟨.int _,H,I.kept (t':=tk) hk,⟨t',rfl⟩,q⟩
end
section
variable {X : Cx} {K : PySem.W.Frag}
theorem ixT(h:X.K=K:=by rfl):IxR X (zz1 K):=h▸zob
theorem ixL(h:X.K=K:=by rfl):IxR X (zz7 K):=h▸zx1
theorem zcs(h:X.K=K:=by rfl):zdf X (.builtin "len") (fun xs H Q=>∃p ys,xs=[.ref p]∧(SqL K H p ys∨SqT K H p ys)∧Q (.int ys.length) H):=h▸zoc
theorem inS(h:X.K=K:=by rfl):OpR X (compareOp .In) (rIn K false):=h▸zs9
theorem zAw(h:X.K=K:=by rfl):zdf X (.builtin "isinstance") (fun xs H Q=>∃(x:V)(T C:String)(b:Bool),xs=[x,.ty C]∧TyOf K H x (.type T)∧zm8 T C=some b∧Q (.bl b) H):=h▸zv9
end
mutual
def Dn(H:Hp):PyData→V→Prop
 |.none,v=>v=.non
 |.bool b,v=>v=.bl b
 |.int i,v=>v=.int i
 |.str x,v=>v=.str x
 |.list ds,v=>∃a xs,v=.ref a∧H a=some (.lst xs)∧DnL H ds xs
 |.tuple ds,v=>∃a xs,v=.ref a∧H a=some (.tup xs)∧DnL H ds xs
 |.dict kvs,v=>kvs=[]∧∃a,v=.ref a∧H a=some (.dK [])
def DnL(H:Hp):List PyData→List V→Prop
 |[],xs=>xs=[]
 |d::ds,xs=>∃x r,xs=x::r∧Dn H d x∧DnL H ds r
end
mutual
theorem Dn.same{H H':Hp}(h:Same H H'):∀(d:PyData)(v:V),Dn H d v→Dn H' d v
 |.none,_,q=>q
 |.bool _,_,q=>q
 |.int _,_,q=>q
 |.str _,_,q=>q
 |.list ds,_,⟨a,xs,e,q,r⟩=>⟨a,xs,e,h _ _ q,DnL.same h ds xs r⟩
 |.tuple ds,_,⟨a,xs,e,q,r⟩=>⟨a,xs,e,h _ _ q,DnL.same h ds xs r⟩
 |.dict _,_,⟨e,a,q,r⟩=>⟨e,a,q,h _ _ r⟩
theorem DnL.same{H H':Hp}(h:Same H H'):∀(ds:List PyData)(xs:List V),DnL H ds xs→DnL H' ds xs
 |[],_,q=>q
 |d::ds,_,⟨x,r,e,q,z⟩=>⟨x,r,e,Dn.same h d x q,DnL.same h ds r z⟩
end
theorem DnL.length{H:Hp}:∀{ds:List PyData} {xs:List V},DnL H ds xs→ds.length=xs.length
 |[],_,q=>by cases(show _=[] from q);rfl
 |d::ds,_,⟨x,r,e,_,z⟩=>by rw[e,List.length_cons,List.length_cons,DnL.length z]
theorem DnL.get{H:Hp}:∀{ds:List PyData} {xs:List V} {i:Nat} {x:V},DnL H ds xs→xs[i]?=some x→∃d,ds[i]?=some d∧Dn H d x
 |[],_,i,x,q,e=>by rw[(show _=[] from q)] at e;simp at e
 |d::ds,_,0,x,⟨y,r,e,q,z⟩,h=>by rw[e] at h;cases h;exact⟨d,rfl,q⟩
 |d::ds,_,i+1,x,⟨y,r,e,q,z⟩,h=>by
  rw[e] at h
  obtain⟨d',h1,h2⟩:=DnL.get (i:=i) z (by simpa using h)
  exact⟨d',by simpa using h1,h2⟩
theorem DnL.get'{H:Hp}:∀{ds:List PyData} {xs:List V} {i:Nat} {d:PyData},DnL H ds xs→ds[i]?=some d→∃x,xs[i]?=some x∧Dn H d x
 |[],_,i,x,q,e=>by simp at e
 |d::ds,_,0,x,⟨y,r,e,q,z⟩,h=>by cases h;exact⟨y,by rw[e];rfl,q⟩
 |d::ds,_,i+1,x,⟨y,r,e,q,z⟩,h=>by
  obtain⟨d',h1,h2⟩:=DnL.get' (i:=i) z (by simpa using h)
  exact⟨d',by rw[e];simpa using h1,h2⟩
theorem DnL.append{H:Hp}:∀{ds es:List PyData} {xs ys:List V},DnL H ds xs→DnL H es ys→DnL H (ds++es) (xs++ys)
 |[],es,xs,ys,q,r=>by rw[(show xs=[] from q)];exact r
 |d::ds,es,_,ys,⟨x,t,e,q,z⟩,r=>⟨x,t++ys,by rw[e];rfl,q,DnL.append z r⟩
mutual
theorem Dn.reads{X:Cx}{pins:List (Addr×Obj)}{σ:St}{H:Hp}{s:Shared}(I:Inv X pins σ H s):∀(d:PyData)(v:V)(u:Value),Dn H d v→d.canLay0=true→RelV v u→∃as,Reads s.heap u d as
 |.none,v,u,q,_,r=>by cases(show v=.non from q);cases(show u=Value.none from r);exact⟨_,.none⟩
 |.bool b,v,u,q,_,r=>by cases(show v=.bl b from q);cases(show u=Value.bool b from r);exact⟨_,.bool b⟩
 |.int i,v,u,q,_,r=>by cases(show v=.int i from q);obtain⟨t,rfl⟩:=(show ∃t,u=Value.int i t from r);exact⟨_,.int i t⟩
 |.str x,v,u,q,_,r=>by cases(show v=.str x from q);obtain⟨t,rfl⟩:=(show ∃t,u=Value.str x t from r);exact⟨_,.str x t⟩
 |.list ds,_,u,⟨a,xs,rfl,q,z⟩,c,r=>by
  cases(show u=Value.ref a from r)
  obtain⟨_,its,n,rv,e⟩:=(show ObjOk X.prog X.w H s.heap a (.lst xs) from I.hok a _ q)
  obtain⟨as,ra⟩:=DnL.reads I ds xs its z (by simpa [PyData.canLay0] using c) rv
  exact⟨_,.list e rfl rfl (by simpa using ra)⟩
 |.tuple ds,_,u,⟨a,xs,rfl,q,z⟩,c,r=>by
  cases(show u=Value.ref a from r)
  obtain⟨_,its,rv,o,e,hc,n,hd⟩:=(show ObjOk X.prog X.w H s.heap a (.tup xs) from I.hok a _ q)
  obtain⟨as,ra⟩:=DnL.reads I ds xs its z (by simpa [PyData.canLay0] using c) rv
  exact⟨_,.tuple e hc hd (by simpa using ra)⟩
 |.dict k,v,u,_,c,_=>by simp[PyData.canLay0] at c
theorem DnL.reads{X:Cx}{pins:List (Addr×Obj)}{σ:St}{H:Hp}{s:Shared}(I:Inv X pins σ H s):∀(ds:List PyData)(xs:List V)(us:List Value),DnL H ds xs→PyData.canLayAll0 ds=true→Vals xs us→∃as,ReadsAll s.heap us ds as
 |[],xs,us,q,_,r=>by
  cases(show xs=[] from q)
  cases r
  exact⟨_,.nil⟩
 |d::ds,_,us,⟨x,t,rfl,q,z⟩,c,r=>by
  cases r with
  |cons rx rt=>
   have c':PyData.canLay0 d=true∧PyData.canLayAll0 ds=true:=by simpa [PyData.canLayAll0] using c
   obtain⟨a1,r1⟩:=Dn.reads I d x _ q c'.1 rx
   obtain⟨a2,r2⟩:=DnL.reads I ds t _ z c'.2 rt
   exact⟨_,.cons r1 r2⟩
end
theorem zh1{X:Cx}(hu:X.A.units+64<cLine):OpR X (compareOp .NotEq) (fun x y H Q=>∃d e:PyData,Dn H d x∧Dn H e y∧SeqAt.shaped d=true∧SeqAt.shaped e=true∧Q (.bl (!PyData.eqv d e)) H):=by
 intro pins s σ H x y v u Q I rx ry h
 obtain⟨d,e,hd,he,sd,se,q⟩:=h
 obtain⟨as,ra⟩:=Dn.reads I d x v hd (SeqAt.canLay_of_shaped sd) rx
 obtain⟨bs,rb⟩:=Dn.reads I e y u he (SeqAt.canLay_of_shaped se) ry
 exact ne_dataH ra rb sd se hu ⟨.bl _,H,I,rfl,q⟩
mutual
theorem zi5:∀d:PyData,d.canLay0=true→PyData.eqv d d=true
 |.none,_=>by simp[PyData.eqv]
 |.bool _,_=>by simp[PyData.eqv]
 |.int _,_=>by simp[PyData.eqv]
 |.str _,_=>by simp[PyData.eqv]
 |.list ds,c=>by simpa [PyData.eqv] using zgg ds (by simpa [PyData.canLay0] using c)
 |.tuple ds,c=>by simpa [PyData.eqv] using zgg ds (by simpa [PyData.canLay0] using c)
 |.dict _,c=>by simp[PyData.canLay0] at c
theorem zgg:∀ds:List PyData,PyData.canLayAll0 ds=true→PyData.eqvAll ds ds=true
 |[],_=>by simp[PyData.eqvAll]
 |d::ds,c=>by
  have c':PyData.canLay0 d=true∧PyData.canLayAll0 ds=true:=by simpa [PyData.canLayAll0] using c
  simp[PyData.eqvAll,zi5 d c'.1,zgg ds c'.2]
end
end L2
namespace Wd
open PySem L2
def isW:PyData→Bool
 |.int _=>true
 |_=>false
def within(d:PyData)(lo hi:Int):Bool:=match d with
 |.int i=>decide (lo≤i)&&decide (i≤hi)
 |_=>false
def zkf(d:PyData):Bool:=match d with
 |.tuple ds=>decide (0<ds.length)
 |_=>false
def zbs(many:Int):List PyData→Int→Bool
 |[],_=>true
 |.int i::ds,last=>decide (last+1≤i)&&decide (i≤many-1)&&zbs many ds i
 |_::_,_=>false
def zA9(many:Int):PyData→PyData→Bool
 |.int up,.tuple ks=>zbs many ks up
 |_,_=>false
def zAs(h:PyData):PyData→Bool
 |.tuple ks=>within h 1 ks.length
 |_=>false
def zA0(l:PyData):PyData→Bool
 |.int hi=>within l 0 hi
 |_=>false
def zf9(many:Int)(d:PyData):Bool:=match d with
 |.tuple [u,l,h,k]=>within u 0 (many-1)&&(zkf k&&(zA9 many u k&&(zAs h k&&zA0 l h)))
 |_=>false
def ztx:PyData→PyData
 |.tuple (x::_)=>x
 |_=>.none
def zjo:PyData→Bool
 |.tuple [_,n]=>isW n
 |_=>false
def zpx(many:Int)(d:PyData):Bool:=match d with
 |.tuple ds=>decide (0<ds.length)&&ds.all zjo&&zbs many (ds.map ztx) (-1)
 |_=>false
def neI:PyData→PyData→Bool
 |.int i,.int j=>!decide (i=j)
 |_,_=>false
def zti(many:Int)(s:Str)(x y:PyData):Bool:=if s=("most" : Str) then isW x&&zpx many y else if s=("needs" : Str)∨s=("bans" : Str) then within x 0 (many-1)&&(within y 0 (many-1)&&neI x y) else false
def zAg(many:Int)(x y:PyData):PyData→Bool
 |.str s=>zti many s x y
 |_=>false
def zk0(many:Int)(d:PyData):Bool:=match d with
 |.tuple [k,x,y]=>zAg many x y k
 |_=>false
def toI:PyData→Int
 |.int i=>i
 |_=>0
def zok:PyData→List Int
 |.tuple [_,_,_,.tuple ks]=>ks.map toI
 |_=>[]
structure zug(many:Int)(bs:List PyData):Prop where
 each:∀b∈bs,zf9 many b=true
 kids:(bs.flatMap zok).Perm ((List.range' 0 (many-1).toNat).map fun i:Nat=>(1:Int)+i)
theorem zai{H:Hp}{p:Addr}(h:H p=none)(o:HO):Same H (upd H p o):=zir fun b u q=>by rw[zaq (zax q h)];exact q
theorem small{n:Nat}(h:n≤1000):n≤sizeLine:=Nat.le_of_lt (zb0 h)
theorem zeg{H:Hp}{i:Int}{v:V}(h:Dn H (.int i) v):v=.int i:=h
theorem zcc{H:Hp}{ds:List PyData}{v:V}(h:Dn H (.tuple ds) v):∃a xs,v=.ref a∧H a=some (.tup xs)∧DnL H ds xs:=h
theorem zsf{d:PyData}(h:isW d=true):∃i,d=.int i:=by
 cases d<;>first|exact⟨_,rfl⟩|cases h
theorem sqT{K:PySem.W.Frag}{H:Hp}{a:Addr}{xs:List V}(h:H a=some (.tup xs)):SqT K H a xs:=.inl (.inl h)
theorem at0{x:V}{r:List V}:atI (x::r) 0=some x:=zcx (j:=0) rfl
theorem at1{x y:V}{r:List V}:atI (x::y::r) 1=some y:=zcx (j:=1) rfl
theorem at2{x y z:V}{r:List V}:atI (x::y::z::r) 2=some z:=zcx (j:=2) rfl
theorem at3{x y z w:V}{r:List V}:atI (x::y::z::w::r) 3=some w:=zcx (j:=3) rfl
theorem zej{d:PyData}{lo hi:Int}(h:within d lo hi=true):∃i,d=.int i∧lo≤i∧i≤hi:=by
 cases d with
 |int i=>
  have z:(decide (lo≤i)&&decide (i≤hi))=true:=h
  simp only[Bool.and_eq_true,decide_eq_true_eq] at z
  exact⟨i,rfl,z.1,z.2⟩
 |_=>cases h
theorem zqo{d:PyData}(h:zkf d=true):∃ds,d=.tuple ds∧0<ds.length:=by
 cases d with
 |tuple ds=>exact⟨ds,rfl,of_decide_eq_true h⟩
 |_=>cases h
theorem zqp{H:Hp}:∀{ns:List Int} {xs:List V},DnL H (ns.map PyData.int) xs→xs=ns.map V.int
 |[],xs,h=>h
 |n::r,_,⟨x,t,rfl,hx,ht⟩=>by rw[zqp ht,zeg hx];rfl
theorem zqi{H:Hp}:∀(ns:List Int),DnL H (ns.map PyData.int) (ns.map V.int)
 |[]=>rfl
 |n::r=>⟨_,_,rfl,rfl,zqi r⟩
end Wd
namespace Ow
open PySem L2 Wd
structure WoodAt(H:Hp)(wd:Addr)(many:Int)(xs ys:List V):Prop where
 ex:∃tb tc,H wd=some (.tup [.int many,.ref tb,.ref tc])∧H tb=some (.tup xs)∧H tc=some (.tup ys)
def zyl:Sp:=fun vs H Q _=>∃(wd:Addr)(many:Int)(xs ys:List V),vs=[.ref wd]∧WoodAt H wd many xs ys∧Q (.int ((xs.length:Int)+(ys.length:Int))) H
def zxy:Sp:=fun vs H Q _=>∃(wd:Addr)(many:Int)(xs ys:List V)(t:Nat)(v:V),vs=[.ref wd,.int t]∧WoodAt H wd many xs ys∧(xs++ys)[t]?=some v∧Q v H
theorem znr{α β:Type}{f:α→List β}{ds:List α}{i:Nat}{d:α}(h:ds[i]?=some d):(ds.take (i+1)).flatMap f=(ds.take i).flatMap f++f d:=by
 obtain⟨hi,e⟩:=List.getElem?_eq_some_iff.mp h
 rw[List.take_succ_eq_append_getElem hi,List.flatMap_append,e]
 simp
def zbd:Nat→PyData→Bool
 |_,.int _=>true
 |_,.str s=>PyData.strOk s
 |n+1,.tuple ds=>decide (ds.length≤1000)&&ds.all (zbd n)
 |_,_=>false
theorem zv6{many one x:Int}(h1:1<many)(h9:many≤9)(o0:0≤one)(o1:one<many)(x0:0≤x)(x1:x<many-1):0≤(one+1+x)%many∧(one+1+x)%many<many∧one≠(one+1+x)%many:=by
 have e:many=2∨many=3∨many=4∨many=5∨many=6∨many=7∨many=8∨many=9:=by omega
 rcases e with rfl|rfl|rfl|rfl|rfl|rfl|rfl|rfl<;>omega
theorem zr4:PyData.strOk ("most" : Str)=true:=by decide +kernel
theorem zjr:PyData.strOk ("needs" : Str)=true:=by decide +kernel
theorem zk6:PyData.strOk ("bans" : Str)=true:=by decide +kernel
structure PairsTo(H:Hp)(i:Nat)(ps:List PyData)(xs:List V):Prop where
 dn:DnL H ps xs
 ok:ps.all zjo=true
 flat:ps.all (zbd 1)=true
 ris:zbs (i:Int) (ps.map ztx) (-1)=true
 few:ps.length≤i
theorem zew{m m':Int}(h:m≤m'):∀{ks:List PyData} {u:Int},zbs m ks u=true→zbs m' ks u=true
 |[],_,_=>rfl
 |.int i::ks,u,z=>by
  have z':(decide (u+1≤i)&&decide (i≤m-1)&&zbs m ks i)=true:=z
  show(decide (u+1≤i)&&decide (i≤m'-1)&&zbs m' ks i)=true
  simp only[Bool.and_eq_true,decide_eq_true_eq] at z' ⊢
  exact⟨⟨z'.1.1,by omega⟩,zew h z'.2⟩
 |.none::_,_,z=>by cases z
 |.bool _::_,_,z=>by cases z
 |.str _::_,_,z=>by cases z
 |.list _::_,_,z=>by cases z
 |.tuple _::_,_,z=>by cases z
 |.dict _::_,_,z=>by cases z
theorem zez{m j:Int}(h:j<m):∀{ks:List PyData} {u:Int},zbs j ks u=true→u<j→zbs m (ks++[.int j]) u=true
 |[],u,_,hu=>by
  show(decide (u+1≤j)&&decide (j≤m-1)&&true)=true
  rw[decide_eq_true (by omega),decide_eq_true (by omega)]
  rfl
 |.int i::ks,u,z,hu=>by
  have z':(decide (u+1≤i)&&decide (i≤j-1)&&zbs j ks i)=true:=z
  show(decide (u+1≤i)&&decide (i≤m-1)&&zbs m (ks++[.int j]) i)=true
  simp only[Bool.and_eq_true,decide_eq_true_eq] at z' ⊢
  exact⟨⟨z'.1.1,by omega⟩,zez h z'.2 (by omega)⟩
 |.none::_,_,z,_=>by cases z
 |.bool _::_,_,z,_=>by cases z
 |.str _::_,_,z,_=>by cases z
 |.list _::_,_,z,_=>by cases z
 |.tuple _::_,_,z,_=>by cases z
 |.dict _::_,_,z,_=>by cases z
theorem DnL.keepT{H H':Hp}{f:PyData→Bool}(k:∀d v,f d=true→Dn H d v→Dn H' d v):∀(ds:List PyData)(xs:List V),ds.all f=true→DnL H ds xs→DnL H' ds xs
 |[],_,_,q=>q
 |d::ds,_,c,⟨x,r,e,q,z⟩=>by
  rw[List.all_cons,Bool.and_eq_true] at c
  exact⟨x,r,e,k d x c.1 q,DnL.keepT k ds r c.2 z⟩
theorem Dn.keepT{H H':Hp}(h:∀b xs,H b=some (.tup xs)→H' b=some (.tup xs)):∀(n:Nat)(d:PyData)(v:V),zbd n d=true→Dn H d v→Dn H' d v
 |_,.int _,_,_,q=>q
 |_,.str _,_,_,q=>q
 |n+1,.tuple ds,_,c,⟨p,xs,e,q,z⟩=>⟨p,xs,e,h _ _ q,DnL.keepT (Dn.keepT h n) ds xs ((Bool.and_eq_true _ _).mp c).2 z⟩
 |0,.tuple ds,_,c,_=>by cases c
 |0,.none,_,c,_=>by cases c
 |n+1,.none,_,c,_=>by cases c
 |0,.bool _,_,c,_=>by cases c
 |n+1,.bool _,_,c,_=>by cases c
 |0,.list _,_,c,_=>by cases c
 |n+1,.list _,_,c,_=>by cases c
 |0,.dict _,_,c,_=>by cases c
 |n+1,.dict _,_,c,_=>by cases c
theorem zq0{H:Hp}{p:Addr}{xs ys:List V}(h:H p=some (.lst xs)):∀b zs,H b=some (.tup zs)→upd H p (.lst ys) b=some (.tup zs):=fun b zs q=>by
 rw[zaq (zp8 q h (by intro z;cases z))]
 exact q
structure Grp where
 t:Addr
 up:Int
 l:Addr
 kids:List Int
structure GAt(H0 H:Hp)(g:Addr)(gs:List Grp):Prop where
 at_:H g=some (.lst (gs.map fun x=>V.ref x.t))
 new:H0 g=none
 tup:∀x∈gs,H x.t=some (.tup [.int x.up,.ref x.l])
 lst:∀x∈gs,H x.l=some (.lst (x.kids.map V.int))∧H0 x.l=none∧g≠x.l
 nd:(gs.map (·.l)).Nodup
structure GOk(k:Int)(gs:List Grp):Prop where
 each:∀x∈gs,0≤x.up∧x.kids≠[]∧zbs k (x.kids.map PyData.int) x.up=true
 perm:(gs.flatMap (·.kids)).Perm ((List.range' 0 (k-1).toNat).map fun i:Nat=>(1:Int)+i)
theorem GOk.few{k:Int}{gs:List Grp}(G:GOk k gs):gs.length≤(k-1).toNat:=by
 have e:=G.perm.length_eq
 rw[List.length_map,List.length_range'] at e
 rw[←e]
 have go:∀l:List Grp,(∀x∈l,x.kids≠[])→l.length≤(l.flatMap (·.kids)).length:=by
  intro l
  induction l with
  |nil=>intro _;exact Nat.le_refl _
  |cons x r ih=>
   intro h
   rw[List.flatMap_cons,List.length_append,List.length_cons]
   have h1:=List.length_pos_iff.mpr (h x List.mem_cons_self)
   have h2:=ih fun y hy=>h y (List.mem_cons_of_mem _ hy)
   omega
 exact go gs fun x hx=>(G.each x hx).2.1
theorem zlb(k:Nat):((List.range' 0 k).map fun i:Nat=>(1:Int)+i)++[((k:Int)+1)]=(List.range' 0 (k+1)).map fun i:Nat=>(1:Int)+i:=by
 rw[List.range'_concat,List.map_append]
 simp
 omega
theorem GOk.new{k:Nat}{gs:List Grp}{t l:Addr}{u:Int}(G:GOk ((k:Int)+1) gs)(u0:0≤u)(u1:u<(k:Int)+1):GOk ((k:Int)+2) (gs++[⟨t,u,l,[(k:Int)+1]⟩]) where
 each:=fun x hx=>by
  rcases List.mem_append.mp hx with z|z
  ·obtain⟨a,b,c⟩:=G.each x z
   exact⟨a,b,zew (by omega) c⟩
  ·rw[List.mem_singleton.mp z]
   refine⟨u0,by simp,?_⟩
   show(decide (u+1≤(k:Int)+1)&&decide ((k:Int)+1≤(k:Int)+2-1)&&true)=true
   rw[decide_eq_true (by omega),decide_eq_true (by omega)]
   rfl
 perm:=by
  rw[List.flatMap_append]
  have e:((k:Int)+2-1).toNat=k+1:=by omega
  have e':((k:Int)+1-1).toNat=k:=by omega
  have p:=G.perm
  rw[e'] at p
  rw[e,←zlb]
  exact p.append (by simp)
theorem GOk.put{k:Nat}{pre post:List Grp}{x:Grp}(G:GOk ((k:Int)+1) (pre++x::post)):GOk ((k:Int)+2) (pre++⟨x.t,x.up,x.l,x.kids++[(k:Int)+1]⟩::post) where
 each:=fun y hy=>by
  have old:∀z∈pre++x::post,0≤z.up∧z.kids≠[]∧zbs ((k:Int)+2) (z.kids.map PyData.int) z.up=true:=fun z hz=>by
   obtain⟨a,b,c⟩:=G.each z hz
   exact⟨a,b,zew (by omega) c⟩
  rcases List.mem_append.mp hy with z|z
  ·exact old y (List.mem_append_left _ z)
  ·rcases List.mem_cons.mp z with z|z
   ·subst z
    obtain⟨a,b,c⟩:=G.each x (by simp)
    refine⟨a,by simp,?_⟩
    show zbs ((k:Int)+2) ((x.kids++[(k:Int)+1]).map PyData.int) x.up=true
    rw[List.map_append]
    refine zez (by omega) c ?_
    cases hk:x.kids with
    |nil=>exact absurd hk b
    |cons n r=>
     rw[hk] at c
     have c':(decide (x.up+1≤n)&&decide (n≤(k:Int)+1-1)&&zbs ((k:Int)+1) (r.map PyData.int) n)=true:=c
     simp only[Bool.and_eq_true,decide_eq_true_eq] at c'
     omega
   ·exact old y (by simp[z])
 perm:=by
  have e:((k:Int)+2-1).toNat=k+1:=by omega
  have e':((k:Int)+1-1).toNat=k:=by omega
  have p:=G.perm
  rw[e'] at p
  rw[e,←zlb]
  refine List.Perm.trans ?_ (p.append (List.Perm.refl [((k:Int)+1)]))
  rw[List.flatMap_append,List.flatMap_append,List.flatMap_cons,List.flatMap_cons,List.append_assoc,List.append_assoc,List.append_assoc]
  exact(List.Perm.refl _).append ((List.Perm.refl _).append List.perm_append_comm)
theorem GAt.put{H0 H:Hp}{g:Addr}{pre post:List Grp}{x:Grp}{k:Int}(G:GAt H0 H g (pre++x::post)):GAt H0 (upd H x.l (.lst (x.kids.map V.int++[.int k]))) g (pre++⟨x.t,x.up,x.l,x.kids++[k]⟩::post):=by
 have hx:x∈pre++x::post:=by simp
 obtain⟨a,b,c⟩:=G.lst x hx
 have nd:=G.nd
 rw[List.map_append,List.map_cons] at nd
 obtain⟨_,n2,n3⟩:=List.nodup_append.mp nd
 have ad:∀y,y∈pre∨y∈post→y.l≠x.l:=fun y hy e=>by
  rcases hy with hy|hy
  ·exact n3 y.l (List.mem_map.mpr ⟨y,hy,rfl⟩) x.l (by simp) e
  ·exact(List.nodup_cons.mp n2).1 (by rw[←e];exact List.mem_map.mpr ⟨y,hy,rfl⟩)
 have mem:∀y∈pre++(⟨x.t,x.up,x.l,x.kids++[k]⟩:Grp)::post,(y∈pre∨y∈post)∨y=⟨x.t,x.up,x.l,x.kids++[k]⟩:=fun y hy=>by
  rcases List.mem_append.mp hy with z|z
  ·exact .inl (.inl z)
  ·rcases List.mem_cons.mp z with z|z
   ·exact .inr z
   ·exact .inl (.inr z)
 have old:∀y,y∈pre∨y∈post→y∈pre++x::post:=fun y hy=>by
  rcases hy with z|z<;>simp[z]
 refine⟨?_,G.new,fun y hy=>?_,fun y hy=>?_,?_⟩
 ·rw[zaq c,G.at_,List.map_append,List.map_append,List.map_cons,List.map_cons]
 ·rcases mem y hy with z|rfl
  ·rw[zaq (zp8 (G.tup y (old y z)) a (by intro q;cases q))]
   exact G.tup y (old y z)
  ·show upd H x.l _ x.t=_
   rw[zaq (zp8 (G.tup x hx) a (by intro q;cases q))]
   exact G.tup x hx
 ·rcases mem y hy with z|rfl
  ·obtain⟨a',b',c'⟩:=G.lst y (old y z)
   refine⟨?_,b',c'⟩
   rw[zaq (ad y z)]
   exact a'
  ·refine⟨?_,b,c⟩
   show upd H x.l _ x.l=_
   rw[zaf,List.map_append]
   rfl
 ·have e:(pre++(⟨x.t,x.up,x.l,x.kids++[k]⟩:Grp)::post).map (·.l)=(pre++x::post).map (·.l):=by
   rw[List.map_append,List.map_append,List.map_cons,List.map_cons]
  rw[e]
  exact G.nd
theorem GAt.same{H0 H H':Hp}{g:Addr}{gs:List Grp}(G:GAt H0 H g gs)(s:Same H H'):GAt H0 H' g gs:=
 ⟨s _ _ G.at_,G.new,fun x hx=>s _ _ (G.tup x hx),fun x hx=>⟨s _ _ (G.lst x hx).1,(G.lst x hx).2⟩,G.nd⟩
def zvk(u lo hi:Int)(kids:List Int):PyData:=.tuple [.int u,.int lo,.int hi,.tuple (kids.map PyData.int)]
theorem zzq{m u lo hi:Int}{kids:List Int}(u0:0≤u)(ne:kids≠[])(r:zbs m (kids.map PyData.int) u=true)(l0:0≤lo)(l1:lo≤hi)(h0:1≤hi)(h1:hi≤kids.length):zf9 m (zvk u lo hi kids)=true:=by
 have u1:u≤m-1:=by
  cases hk:kids with
  |nil=>exact absurd hk ne
  |cons n t=>
   rw[hk] at r
   have c':(decide (u+1≤n)&&decide (n≤m-1)&&zbs m (t.map PyData.int) n)=true:=r
   simp only[Bool.and_eq_true,decide_eq_true_eq] at c'
   omega
 show(within (.int u) 0 (m-1)&&(zkf (.tuple (kids.map PyData.int))&&(zbs m (kids.map PyData.int) u&&(within (.int hi) 1 ((kids.map PyData.int).length:Nat)&&within (.int lo) 0 hi))))=true
 have e1:within (.int u) 0 (m-1)=true:=by
  show(decide (0≤u)&&decide (u≤m-1))=true
  rw[decide_eq_true u0,decide_eq_true u1]
  rfl
 have e2:zkf (.tuple (kids.map PyData.int))=true:=by
  refine decide_eq_true ?_
  rw[List.length_map]
  exact List.length_pos_iff.mpr ne
 have e3:within (.int hi) 1 ((kids.map PyData.int).length:Nat)=true:=by
  show(decide (1≤hi)&&decide (hi≤((kids.map PyData.int).length:Nat)))=true
  rw[List.length_map,decide_eq_true h0,decide_eq_true h1]
  rfl
 have e4:within (.int lo) 0 hi=true:=by
  show(decide (0≤lo)&&decide (lo≤hi))=true
  rw[decide_eq_true l0,decide_eq_true l1]
  rfl
 rw[e1,e2,r,e3,e4]
 rfl
theorem zr7(kids:List Int):(kids.map PyData.int).all (zbd 1)=true:=by
 rw[List.all_eq_true]
 intro x hx
 obtain⟨i,_,rfl⟩:=List.mem_map.mp hx
 rfl
theorem zqh(u lo hi:Int)(kids:List Int)(h:kids.length≤1000):zbd 3 (zvk u lo hi kids)=true:=by
 show(true&&(true&&(true&&(true&&((decide ((kids.map PyData.int).length≤1000)&&(kids.map PyData.int).all (zbd 1))&&true)))))=true
 rw[zr7,List.length_map,decide_eq_true h]
 rfl
theorem zup(u lo hi:Int)(kids:List Int):zok (zvk u lo hi kids)=kids:=by
 show(kids.map PyData.int).map toI=kids
 rw[List.map_map]
 have:(toI∘PyData.int)=id:=rfl
 rw[this,List.map_id]
end Ow
namespace Wd
inductive Tie where
 |bough (u:Nat) (lo hi:Int) (ks:List Nat)
 |needs (a b:Nat)
 |bans (a b:Nat)
 |most (top:Int) (ps:List (Nat×Int))
def cnt(ks:List Nat)(s:Nat):Nat:=(ks.filter fun k=>s.testBit k).length
def zdv(ps:List (Nat×Int))(f:Nat×Int→Bool):Int:=((ps.filter f).map (·.2)).sum
def Tie.keep:Tie→Nat→Bool
 |.bough u lo hi ks,s=>if s.testBit u=true then decide (lo≤(cnt ks s:Int))&&decide ((cnt ks s:Int)≤hi) else decide (cnt ks s=0)
 |.needs a b,s=>!s.testBit a||s.testBit b
 |.bans a b,s=>!s.testBit a||!s.testBit b
 |.most top ps,s=>decide (zdv ps (fun p=>s.testBit p.1)≤top)
structure Tie.BoughOkW(m u:Nat)(lo hi:Int)(ks:List Nat):Prop where
 um:u<m
 ks0:ks≠[]
 up:∀k∈ks,u<k∧k<m
 ris:ks.Pairwise (·<·)
 few:ks.length≤m
 lo0:0≤lo
 lohi:lo≤hi
structure Tie.BoughOk(m u:Nat)(lo hi:Int)(ks:List Nat):Prop extends Tie.BoughOkW m u lo hi ks where
 hi1:1≤hi
 hik:hi≤ks.length
theorem Tie.BoughOkW.nd{m u:Nat}{lo hi:Int}{ks:List Nat}(h:Tie.BoughOkW m u lo hi ks):ks.Nodup:=h.ris.imp fun a=>Nat.ne_of_lt a
def Tie.Ok(m:Nat):Tie→Prop
 |.bough u lo hi ks=>Tie.BoughOkW m u lo hi ks
 |.needs a b=>a<m∧b<m∧a≠b
 |.bans a b=>a<m∧b<m∧a≠b
 |.most _ ps=>ps≠[]∧(∀p∈ps,p.1<m)∧(ps.map (·.1)).Pairwise (·<·)∧ps.length≤m
def InS(y n s:Nat):Prop:=(∀k,y.testBit k=true→s.testBit k=true)∧∀k,n.testBit k=true→s.testBit k=false
def zei(ps:List (Nat×Int))(y n:Nat):Int:=zdv ps fun p=>y.testBit p.1||(decide (p.2<0)&&!n.testBit p.1)
def zfm(ps:List (Nat×Int))(y n:Nat):Int:=zdv ps fun p=>y.testBit p.1||(decide (0<p.2)&&!n.testBit p.1)
def Tie.sb:Tie→Nat→Nat→Bool
 |.needs a b,y,n=>y.testBit a&&n.testBit b
 |.bans a b,y,n=>y.testBit a&&y.testBit b
 |.most top ps,y,n=>decide (top<zei ps y n)
 |.bough u lo hi ks,y,n=>!(!n.testBit u&&(decide ((cnt ks y:Int)≤hi)&&decide (lo≤(ks.length:Int)-cnt ks n)))&&!(!y.testBit u&&decide (cnt ks y=0))
def Tie.sk:Tie→Nat→Nat→Bool
 |.needs a b,y,n=>n.testBit a||y.testBit b
 |.bans a b,y,n=>n.testBit a||n.testBit b
 |.most top ps,y,n=>decide (zfm ps y n≤top)
 |.bough u lo hi ks,y,n=>(n.testBit u||(decide (lo≤(cnt ks y:Int))&&decide ((ks.length:Int)-cnt ks n≤hi)))&&(y.testBit u||decide ((ks.length:Int)-cnt ks n=0))
theorem zwy{u:Nat}{lo hi:Int}{ks:List Nat}{s:Nat}(h:s.testBit u=true):(Tie.bough u lo hi ks).keep s=(decide (lo≤(cnt ks s:Int))&&decide ((cnt ks s:Int)≤hi)):=by
 simp only[Tie.keep,h,if_true]
theorem zwu{u:Nat}{lo hi:Int}{ks:List Nat}{s:Nat}(h:¬s.testBit u=true):(Tie.bough u lo hi ks).keep s=decide (cnt ks s=0):=by
 simp only[Tie.keep,if_neg h]
theorem zmw(p:Nat×Int)(r:List (Nat×Int))(f:Nat×Int→Bool):zdv (p::r) f=(if f p=true then p.2 else 0)+zdv r f:=by
 unfold zdv
 by_cases h:f p=true
 ·rw[List.filter_cons_of_pos h,if_pos h];simp
 ·rw[List.filter_cons_of_neg h,if_neg h];simp
theorem zns{f g:Nat×Int→Bool}:∀{ps:List (Nat×Int)},(∀p∈ps,(if f p=true then p.2 else 0)≤(if g p=true then p.2 else 0))→zdv ps f≤zdv ps g
 |[],_=>Int.le_refl _
 |p::r,h=>by
  rw[zmw,zmw]
  have h1:=h p List.mem_cons_self
  have h2:=zns (ps:=r) fun q hq=>h q (List.mem_cons_of_mem _ hq)
  omega
theorem zo0{f g:Nat×Int→Bool}{ps:List (Nat×Int)}(h:∀p∈ps,f p=g p):zdv ps f=zdv ps g:=by
 unfold zdv
 rw[List.filter_congr h]
theorem zc7(k:Nat)(r:List Nat)(s:Nat):cnt (k::r) s=(if s.testBit k=true then 1 else 0)+cnt r s:=by
 unfold cnt
 by_cases h:s.testBit k=true
 ·rw[List.filter_cons_of_pos (p:=fun k=>s.testBit k) h,if_pos h,List.length_cons];omega
 ·rw[List.filter_cons_of_neg (p:=fun k=>s.testBit k) h,if_neg h];omega
theorem zhp{ks:List Nat}{s t:Nat}(h:∀k∈ks,s.testBit k=t.testBit k):cnt ks s=cnt ks t:=by
 unfold cnt
 rw[List.filter_congr h]
theorem zkr{s t:Nat}:∀{ks:List Nat},(∀k∈ks,s.testBit k=true→t.testBit k=true)→cnt ks s≤cnt ks t
 |[],_=>Nat.le_refl _
 |k::r,h=>by
  rw[zc7,zc7]
  have h2:=zkr (ks:=r) fun q hq=>h q (List.mem_cons_of_mem _ hq)
  have h1:=h k List.mem_cons_self
  by_cases c:s.testBit k=true
  ·rw[if_pos c,if_pos (h1 c)];omega
  ·rw[if_neg c];omega
theorem zhc{s n:Nat}:∀{ks:List Nat},(∀k∈ks,n.testBit k=true→s.testBit k=false)→cnt ks s+cnt ks n≤ks.length
 |[],_=>Nat.le_refl _
 |k::r,h=>by
  rw[zc7,zc7,List.length_cons]
  have h2:=zhc (ks:=r) fun q hq=>h q (List.mem_cons_of_mem _ hq)
  have h1:=h k List.mem_cons_self
  by_cases c:n.testBit k=true
  ·rw[h1 c,if_pos c];simp;omega
  ·rw[if_neg c];split<;>omega
def zbz:List Nat→Nat
 |[]=>0
 |k::r=>zbz r|||2^k
theorem zi8(j:Nat):∀l:List Nat,(zbz l).testBit j=decide (j∈l)
 |[]=>by simp[zbz]
 |k::r=>by
  rw[zbz,Nat.testBit_or,zi8 j r,Nat.testBit_two_pow]
  by_cases h:k=j
  ·subst h;simp
  ·have h':j≠k:=fun z=>h z.symm
   simp[h,h']
theorem zne{ps:List (Nat×Int)}(h:(ps.map (·.1)).Nodup){p q:Nat×Int}(hp:p∈ps)(hq:q∈ps)(e:p.1=q.1):p=q:=by
 induction ps with
 |nil=>cases hp
 |cons x r ih=>
  rw[List.map_cons,List.nodup_cons] at h
  rcases List.mem_cons.mp hp with e1|hp
  ·rcases List.mem_cons.mp hq with e2|hq
   ·rw[e1,e2]
   ·exact absurd (show x.1∈r.map (·.1) from List.mem_map.mpr ⟨q,hq,by rw[←e1,e]⟩) h.1
  ·rcases List.mem_cons.mp hq with e2|hq
   ·exact absurd (show x.1∈r.map (·.1) from List.mem_map.mpr ⟨p,hp,by rw[←e2,e]⟩) h.1
   ·exact ih h.2 hp hq
theorem zlj{m:Nat}{t:Tie}(ok:t.Ok m){s s':Nat}(h:∀k,k<m→s.testBit k=s'.testBit k):t.keep s=t.keep s':=by
 cases t with
 |bough u lo hi ks=>
  have e:cnt ks s=cnt ks s':=zhp fun k hk=>h k (ok.up k hk).2
  simp only[Tie.keep]
  rw[e,h u ok.um]
 |needs a b=>simp only[Tie.keep];rw[h a ok.1,h b ok.2.1]
 |bans a b=>simp only[Tie.keep];rw[h a ok.1,h b ok.2.1]
 |most top ps=>
  simp only[Tie.keep]
  rw[zo0 fun p hp=>h p.1 (ok.2.1 p hp)]
theorem zc8{y n:Nat}{l:List Nat}(d:∀k,y.testBit k=true→n.testBit k=false)(h:∀k∈l,n.testBit k=false):InS y n (y|||zbz l):=by
 refine⟨fun k hk=>?_,fun k hk=>?_⟩
 ·rw[Nat.testBit_or,hk,Bool.true_or]
 ·rw[Nat.testBit_or,zi8]
  have h1:y.testBit k=false:=by
   cases e:y.testBit k with
   |false=>rfl
   |true=>rw[d k e] at hk;cases hk
  have h2:¬k∈l:=fun z=>by rw[h k z] at hk;cases hk
  rw[h1,decide_eq_false h2];rfl
theorem zbl(y:Nat)(l:List Nat)(k:Nat):(y|||zbz l).testBit k=(y.testBit k||decide (k∈l)):=by
 rw[Nat.testBit_or,zi8]
theorem zhb{y:Nat}:∀{ks:List Nat},ks.Nodup→∀c:Nat,cnt ks y≤c→∀n:Nat,(∀k,y.testBit k=true→n.testBit k=false)→c+cnt ks n≤ks.length →
  ∃l:List Nat,(∀k∈l,k∈ks∧n.testBit k=false)∧cnt ks (y|||zbz l)=c
 |[],_,c,h1,n,_,h2=>⟨[],(fun _ z=>nomatch z),by simp[cnt] at h2 ⊢;omega⟩
 |k::r,nd,c,h1,n,d,h2=>by
  obtain⟨nk,nr⟩:=List.nodup_cons.mp nd
  rw[zc7] at h1 h2
  rw[List.length_cons] at h2
  by_cases hy:y.testBit k=true
  ·rw[if_pos hy] at h1
   have hn:=d k hy
   rw[hn] at h2
   obtain⟨l,hl,e⟩:=zhb nr (c-1) (by omega) n d (by simp at h2;omega)
   refine⟨l,fun j hj=>⟨List.mem_cons_of_mem _ (hl j hj).1,(hl j hj).2⟩,?_⟩
   rw[zc7,e,zbl,hy,Bool.true_or,if_pos rfl]
   omega
  ·rw[if_neg hy] at h1
   by_cases hn:n.testBit k=true
   ·rw[if_pos hn] at h2
    obtain⟨l,hl,e⟩:=zhb nr c (by omega) n d (by omega)
    refine⟨l,fun j hj=>⟨List.mem_cons_of_mem _ (hl j hj).1,(hl j hj).2⟩,?_⟩
    have:¬k∈l:=fun z=>nk (hl k z).1
    rw[zc7,e,zbl,Bool.eq_false_iff.mpr hy,decide_eq_false this]
    simp
   ·rw[if_neg hn] at h2
    by_cases full:c+cnt r n≤r.length
    ·obtain⟨l,hl,e⟩:=zhb nr c (by omega) n d full
     refine⟨l,fun j hj=>⟨List.mem_cons_of_mem _ (hl j hj).1,(hl j hj).2⟩,?_⟩
     have:¬k∈l:=fun z=>nk (hl k z).1
     rw[zc7,e,zbl,Bool.eq_false_iff.mpr hy,decide_eq_false this]
     simp
    ·have hc:cnt r y+cnt r n≤r.length:=zhc fun j _ hj=>by
      cases e:y.testBit j with
      |false=>rfl
      |true=>rw[d j e] at hj;cases hj
     obtain⟨l,hl,e⟩:=zhb nr (c-1) (by omega) n d (by omega)
     refine⟨k::l,fun j hj=>?_,?_⟩
     ·rcases List.mem_cons.mp hj with rfl|z
      ·exact⟨List.mem_cons_self,Bool.eq_false_iff.mpr hn⟩
      ·exact⟨List.mem_cons_of_mem _ (hl j z).1,(hl j z).2⟩
     ·have e2:cnt r (y|||zbz (k::l))=cnt r (y|||zbz l):=zhp fun j hj=>by
       have:j≠k:=fun z=>nk (z▸hj)
       rw[zbl,zbl]
       simp[this]
      rw[zc7,e2,e,zbl,decide_eq_true List.mem_cons_self,Bool.or_true,if_pos rfl]
      omega
theorem zus{m:Nat}{t:Tie}(ok:t.Ok m){y n:Nat}(d:∀k,y.testBit k=true→n.testBit k=false):t.sb y n=true↔∀s,InS y n s→t.keep s=false:=by
 have dn:∀k,n.testBit k=true→y.testBit k=false:=fun k hk=>by
  cases e:y.testBit k with
  |false=>rfl
  |true=>rw[d k e] at hk;cases hk
 cases t with
 |needs a b=>
  constructor
  ·intro h s hs
   have h':(y.testBit a&&n.testBit b)=true:=h
   rw[Bool.and_eq_true] at h'
   show(!s.testBit a||s.testBit b)=false
   rw[hs.1 a h'.1,hs.2 b h'.2];rfl
  ·intro h
   show(y.testBit a&&n.testBit b)=true
   cases e1:y.testBit a with
   |false=>
    have hh:=h y ⟨fun _ z=>z,dn⟩
    have h2:(!y.testBit a||y.testBit b)=false:=hh
    rw[e1] at h2;cases h2
   |true=>
    cases e2:n.testBit b with
    |true=>rfl
    |false=>
     have h2:(!(y|||zbz [b]).testBit a||(y|||zbz [b]).testBit b)=false:=h _ (zc8 d fun k hk=>by rw[List.mem_singleton.mp hk];exact e2)
     rw[zbl y [b] b,decide_eq_true (List.mem_singleton.mpr rfl),Bool.or_true,Bool.or_true] at h2
     cases h2
 |bans a b=>
  constructor
  ·intro h s hs
   have h':(y.testBit a&&y.testBit b)=true:=h
   rw[Bool.and_eq_true] at h'
   show(!s.testBit a||!s.testBit b)=false
   rw[hs.1 a h'.1,hs.1 b h'.2];rfl
  ·intro h
   have h2:(!y.testBit a||!y.testBit b)=false:=h y ⟨fun _ z=>z,dn⟩
   show(y.testBit a&&y.testBit b)=true
   cases e1:y.testBit a<;>cases e2:y.testBit b<;>rw[e1,e2] at h2<;>simp_all
 |most top ps=>
  constructor
  ·intro h s hs
   have h':top<zei ps y n:=of_decide_eq_true h
   refine decide_eq_false fun z=>?_
   have le:zei ps y n≤zdv ps (fun p=>s.testBit p.1):=zns fun p _=>by
    cases e1:y.testBit p.1 with
    |true=>rw[hs.1 _ e1];simp
    |false=>
     cases e2:n.testBit p.1 with
     |true=>rw[hs.2 _ e2];simp
     |false=>
      by_cases c:p.2<0
      ·simp[c];split<;>omega
      ·simp[c];split<;>omega
   omega
  ·intro h
   refine decide_eq_true ?_
   let l:=(ps.filter fun p=>decide (p.2<0)&&!n.testBit p.1).map (·.1)
   have hl:∀k∈l,n.testBit k=false:=fun k hk=>by
    obtain⟨p,hp,rfl⟩:=List.mem_map.mp hk
    have:=(List.mem_filter.mp hp).2
    simp at this
    exact this.2
   have h2:decide (zdv ps (fun p=>(y|||zbz l).testBit p.1)≤top)=false:=h _ (zc8 d hl)
   have e:zdv ps (fun p=>(y|||zbz l).testBit p.1)=zei ps y n:=zo0 fun p hp=>by
    show(y|||zbz l).testBit p.1=(y.testBit p.1||(decide (p.2<0)&&!n.testBit p.1))
    rw[zbl]
    congr 1
    by_cases c:(decide (p.2<0)&&!n.testBit p.1)=true
    ·rw[c]
     exact decide_eq_true (List.mem_map.mpr ⟨p,List.mem_filter.mpr ⟨hp,c⟩,rfl⟩)
    ·rw[Bool.eq_false_iff.mpr c]
     refine decide_eq_false fun z=>?_
     obtain⟨q,hq,e⟩:=List.mem_map.mp z
     have ad:=List.mem_filter.mp hq
     have:q=p:=zne (ok.2.2.1.imp fun a=>Nat.ne_of_lt a) ad.1 hp e
     rw[this] at ad
     exact c ad.2
   rw[e] at h2
   have:=of_decide_eq_false h2
   omega
 |bough u lo hi ks=>
  have c2:cnt ks y+cnt ks n≤ks.length:=zhc fun j _ hj=>dn j hj
  have uk:¬u∈ks:=fun z=>Nat.lt_irrefl _ (ok.up u z).1
  constructor
  ·intro h s hs
   have h':(!(!n.testBit u&&(decide ((cnt ks y:Int)≤hi)&&decide (lo≤(ks.length:Int)-cnt ks n)))&&!(!y.testBit u&&decide (cnt ks y=0)))=true:=h
   have g1:cnt ks y≤cnt ks s:=zkr fun k _ hk=>hs.1 k hk
   have g2:cnt ks s+cnt ks n≤ks.length:=zhc fun k _ hk=>hs.2 k hk
   show(if s.testBit u=true then decide (lo≤(cnt ks s:Int))&&decide ((cnt ks s:Int)≤hi) else decide (cnt ks s=0))=false
   rw[Bool.and_eq_true] at h'
   by_cases su:s.testBit u=true
   ·rw[if_pos su]
    have nu:n.testBit u=false:=by
     cases e:n.testBit u with
     |false=>rfl
     |true=>rw[hs.2 u e] at su;cases su
    have h1:=h'.1
    rw[nu] at h1
    simp at h1
    by_cases z:(cnt ks y:Int)≤hi
    ·rw[decide_eq_false (show ¬lo≤(cnt ks s:Int) by omega),Bool.false_and]
    ·rw[decide_eq_false (show ¬(cnt ks s:Int)≤hi by omega),Bool.and_false]
   ·rw[if_neg su]
    have yu:y.testBit u=false:=by
     cases e:y.testBit u with
     |false=>rfl
     |true=>exact absurd (hs.1 u e) su
    have h2:=h'.2
    rw[yu] at h2
    simp at h2
    exact decide_eq_false (by omega)
  ·intro h
   show(!(!n.testBit u&&(decide ((cnt ks y:Int)≤hi)&&decide (lo≤(ks.length:Int)-cnt ks n)))&&!(!y.testBit u&&decide (cnt ks y=0)))=true
   rw[Bool.and_eq_true]
   constructor
   ·cases e:(!n.testBit u&&(decide ((cnt ks y:Int)≤hi)&&decide (lo≤(ks.length:Int)-cnt ks n))) with
    |false=>rfl
    |true=>
     exfalso
     simp only[Bool.and_eq_true,decide_eq_true_eq,Bool.not_eq_true'] at e
     obtain⟨nu,e1,e2⟩:=e
     have ah:=ok.lo0
     have af:=ok.lohi
     obtain⟨l,hl,ec⟩:=zhb (Tie.BoughOkW.nd ok) (max (cnt ks y) lo.toNat) (Nat.le_max_left _ _) n d (by omega)
     have hk:=h (y|||zbz (u::l)) (zc8 d fun k hk=>by
      rcases List.mem_cons.mp hk with rfl|z
      ·exact nu
      ·exact(hl k z).2)
     have hb:(y|||zbz (u::l)).testBit u=true:=by rw[zbl,decide_eq_true List.mem_cons_self,Bool.or_true]
     have ae:cnt ks (y|||zbz (u::l))=max (cnt ks y) lo.toNat:=by
      rw[←ec]
      refine zhp fun j hj=>?_
      have:j≠u:=fun z=>uk (z▸hj)
      rw[zbl,zbl]
      simp[this]
     simp only[Tie.keep,hb,if_true,ae] at hk
     rw[decide_eq_true (by omega),decide_eq_true (by omega)] at hk
     cases hk
   ·cases e:(!y.testBit u&&decide (cnt ks y=0)) with
    |false=>rfl
    |true=>
     exfalso
     simp only[Bool.and_eq_true,decide_eq_true_eq,Bool.not_eq_true'] at e
     have hk:=h y ⟨fun _ z=>z,dn⟩
     simp[Tie.keep,e.1,e.2] at hk
theorem zy6{m:Nat}{t:Tie}(ok:t.Ok m){y n:Nat}(d:∀k,y.testBit k=true→n.testBit k=false):t.sk y n=true↔∀s,InS y n s→t.keep s=true:=by
 have dn:∀k,n.testBit k=true→y.testBit k=false:=fun k hk=>by
  cases e:y.testBit k with
  |false=>rfl
  |true=>rw[d k e] at hk;cases hk
 have ah:InS y n y:=⟨fun _ z=>z,dn⟩
 cases t with
 |needs a b=>
  constructor
  ·intro h s hs
   have h':(n.testBit a||y.testBit b)=true:=h
   show(!s.testBit a||s.testBit b)=true
   rcases Bool.or_eq_true _ _▸h' with z|z
   ·rw[hs.2 a z];rfl
   ·rw[hs.1 b z,Bool.or_true]
  ·intro h
   show(n.testBit a||y.testBit b)=true
   cases e1:n.testBit a with
   |true=>rfl
   |false=>
    have h2:(!(y|||zbz [a]).testBit a||(y|||zbz [a]).testBit b)=true:=h _ (zc8 d fun k hk=>by rw[List.mem_singleton.mp hk];exact e1)
    have ai:b≠a:=fun z=>ok.2.2 z.symm
    rw[zbl,zbl,decide_eq_true (List.mem_singleton.mpr rfl),decide_eq_false (by simp[ai]),Bool.or_true,Bool.or_false] at h2
    simpa using h2
 |bans a b=>
  constructor
  ·intro h s hs
   have h':(n.testBit a||n.testBit b)=true:=h
   show(!s.testBit a||!s.testBit b)=true
   rcases Bool.or_eq_true _ _▸h' with z|z
   ·rw[hs.2 a z];rfl
   ·rw[hs.2 b z];simp
  ·intro h
   show(n.testBit a||n.testBit b)=true
   cases e1:n.testBit a with
   |true=>rfl
   |false=>
    cases e2:n.testBit b with
    |true=>rfl
    |false=>
     have h2:(!(y|||zbz [a,b]).testBit a||!(y|||zbz [a,b]).testBit b)=true:=h _ (zc8 d fun k hk=>by
      rcases List.mem_cons.mp hk with rfl|hk
      ·exact e1
      ·rw[List.mem_singleton.mp hk];exact e2)
     rw[zbl,zbl] at h2
     simp at h2
 |most top ps=>
  constructor
  ·intro h s hs
   have h':zfm ps y n≤top:=of_decide_eq_true h
   refine decide_eq_true ?_
   have le:zdv ps (fun p=>s.testBit p.1)≤zfm ps y n:=zns fun p _=>by
    cases e1:y.testBit p.1 with
    |true=>rw[hs.1 _ e1];simp
    |false=>
     cases e2:n.testBit p.1 with
     |true=>rw[hs.2 _ e2];simp
     |false=>
      by_cases c:0<p.2
      ·simp[c];split<;>omega
      ·simp[c];split<;>omega
   omega
  ·intro h
   refine decide_eq_true ?_
   let l:=(ps.filter fun p=>decide (0<p.2)&&!n.testBit p.1).map (·.1)
   have hl:∀k∈l,n.testBit k=false:=fun k hk=>by
    obtain⟨p,hp,rfl⟩:=List.mem_map.mp hk
    have:=(List.mem_filter.mp hp).2
    simp at this
    exact this.2
   have h2:decide (zdv ps (fun p=>(y|||zbz l).testBit p.1)≤top)=true:=h _ (zc8 d hl)
   have e:zdv ps (fun p=>(y|||zbz l).testBit p.1)=zfm ps y n:=zo0 fun p hp=>by
    show(y|||zbz l).testBit p.1=(y.testBit p.1||(decide (0<p.2)&&!n.testBit p.1))
    rw[zbl]
    congr 1
    by_cases c:(decide (0<p.2)&&!n.testBit p.1)=true
    ·rw[c]
     exact decide_eq_true (List.mem_map.mpr ⟨p,List.mem_filter.mpr ⟨hp,c⟩,rfl⟩)
    ·rw[Bool.eq_false_iff.mpr c]
     refine decide_eq_false fun z=>?_
     obtain⟨q,hq,e⟩:=List.mem_map.mp z
     have af:=List.mem_filter.mp hq
     have:q=p:=zne (ok.2.2.1.imp fun a=>Nat.ne_of_lt a) af.1 hp e
     rw[this] at af
     exact c af.2
   rw[e] at h2
   exact of_decide_eq_true h2
 |bough u lo hi ks=>
  have c2:cnt ks y+cnt ks n≤ks.length:=zhc fun j _ hj=>dn j hj
  have uk:¬u∈ks:=fun z=>Nat.lt_irrefl _ (ok.up u z).1
  have ad:∀s,s.testBit u=true→Tie.keep (.bough u lo hi ks) s=(decide (lo≤(cnt ks s:Int))&&decide ((cnt ks s:Int)≤hi)):=fun s hs=>by
   simp only[Tie.keep,hs,if_true]
  have ae:∀s,s.testBit u=false→Tie.keep (.bough u lo hi ks) s=decide (cnt ks s=0):=fun s hs=>by
   simp[Tie.keep,hs]
  constructor
  ·intro h s hs
   have h':((n.testBit u||(decide (lo≤(cnt ks y:Int))&&decide ((ks.length:Int)-cnt ks n≤hi)))&&(y.testBit u||decide ((ks.length:Int)-cnt ks n=0)))=true:=h
   have g1:cnt ks y≤cnt ks s:=zkr fun k _ hk=>hs.1 k hk
   have g2:cnt ks s+cnt ks n≤ks.length:=zhc fun k _ hk=>hs.2 k hk
   rw[Bool.and_eq_true] at h'
   cases su:s.testBit u with
   |true=>
    rw[ad s su]
    have nu:n.testBit u=false:=by
     cases e:n.testBit u with
     |false=>rfl
     |true=>rw[hs.2 u e] at su;cases su
    have h1:=h'.1
    rw[nu,Bool.false_or,Bool.and_eq_true,decide_eq_true_eq,decide_eq_true_eq] at h1
    rw[decide_eq_true (show lo≤(cnt ks s:Int) by omega),decide_eq_true (by omega)];rfl
   |false=>
    rw[ae s su]
    have yu:y.testBit u=false:=by
     cases e:y.testBit u with
     |false=>rfl
     |true=>rw[hs.1 u e] at su;cases su
    have h2:=h'.2
    rw[yu,Bool.false_or,decide_eq_true_eq] at h2
    exact decide_eq_true (by omega)
  ·intro h
   show((n.testBit u||(decide (lo≤(cnt ks y:Int))&&decide ((ks.length:Int)-cnt ks n≤hi)))&&(y.testBit u||decide ((ks.length:Int)-cnt ks n=0)))=true
   obtain⟨l,hl,ec⟩:=zhb (Tie.BoughOkW.nd ok) (ks.length-cnt ks n) (by omega) n d (by omega)
   have lu:¬u∈l:=fun z=>uk (hl u z).1
   have same:∀l':List Nat,cnt ks (y|||zbz (u::l'))=cnt ks (y|||zbz l'):=fun l'=>zhp fun j hj=>by
    have:j≠u:=fun z=>uk (z▸hj)
    rw[zbl,zbl]
    simp[this]
   have one:∀l':List Nat,(y|||zbz (u::l')).testBit u=true:=fun l'=>by rw[zbl,decide_eq_true List.mem_cons_self,Bool.or_true]
   rw[Bool.and_eq_true]
   constructor
   ·cases nu:n.testBit u with
    |true=>rfl
    |false=>
     rw[Bool.false_or,Bool.and_eq_true,decide_eq_true_eq,decide_eq_true_eq]
     have k1:=h (y|||zbz (u::[])) (zc8 d fun k hk=>by rw[List.mem_singleton.mp hk];exact nu)
     have k2:=h (y|||zbz (u::l)) (zc8 d fun k hk=>by
      rcases List.mem_cons.mp hk with rfl|z
      ·exact nu
      ·exact(hl k z).2)
     rw[ad _ (one _),same] at k1 k2
     have z0:(y|||zbz [])=y:=by simp[zbz]
     rw[z0] at k1
     rw[ec] at k2
     simp only[Bool.and_eq_true,decide_eq_true_eq] at k1 k2
     omega
   ·cases yu:y.testBit u with
    |true=>rfl
    |false=>
     rw[Bool.false_or,decide_eq_true_eq]
     have k1:=h (y|||zbz l) (zc8 d fun k hk=>(hl k hk).2)
     rw[ae _ (by rw[zbl,yu,decide_eq_false lu];rfl),ec,decide_eq_true_eq] at k1
     omega
end Wd
namespace Wd
open PySem L2
def zix(p:Nat×Int):PyData:=.tuple [.int (p.1:Int),.int p.2]
def Tie.toD:Tie→PyData
 |.bough u lo hi ks=>.tuple [.int (u:Int),.int lo,.int hi,.tuple (ks.map fun k:Nat=>PyData.int (k:Int))]
 |.needs a b=>.tuple [.str ("needs" : Str),.int (a:Int),.int (b:Int)]
 |.bans a b=>.tuple [.str ("bans" : Str),.int (a:Int),.int (b:Int)]
 |.most top ps=>.tuple [.str ("most" : Str),.int top,.tuple (ps.map zix)]
theorem zgo{m:Nat}:∀{ks:List PyData} {last:Int},-1≤last→last<m→zbs m ks last=true →
  ∃ns:List Nat,ks=ns.map (fun k:Nat=>PyData.int (k:Int))∧ns.Pairwise (·<·)∧(∀k∈ns,last<(k:Int)∧k<m)∧(ns.length:Int)+last+1≤m
 |[],last,h0,h1,_=>⟨[],rfl,List.Pairwise.nil,(fun _ z=>nomatch z),by simp;omega⟩
 |.int i::ks,last,h0,h1,h=>by
  have z:(decide (last+1≤i)&&decide (i≤(m:Int)-1)&&zbs m ks i)=true:=h
  simp only[Bool.and_eq_true,decide_eq_true_eq] at z
  obtain⟨ns,e,pw,ab,ln⟩:=zgo (by omega) (by omega) z.2
  obtain⟨j,rfl⟩:∃j:Nat,i=(j:Int):=⟨i.toNat,by omega⟩
  refine⟨j::ns,by rw[e];rfl,List.Pairwise.cons (fun k hk=>?_) pw,fun k hk=>?_,?_⟩
  ·have:=(ab k hk).1;omega
  ·rcases List.mem_cons.mp hk with rfl|hk
   ·omega
   ·have:=ab k hk;omega
  ·rw[List.length_cons];omega
 |.none::_,_,_,_,h=>by cases h
 |.bool _::_,_,_,_,h=>by cases h
 |.str _::_,_,_,_,h=>by cases h
 |.list _::_,_,_,_,h=>by cases h
 |.tuple _::_,_,_,_,h=>by cases h
 |.dict _::_,_,_,_,h=>by cases h
theorem zow{m:Nat}{d:PyData}(h:zf9 m d=true):∃u lo hi ks,d=(Tie.bough u lo hi ks).toD∧Tie.BoughOk m u lo hi ks:=by
 unfold zf9 at h
 split at h
 next u l hd k=>
  simp only[Bool.and_eq_true] at h
  obtain⟨hu,hk,hr,hh,hl⟩:=h
  obtain⟨ui,rfl,u0,u1⟩:=zej hu
  obtain⟨kd,rfl,k0⟩:=zqo hk
  obtain⟨hi,rfl,h0,h1⟩:=zej (show within hd 1 kd.length=true from hh)
  obtain⟨lo,rfl,l0,l1⟩:=zej (show within l 0 hi=true from hl)
  obtain⟨un,rfl⟩:∃j:Nat,ui=(j:Int):=⟨ui.toNat,by omega⟩
  obtain⟨ns,rfl,pw,ab,ln⟩:=zgo (by omega) (by omega) (show zbs m kd un=true from hr)
  rw[List.length_map] at k0 h1
  exact⟨un,lo,hi,ns,rfl,⟨⟨by omega,fun z=>by rw[z] at k0;simp at k0,fun k hk=>by have:=ab k hk;omega,pw,by omega,l0,l1⟩,h0,h1⟩⟩
 next=>cases h
theorem zlk{m:Nat}:∀{ds:List PyData} {ns:List Nat},ds.all zjo=true→ds.map ztx=ns.map (fun k:Nat=>PyData.int (k:Int))→∃ps:List (Nat×Int),ds=ps.map zix∧ps.map (·.1)=ns
 |[],[],_,_=>⟨[],rfl,rfl⟩
 |[],_::_,_,e=>by cases e
 |_::_,[],_,e=>by cases e
 |d::ds,n::ns,h,e=>by
  rw[List.all_cons,Bool.and_eq_true] at h
  rw[List.map_cons,List.map_cons] at e
  injection e with e1 e2
  obtain⟨ps,rfl,rfl⟩:=zlk (m:=m) h.2 e2
  have h1:=h.1
  unfold zjo at h1
  split at h1
  next x y=>
   obtain⟨i,rfl⟩:=zsf h1
   refine⟨(n,i)::ps,?_,rfl⟩
   have e3:x=PyData.int (n:Int):=e1
   rw[e3]
   rfl
  next=>cases h1
theorem znw{m:Nat}{d:PyData}(h:zk0 m d=true):∃t:Tie,d=t.toD∧t.Ok m∧∀u lo hi ks,t≠.bough u lo hi ks:=by
 unfold zk0 at h
 split at h
 next k x y=>
  unfold zAg at h
  split at h
  next s=>
   unfold zti at h
   split at h
   next hs=>
    rw[Bool.and_eq_true] at h
    obtain⟨top,rfl⟩:=zsf h.1
    have h2:=h.2
    unfold zpx at h2
    split at h2
    next ds=>
     simp only[Bool.and_eq_true,decide_eq_true_eq] at h2
     obtain⟨⟨d0,dp⟩,dr⟩:=h2
     obtain⟨ns,e,pw,ab,ln⟩:=zgo (by omega) (by omega) dr
     obtain⟨ps,rfl,rfl⟩:=zlk (m:=m) dp e
     rw[List.length_map] at d0 ln
     refine⟨.most top ps,by rw[hs];rfl,⟨fun z=>by rw[z] at d0;simp at d0,fun p hp=>(ab p.1 (List.mem_map.mpr ⟨p,hp,rfl⟩)).2,pw,by omega⟩,by intro _ _ _ _ z;cases z⟩
    next=>cases h2
   next hs=>
    split at h
    next hn=>
     simp only[Bool.and_eq_true] at h
     obtain⟨ha,hb,ad⟩:=h
     obtain⟨a,rfl,a0,a1⟩:=zej ha
     obtain⟨b,rfl,b0,b1⟩:=zej hb
     have ne:¬a=b:=by
      have z:(!decide (a=b))=true:=ad
      simpa using z
     obtain⟨an,rfl⟩:∃j:Nat,a=(j:Int):=⟨a.toNat,by omega⟩
     obtain⟨bn,rfl⟩:∃j:Nat,b=(j:Int):=⟨b.toNat,by omega⟩
     rcases hn with rfl|rfl
     ·exact⟨.needs an bn,rfl,⟨by omega,by omega,by omega⟩,by intro _ _ _ _ z;cases z⟩
     ·exact⟨.bans an bn,rfl,⟨by omega,by omega,by omega⟩,by intro _ _ _ _ z;cases z⟩
    next=>cases h
  next=>cases h
 next=>cases h
theorem zAt(ks:List Nat):(ks.map fun k:Nat=>PyData.int (k:Int))=(ks.map fun k:Nat=>(k:Int)).map PyData.int:=by rw[List.map_map];rfl
theorem zss(ks:List Nat):(ks.map fun k:Nat=>(k:Int)).map V.int=ks.map fun k:Nat=>V.int (k:Int):=by rw[List.map_map];rfl
theorem zcu{H:Hp}{u:Nat}{lo hi:Int}{ks:List Nat}{v:V}(h:Dn H (Tie.bough u lo hi ks).toD v):∃p pk,v=.ref p∧H p=some (.tup [.int (u:Int),.int lo,.int hi,.ref pk])∧H pk=some (.tup (ks.map fun k:Nat=>V.int (k:Int))):=by
 obtain⟨p,xs,rfl,hp,xu,r1,rfl,hu,xl,r2,rfl,ah,xh,r3,rfl,hh,xk,r4,rfl,hk,ad⟩:=zcc h
 cases(show r4=[] from ad)
 cases zeg hu
 cases zeg ah
 cases zeg hh
 obtain⟨pk,ys,rfl,ae,af⟩:=zcc hk
 rw[zAt] at af
 rw[zqp af,zss] at ae
 exact⟨p,pk,rfl,hp,ae⟩
theorem zhg{H:Hp}{w:Str}{a b:Int}{v:V}(h:Dn H (.tuple [.str w,.int a,.int b]) v):∃p,v=.ref p∧H p=some (.tup [.str w,.int a,.int b]):=by
 obtain⟨p,xs,rfl,hp,xu,r1,rfl,hu,xl,r2,rfl,ae,xh,r3,rfl,hh,ad⟩:=zcc h
 cases(show r3=[] from ad)
 cases(show xu=.str w from hu)
 cases zeg ae
 cases zeg hh
 exact⟨p,rfl,hp⟩
theorem znp{H:Hp}{top:Int}{ps:List (Nat×Int)}{v:V}(h:Dn H (Tie.most top ps).toD v):∃p q xs,v=.ref p∧H p=some (.tup [.str ("most" : Str),.int top,.ref q])∧H q=some (.tup xs)∧DnL H (ps.map zix) xs:=by
 obtain⟨p,xs,rfl,hp,xu,r1,rfl,hu,xl,r2,rfl,af,xh,r3,rfl,hh,ad⟩:=zcc h
 cases(show r3=[] from ad)
 cases(show xu=.str ("most" : Str) from hu)
 cases zeg af
 obtain⟨q,ys,rfl,hq,ae⟩:=zcc hh
 exact⟨p,q,ys,rfl,hp,hq,ae⟩
theorem zkh{H:Hp}{ps:List (Nat×Int)}{xs:List V}(h:DnL H (ps.map zix) xs){i:Nat}{x:V}(hx:xs[i]?=some x):∃p r,ps[i]?=some p∧x=.ref r∧H r=some (.tup [.int (p.1:Int),.int p.2]):=by
 obtain⟨d,hd,ae⟩:=h.get hx
 rw[List.getElem?_map] at hd
 obtain⟨p,hp,rfl⟩:=Option.map_eq_some_iff.mp hd
 obtain⟨r,ys,rfl,hr,xa,r1,rfl,ha,xb,r2,rfl,hb,ad⟩:=zcc (show Dn H (.tuple [.int (p.1:Int),.int p.2]) x from ae)
 cases(show r2=[] from ad)
 cases zeg ha
 cases zeg hb
 exact⟨p,r,hp,rfl,hr⟩
def znj(n k:Int):Bool:=decide (0≤k)&&decide (n/2^k.toNat%2=1)
theorem za4(s u:Nat):znj (s:Int) (u:Int)=s.testBit u:=by
 unfold znj
 rw[decide_eq_true (by omega),Bool.true_and,Nat.testBit_eq_decide_div_mod_eq,Int.toNat_natCast]
 have e:((s:Int)/2^u%2=1)↔(s/2^u%2=1):=by
  have e3:(2:Int)^u=((2^u:Nat):Int):=by rw[Int.natCast_pow];rfl
  rw[e3]
  omega
 by_cases z:s/2^u%2=1
 ·rw[decide_eq_true z,decide_eq_true (e.mpr z)]
 ·rw[decide_eq_false z,decide_eq_false (fun y=>z (e.mp y))]
theorem zBc(n:Int)(k:Nat):Builtin.bitAnd (n/2^k) 1=n/2^k%2:=PySem.W.kbt_mask (n/2^k) 1
end Wd
namespace L2
open PySem PySem.Spec PyProof.Rows
theorem zxm{X:Cx}{st:List Stmt}{t:TS}(h:PSs X st t):∃t',PSs X st t'∧∀D σ H,t D σ H→t' D σ H:=⟨t,h,fun _ _ _ x=>x⟩
section
variable {X : Cx} {o e : Expr} {es : List Expr} {to : TE} {t : TA} {name : Str} {apos cpos : Pos} {T id : String} {r : V → List V → Hp → VK → Prop}
theorem zd0{K:PySem.W.Frag}(pa:PlainAttrs T)(slot:Slot T name id)(hty:typeOf (.builtin id)=pure (.type "method_descriptor"))(hm:MtR X id r)(ho:PE X o to)(ha:PA X (e::es) t)(hK:X.K=K:=by rfl)
  (hbase:attributeBase o name X.env (eval o X.env)=eval o X.env:=by rfl)
  (hfew:((backTo cpos (starEach (e::es) X.env)).all (fun x=>!x.1)&&(backToKw cpos (keywordEach [] X.env)).all (fun x=>x.1.isSome)&&decide ((e::es).length+([]:List Keyword).length+(if ([]:List Keyword).isEmpty then 0 else 1)<30))=true:=by rfl)
  (hline:(apos.endLine==cpos.line)=true:=by rfl) (hs:starEach (e::es) X.env=(false,eval e X.env)::starEach es X.env:=by rfl) (hplain:(backTo cpos (starEach es X.env)).any (·.1)=false:=by rfl):
  PE X (.Call (.Attribute o name apos) (e::es) [] cpos) (tBM K T r to t):=hK▸zAl pa slot hty hm ho ha hbase hfew hline hs hplain
theorem zxc{K:PySem.W.Frag}(pa:PlainAttrs T)(slot:Slot T name id)(hty:typeOf (.builtin id)=pure (.type "method_descriptor"))(hm:MtR X id r)(ho:PE X o to)(hK:X.K=K:=by rfl)
  (hbase:attributeBase o name X.env (eval o X.env)=eval o X.env:=by rfl) (hline:(apos.endLine==cpos.line)=true:=by rfl):PE X (.Call (.Attribute o name apos) [] [] cpos) (zAm K T r to):=hK▸zym pa slot hty hm ho hbase hline
end
theorem Room.lv{A:Around}{j k:Nat}(hr:Room k A)(h:j≤k:=by first|decide|omega):Room j A:=hr.mono h
structure Df(K:PySem.W.Frag)(mg:Str→Option Value)(x:Str)(st:Stmt)(f:Addr)(fd:FuncData)(ps:List Str):Prop extends Fun K x x st f fd where
 g:mg x=some (.ref f)
 B:Binds K fd ps []
theorem zac{X:Cx}{k:Nat}{f:Addr}{fd:FuncData}{ps:List Str}{sp:Sp}{x:Str}{p pos:Pos}{e:Expr}{es:List Expr}{t:TA}{st:Stmt}(F:FnOk X.prog X.w X.K X.mg X.base CX0 k f fd ps sp)(hr:Room k X.A)(hg:Gl X x)(D:Df X.K X.mg x st f fd ps)
  (ha:PA X (e::es) t) (hdb:(x==("__debug__" : Str))=false:=by decide) (he:starEach (e::es) X.env=(false,eval e X.env)::starEach es X.env:=by rfl) (hpl:(backTo pos (starEach es X.env)).any (·.1)=false:=by rfl):
  PE X (.Call (.Name x p) (e::es) [] pos) (zue sp [] E0 t):=zfz F hr hg D.g D.kp D.B .nil zlx ha hdb he hpl
theorem scm{N P:List Str}{sc:Scope}(a:sc.kind=.function)(b:sc.isCoroutine=false)(c:sc.isGenerator=false)(e:N.take P.length=P)(h:(decide N.Nodup&&(decide (∀x∈P,sc.names.lookup x=some .local∨sc.names.lookup x=some .cell)&&decide (∀y∈sc.names,y.2≠.free)))=true):zap N P sc:=by
 rw[Bool.and_eq_true,Bool.and_eq_true] at h
 exact⟨a,b,c,of_decide_eq_true h.1,e,of_decide_eq_true h.2.1,of_decide_eq_true h.2.2⟩
def Dk(K:PySem.W.Frag)(x:Str)(st:Stmt)(f:Addr)(fd:FuncData):Prop:=PySem.W.nsIn K mainGlobals x=some (some (.ref f))∧Fun K x x st f fd
section
variable {K : PySem.W.Frag} {x q : Str} {st : Stmt} {f C : Addr} {oc : Value} {od an : Option Addr} {osl : Array (Option Value)} {kV doc pm cdv ct : Value}
theorem dk(a:PySem.W.nsIn K mainGlobals x=some (some (.ref f)))(l:K.lookup f=some ⟨oc,od,.func (PySem.W.fnOf x x (zf1 st) (za8 st) (zag st) .none kV doc pm an cdv ct),osl⟩)(c:PySem.W.codeIn K cdv x=true)(k:PySem.W.keepIn K (.ref f)=true):
  Dk K x st f (PySem.W.fnOf x x (zf1 st) (za8 st) (zag st) .none kV doc pm an cdv ct):=⟨a,zzs l c k⟩
abbrev Bd(x q:Str)(st:Stmt)(us:List Value)(ps:List Str):Prop:=∀(kV doc pm:Value)(an:Option Addr)(cdv ct:Value),bindArgs (PySem.W.fnOf x q (zf1 st) (za8 st) (zag st) .none kV doc pm an cdv ct) ⟨us,[]⟩=pure (ps.zip us)
theorem Dk.df{h:Heap}{mg:Str→Option Value}{fd:FuncData}{ps:List Str}(X:K.In h)(G:h.Ns mainGlobals mg)(D:Dk K x st f fd)(b:∀us,us.length=ps.length→Bd x x st us ps):Df K mg x st f fd ps:=
 ⟨D.2,PySem.W.mg_of X G D.1,D.2.binds fun kV doc pm an cdv ct us hl=>b us hl kV doc pm an cdv ct⟩
theorem bd1{p:List Str}(h:∀a,Bd x q st [a] p):∀us:List Value,us.length=1→Bd x q st us p|[a],_=>h a
theorem bd2{p:List Str}(h:∀a b,Bd x q st [a,b] p):∀us:List Value,us.length=2→Bd x q st us p|[a,b],_=>h a b
theorem bd3{p:List Str}(h:∀a b c,Bd x q st [a,b,c] p):∀us:List Value,us.length=3→Bd x q st us p|[a,b,c],_=>h a b c
theorem bd4{p:List Str}(h:∀a b c d,Bd x q st [a,b,c,d] p):∀us:List Value,us.length=4→Bd x q st us p|[a,b,c,d],_=>h a b c d
theorem bd5{p:List Str}(h:∀a b c d e,Bd x q st [a,b,c,d,e] p):∀us:List Value,us.length=5→Bd x q st us p|[a,b,c,d,e],_=>h a b c d e
theorem zz2{fd:FuncData}{y:Str}(F:Fun K x q st f fd)(h:∀v,Bd x q st [v] [y])(s:Shared)(v:Value):BindsTo s fd ⟨[v],[]⟩ [(y,v)]:=by
 obtain⟨oc,od,kV,doc,pm,an,cdv,ct,osl,rfl,lk,ad⟩:=F.ex
 exact .of_eq (h v kV doc pm an cdv ct)
end
section
variable {X : Cx}
theorem pgT{K:PySem.W.Frag}{pos:Pos}{es:List Expr}{k:Nat}{t:TGs}{n:Nat}(hc:X.calm=true)(h:PGs X es t)(hn:(assignEach es X.env).length=n:=by rfl)(hst:(assignEach es X.env).findIdx? (·.1)=none:=by rfl)(hK:X.K=K:=by rfl):PG X (.Tuple es k pos) (zAe K n t):=hK▸zyx hc h hn hst
theorem zmz:zdf X (.type "range") (fun xs H Q=>∃j:Int,xs=[.int j]∧∀p,H p=none→Q (.ref p) (upd H p (.rng 0 j))):=by
 intro pins s σ H xs us Q I r h
 obtain⟨j,rfl,q⟩:=h
 obtain⟨u,rfl,⟨t,rfl⟩⟩:=zfb r
 refine call_range_1 ⟨.ref s.heap.objs.size,_,I.laid (fun b o e=>Heap.get?_push_of_some _ e) (Nat.le_refl _) (show ObjOk X.prog X.w _ _ _ (.rng 0 j) from⟨_,_,_,Heap.get?_push_size _ rfl⟩),rfl,q _ (I.hok.fresh (Nat.le_refl _))⟩
end
end L2
namespace Wd
open PySem L2
def zw7:Sp:=fun vs H Q _=>∃(t:Tie)(m n:Nat)(v:V),vs=[v,.int n]∧Dn H t.toD v∧t.Ok m∧m≤1000∧∀H',Same H H'→Q (.bl (t.keep n)) H'
def zsj(K:PySem.W.Frag):Sp:=fun vs H Q _=>∃(p:Addr)(ns:List Int),vs=[.ref p]∧SqL K H p (ns.map V.int)∧ns.length≤63∧∀H',Q (.bl true) H'
theorem zk7(k:Nat):decide (V.int (k:Int)=V.int 0)=decide (k=0):=by
 rw[zha]
 by_cases z:k=0
 ·rw[z];rfl
 ·rw[decide_eq_false z]
  simpa using z
theorem zvu(g:Int):decide (V.int g=V.int 0)=decide (g=0):=by
 rw[zha]
 by_cases z:g=0
 ·rw[z];rfl
 ·rw[decide_eq_false z]
  simpa using z
def zv1(f:Tie→Nat→Nat→Bool):Sp:=fun vs H Q _=>∃(t:Tie)(m y n:Nat)(v:V),vs=[v,.int y,.int n]∧Dn H t.toD v∧t.Ok m∧m≤1000∧∀H',Same H H'→Q (.bl (f t y n)) H'
def zsw(f:Tie→Nat→Nat→Bool):Sp:=fun vs H Q _=>∃(u:Nat)(lo hi:Int)(ks:List Nat)(m y n:Nat)(v:V),vs=[v,.int y,.int n]∧Dn H (Tie.bough u lo hi ks).toD v∧Tie.BoughOkW m u lo hi ks∧m≤1000∧∀H',Same H H'→Q (.bl (f (Tie.bough u lo hi ks) y n)) H'
def zwb(f:List (Nat×Int)→Nat→Nat→Int):Sp:=fun vs H Q _=>∃(q:Addr)(xs:List V)(ps:List (Nat×Int))(y n:Nat),vs=[.ref q,.int y,.int n]∧H q=some (.tup xs)∧DnL H (ps.map zix) xs∧ps.length≤1000∧∀H',Same H H'→Q (.int (f ps y n)) H'
theorem zmv{P:Tie→Prop}:∀{l:List PyData},(∀d∈l,∃t:Tie,d=t.toD∧P t)→∃ts:List Tie,l=ts.map Tie.toD∧∀t∈ts,P t
 |[],_=>⟨[],rfl,(fun _ z=>nomatch z)⟩
 |d::r,h=>by
  obtain⟨t,e,p⟩:=h d List.mem_cons_self
  obtain⟨ts,e2,p2⟩:=zmv fun x hx=>h x (List.mem_cons_of_mem _ hx)
  refine⟨t::ts,by rw[e,e2];rfl,fun x hx=>?_⟩
  rcases List.mem_cons.mp hx with rfl|z
  ·exact p
  ·exact p2 x z
theorem zry{H:Hp}{ts:List Tie}{xs:List V}(h:DnL H (ts.map Tie.toD) xs){i:Nat}{x:V}(hx:xs[i]?=some x):∃t,ts[i]?=some t∧Dn H t.toD x:=by
 obtain⟨d,hd,q⟩:=h.get hx
 rw[List.getElem?_map] at hd
 obtain⟨t,ht,rfl⟩:=Option.map_eq_some_iff.mp hd
 exact⟨t,ht,q⟩
theorem zdl{c A B:Prop}[Decidable c](hc:c)(h:A):if decide c=true then A else B:=by
 rw[decide_eq_true hc]
 exact zrb h
theorem zbm{c A B:Prop}[Decidable c](hc:¬c)(h:B):if decide c=true then A else B:=by
 rw[decide_eq_false hc]
 exact zga h
theorem zm4{c A B:Prop}[Decidable c](hc:¬c)(h:A):if (!decide c)=true then A else B:=by
 rw[decide_eq_false hc]
 exact zrb h
theorem zs2{b:Bool}{A B:Prop}(hc:b=true)(h:A):if b=true then A else B:=by
 rw[if_pos hc];exact h
theorem zkt{b:Bool}{A B:Prop}(hc:b=false)(h:B):if b=true then A else B:=by
 rw[hc];exact zga h
theorem zlv{x y:Str}(h:¬x=y):¬V.str x=V.str y:=fun z=>by injection z with z;exact h z
theorem zik:¬V.str ("bans" : Str)=V.str ("needs" : Str):=zlv (by decide +kernel)
theorem zij:¬V.str ("most" : Str)=V.str ("needs" : Str):=zlv (by decide +kernel)
theorem zjm:¬V.str ("most" : Str)=V.str ("bans" : Str):=zlv (by decide +kernel)
theorem int_str{i:Int}{x:Str}:¬V.int i=V.str x:=fun z=>by cases z
end Wd
namespace Wd
open PySem L2 Ow
structure WoodT(H:Hp)(wd:Addr)(m:Nat)(ts:List Tie):Prop where
 ex:∃xs ys,WoodAt H wd m xs ys∧DnL H (ts.map Tie.toD) (xs++ys)
 ok:∀t∈ts,t.Ok m
 few:ts.length≤900
 m9:m≤900
theorem WoodAt.same{H H':Hp}{wd:Addr}{m:Int}{xs ys:List V}(s:Same H H')(h:WoodAt H wd m xs ys):WoodAt H' wd m xs ys:=by
 obtain⟨tb,tc,h1,h2,h3⟩:=h.ex
 exact⟨tb,tc,s _ _ h1,s _ _ h2,s _ _ h3⟩
theorem WoodT.same{H H':Hp}{wd:Addr}{m:Nat}{ts:List Tie}(s:Same H H')(h:WoodT H wd m ts):WoodT H' wd m ts:=by
 obtain⟨xs,ys,h1,h2⟩:=h.ex
 exact⟨⟨xs,ys,WoodAt.same s h1,DnL.same s _ _ h2⟩,h.ok,h.few,h.m9⟩
def zge:Option Nat→V
 |none=>.non
 |some i=>.int (i:Int)
def firstB(ts:List Tie)(n:Nat):Option Nat:=ts.findIdx? fun t=>!t.keep n
def za0(ts:List Tie)(n:Nat):Bool:=n.testBit 0&&ts.all fun t=>t.keep n
theorem zpr{ts:List Tie}{n i:Nat}{t:Tie}(h:ts[i]?=some t)(hk:t.keep n=false)(hp:∀j x,j<i→ts[j]?=some x→x.keep n=true):firstB ts n=some i:=by
 unfold firstB
 rw[List.findIdx?_eq_some_iff_getElem]
 obtain⟨hi,e⟩:=List.getElem?_eq_some_iff.mp h
 refine⟨hi,by rw[e,hk];rfl,fun j hj=>?_⟩
 rw[hp j _ hj (List.getElem?_eq_getElem (by omega))]
 simp
theorem zp0{ts:List Tie}{n:Nat}(hp:∀j x,j<ts.length→ts[j]?=some x→x.keep n=true):firstB ts n=none:=by
 unfold firstB
 rw[List.findIdx?_eq_none_iff]
 intro x hx
 obtain⟨j,hj,rfl⟩:=List.getElem_of_mem hx
 rw[hp j _ hj (List.getElem?_eq_getElem hj)]
 rfl
theorem zjz(ts:List Tie)(n:Nat):za0 ts n=(n.testBit 0&&decide (firstB ts n=none)):=by
 unfold za0 firstB
 congr 1
 rw[Bool.eq_iff_iff,List.all_eq_true,decide_eq_true_eq,List.findIdx?_eq_none_iff]
 refine⟨fun h x hx=>by rw[h x hx];rfl,fun h x hx=>?_⟩
 have:=h x hx
 simpa using this
theorem zqr(o:Option Nat):decide (zge o=V.non)=decide (o=none):=by
 cases o<;>rfl
def zw0:Sp:=fun vs H Q _=>∃(wd:Addr)(m:Nat)(ts:List Tie),vs=[.ref wd]∧WoodT H wd m ts∧∀(l:Addr)(H':Hp),Same H H'→H l=none→H' l=some (.lst ((List.range ts.length).map fun i:Nat=>V.int (i:Int)))→Q (.ref l) H'
def zuq:Sp:=fun vs H Q _=>∃(wd:Addr)(m:Nat)(ts:List Tie)(n:Nat),vs=[.ref wd,.int n]∧WoodT H wd m ts∧∀H',Same H H'→Q (zge (firstB ts n)) H'
def zw4:Sp:=fun vs H Q _=>∃(wd:Addr)(m:Nat)(ts:List Tie)(n:Nat),vs=[.ref wd,.int n]∧WoodT H wd m ts∧∀H',Same H H'→Q (.bl (za0 ts n)) H'
theorem ztn{n i:Nat}{x:V}(h:((List.range n).map fun i:Nat=>V.int (i:Int))[i]?=some x):i<n∧x=.int (i:Int):=by
 rw[List.getElem?_map] at h
 obtain⟨j,hj,rfl⟩:=Option.map_eq_some_iff.mp h
 obtain⟨hi,e⟩:=List.getElem?_eq_some_iff.mp hj
 rw[List.length_range] at hi
 rw[List.getElem_range] at e
 exact⟨hi,by rw[e]⟩
end Wd
namespace Wd
theorem zqd:∀(k a b:Nat),(∀j,a.testBit j=true→b.testBit j=false)→(a+b).testBit k=(a.testBit k||b.testBit k)
 |k,a,b,h=>by
  have h0:=h 0
  rw[Nat.testBit_zero,Nat.testBit_zero] at h0
  have p:a%2+b%2≤1:=by
   by_cases z:a%2=1
   ·have:=h0 (decide_eq_true z)
    have:=of_decide_eq_false this
    omega
   ·omega
  cases k with
  |zero=>
   rw[Nat.testBit_zero,Nat.testBit_zero,Nat.testBit_zero]
   by_cases z:a%2=1
   ·rw[decide_eq_true z,decide_eq_true (by omega),Bool.true_or]
   ·rw[decide_eq_false z,Bool.false_or]
    by_cases y:b%2=1
    ·rw[decide_eq_true y,decide_eq_true (by omega)]
    ·rw[decide_eq_false y,decide_eq_false (by omega)]
  |succ k=>
   rw[Nat.testBit_add_one,Nat.testBit_add_one,Nat.testBit_add_one]
   have e:(a+b)/2=a/2+b/2:=by omega
   rw[e]
   refine zqd k (a/2) (b/2) fun j hj=>?_
   have:=h (j+1)
   rw[Nat.testBit_add_one,Nat.testBit_add_one] at this
   exact this hj
theorem zy4{a b:Nat}(h:∀j,a.testBit j=true→b.testBit j=false):a+b=a|||b:=
 Nat.eq_of_testBit_eq fun k=>by rw[zqd k a b h,Nat.testBit_or]
theorem zo7:∀(k y a:Nat),(∀j,a.testBit j=true→y.testBit j=true)→(y-a).testBit k=(y.testBit k&&!a.testBit k)
 |k,y,a,h=>by
  have le:a≤y:=by
   have e:a=a&&&y:=Nat.eq_of_testBit_eq fun j=>by
    rw[Nat.testBit_and]
    cases e:a.testBit j with
    |false=>rfl
    |true=>rw[h j e];rfl
   rw[e]
   exact Nat.and_le_right
  have h0:=h 0
  rw[Nat.testBit_zero,Nat.testBit_zero] at h0
  have p:a%2≤y%2:=by
   by_cases z:a%2=1
   ·have:=of_decide_eq_true (h0 (decide_eq_true z))
    omega
   ·omega
  cases k with
  |zero=>
   rw[Nat.testBit_zero,Nat.testBit_zero,Nat.testBit_zero]
   by_cases z:a%2=1
   ·rw[decide_eq_true z,decide_eq_false (by omega)];simp
   ·rw[decide_eq_false z]
    by_cases x:y%2=1
    ·rw[decide_eq_true x,decide_eq_true (by omega)];rfl
    ·rw[decide_eq_false x,decide_eq_false (by omega)];rfl
  |succ k=>
   rw[Nat.testBit_add_one,Nat.testBit_add_one,Nat.testBit_add_one]
   have e:(y-a)/2=y/2-a/2:=by omega
   rw[e]
   refine zo7 k (y/2) (a/2) fun j hj=>?_
   have:=h (j+1)
   rw[Nat.testBit_add_one,Nat.testBit_add_one] at this
   exact this hj
theorem ztw(a b:Nat):a|||b=a+(b-(a&&&b)):=by
 have hb:∀j,(b-(a&&&b)).testBit j=(b.testBit j&&!(a&&&b).testBit j):=fun j=>zo7 j b (a&&&b) fun i hi=>by
  rw[Nat.testBit_and,Bool.and_eq_true] at hi
  exact hi.2
 rw[zy4 fun j hj=>by rw[hb,Nat.testBit_and,hj];cases b.testBit j<;>rfl]
 refine Nat.eq_of_testBit_eq fun j=>?_
 rw[Nat.testBit_or,Nat.testBit_or,hb,Nat.testBit_and]
 cases a.testBit j<;>cases b.testBit j<;>rfl
theorem ziu(p:Nat→Bool)(i:Nat):(List.range (i+1)).filter p=(List.range i).filter p++(if p i=true then [i] else []):=by
 rw[List.range_succ,List.filter_append]
 congr 1
 by_cases h:p i=true<;>simp[h]
theorem zce(y k j:Nat):(y|||2^k).testBit j=(y.testBit j||decide (k=j)):=by rw[Nat.testBit_or,Nat.testBit_two_pow]
theorem inS_split{y n k s:Nat}:InS y n s↔InS (y|||2^k) n s∨InS y (n|||2^k) s:=by
 constructor
 ·rintro⟨h1,h2⟩
  cases e:s.testBit k with
  |true=>
   refine .inl ⟨fun j hj=>?_,h2⟩
   rw[zce,Bool.or_eq_true,decide_eq_true_eq] at hj
   rcases hj with z|rfl
   ·exact h1 j z
   ·exact e
  |false=>
   refine .inr ⟨h1,fun j hj=>?_⟩
   rw[zce,Bool.or_eq_true,decide_eq_true_eq] at hj
   rcases hj with z|rfl
   ·exact h2 j z
   ·exact e
 ·rintro(⟨h1,h2⟩|⟨h1,h2⟩)
  ·exact⟨fun j hj=>h1 j (by rw[zce,hj,Bool.true_or]),h2⟩
  ·exact⟨h1,fun j hj=>h2 j (by rw[zce,hj,Bool.true_or])⟩
theorem zu3{y n k:Nat}(d:∀j,y.testBit j=true→n.testBit j=false)(hn:n.testBit k=false):∀j,(y|||2^k).testBit j=true→n.testBit j=false:=fun j hj=>by
 rw[zce,Bool.or_eq_true,decide_eq_true_eq] at hj
 rcases hj with z|rfl
 ·exact d j z
 ·exact hn
theorem zut{y n k:Nat}(d:∀j,y.testBit j=true→n.testBit j=false)(hy:y.testBit k=false):∀j,y.testBit j=true→(n|||2^k).testBit j=false:=fun j hj=>by
 rw[zce,d j hj,Bool.false_or]
 exact decide_eq_false fun z=>by rw[←z,hy] at hj;cases hj
theorem zgy{y n:Nat}(d:∀j,y.testBit j=true→n.testBit j=false):InS y n y:=⟨fun _ z=>z,fun k hk=>by
 cases e:y.testBit k with
 |false=>rfl
 |true=>rw[d k e] at hk;cases hk⟩
theorem zks{m y n s:Nat}(full:∀k,k<m→(y|||n).testBit k=true)(hs:InS y n s)(d:∀j,y.testBit j=true→n.testBit j=false):∀k,k<m→s.testBit k=y.testBit k:=fun k hk=>by
 have h:=full k hk
 rw[Nat.testBit_or,Bool.or_eq_true] at h
 rcases h with z|z
 ·rw[z,hs.1 k z]
 ·rw[hs.2 k z,(zgy d).2 k z]
theorem zno{m:Nat}{t:Tie}(ok:t.Ok m){y n:Nat}(d:∀j,y.testBit j=true→n.testBit j=false)(full:∀k,k<m→(y|||n).testBit k=true):t.sb y n=!t.keep y:=by
 rw[Bool.eq_iff_iff,zus ok d,Bool.not_eq_true']
 constructor
 ·intro h
  exact h y (zgy d)
 ·intro h s hs
  rw[zlj ok (zks full hs d)]
  exact h
theorem zsx{m:Nat}{t:Tie}(ok:t.Ok m){y n:Nat}(d:∀j,y.testBit j=true→n.testBit j=false)(full:∀k,k<m→(y|||n).testBit k=true):t.sk y n=t.keep y:=by
 rw[Bool.eq_iff_iff,zy6 ok d]
 constructor
 ·intro h
  exact h y (zgy d)
 ·intro h s hs
  rw[zlj ok (zks full hs d)]
  exact h
end Wd
namespace L2
open PySem
theorem zed{k:Nat}{σ0:St}{H:Hp}{g:TG}{tc:TT}{te:TE}{Q:VK}(Pv:Nat→List V→St→Hp→Prop)(h0:Pv 0 [] σ0 H)(hz:∀i ys σ H,i≤k→Pv i ys σ H→ys.length≤sizeLine)
  (hs:∀i ys σ H,i<k→Pv i ys σ H→g (.int (i:Int)) σ H fun σ3 H3=>tc σ3 H3 fun b H4=>if b=true then te σ3 H4 fun v H5=>Pv (i+1) (ys++[v]) σ3 H5 else Pv (i+1) ys σ3 H4)
  (hd:∀ys σ H,Pv k ys σ H→∀p,H p=none→Q (.ref p) (upd H p (.lst ys))):
  zra (Itr 0 k) g tc te σ0 H Q:=
 zuj (lo:=0) Pv h0 hz (fun i ys σ H hi p=>by rw[Int.zero_add];exact hs i ys σ H hi p) hd
theorem zh7{n:Nat}{g:TG}{tb:TS}{D:zkx}{σ:St}{H:Hp}(Pv:Nat→St→Hp→Prop)(h0:Pv 0 σ H)
  (hs:∀i σ H,i<n→Pv i σ H→g (.int (i:Int)) σ H fun σ2 H2=>tb { D with nx:=Pv (i+1),ct:=Pv (i+1),bk:=D.nx } σ2 H2) (hd:∀σ H,Pv n σ H→D.nx σ H):
  ∃W:Nat→Nat→St→Hp→Prop,(∃m,W 0 m σ H)∧∀i m σ H,W i m σ H →
   ((Itr 0 n).stop i H∧D.nx σ H)∨((Itr 0 n).go i H∧∃N:St→Hp→Prop,(∀σ' H',N σ' H'→∃m',m'<m∧W (i+1) m' σ' H')∧∀x H',(Itr 0 n).yld i H x H'→g x σ H' fun σ2 H2=>tb { D with nx:=N,ct:=N,bk:=D.nx } σ2 H2):=
 zm1 (lo:=0) Pv h0 (fun i σ H hi p=>by rw[Int.zero_add];exact hs i σ H hi p) hd
end L2
namespace Wd
open PySem L2 Ow
theorem zkg(a b:Nat):Builtin.bitOr (a:Int) (b:Int)=((a|||b:Nat):Int):=by
 have le:a&&&b≤b:=Nat.and_le_right
 rw[PyProof.Rows.bitOr_and,PyProof.Rows.bitAnd_pp (by omega) (by omega),Int.toNat_natCast,Int.toNat_natCast,ztw]
 omega
theorem zs8(k:Nat):1*(2:Int)^((k:Nat):Int).toNat=((2^k:Nat):Int):=by
 rw[Int.one_mul,Int.toNat_natCast,Int.natCast_pow]
 rfl
theorem zp3(k:Nat):0<2^k:=Nat.pow_pos (by decide)
def KpX(pen:Addr)(H H':Hp)(b:Addr):HO→Prop
 |.tbl _=>(∃ps,H' b=some (.tbl ps))∧(zev H b→(∃ys,H pen=some (.lst ys))→zev H' b∧∃ys,H' pen=some (.lst ys))
 |o=>H' b=some o
def SameX(pen:Addr)(H H':Hp):Prop:=∀b o,b≠pen→H b=some o→KpX pen H H' b o
theorem KpX.some{pen:Addr}{H H':Hp}{b:Addr}{o:HO}(k:KpX pen H H' b o):∃u,H' b=some u:=by
 cases o
 case tbl ps=>exact⟨_,k.1.choose_spec⟩
 all_goals exact⟨_,k⟩
theorem SameX.refl(pen:Addr)(H:Hp):SameX pen H H:=fun _ o _ h=>by
 cases o
 case tbl ps=>exact⟨⟨_,h⟩,fun a b=>⟨a,b⟩⟩
 all_goals exact h
theorem SameX.trans{pen:Addr}{H H1 H2:Hp}(a:SameX pen H H1)(b:SameX pen H1 H2):SameX pen H H2:=fun c o n h=>by
 have z:=a c o n h
 cases o
 case tbl ps=>
  obtain⟨⟨qs,hq⟩,k⟩:=z
  obtain⟨q2,k2⟩:=b c _ n hq
  exact⟨q2,fun t y=>k2 (k t y).1 (k t y).2⟩
 all_goals exact b c _ n z
theorem Same.x{pen:Addr}{H H':Hp}(s:Same H H'):SameX pen H H':=fun b o _ h=>by
 have z:=s b o h
 cases o
 case tbl ps=>exact⟨z.1,fun t ⟨ys,y⟩=>⟨z.2 t,ys,s pen _ y⟩⟩
 all_goals exact z
theorem za1{pen:Addr}{H:Hp}(o:HO)(ho:∃ys,o=.lst ys:=by exact⟨_,rfl⟩):SameX pen H (upd H pen o):=fun b u n h=>by
 cases u
 case tbl ps=>
  refine⟨⟨ps,by rw[zaq n];exact h⟩,?_⟩
  rintro⟨qs,hq,tr,hp⟩ ⟨ys,hy⟩
  obtain⟨zs,rfl⟩:=ho
  refine⟨⟨qs,by rw[zaq n];exact hq,tr,fun pos=>?_⟩,⟨zs,zaf⟩⟩
  rcases hp pos with z|⟨c,z1,z2⟩
  ·exact .inl z
  ·refine .inr ⟨c,z1,?_⟩
   rw[zaq fun z=>by rw[z,hy] at z2;cases z2]
   exact z2
 all_goals (show upd H pen o b=_;rw[zaq n];exact h)
theorem Same.put{H H1:Hp}{p:Addr}{xs:List V}{o:HO}(s:Same H H1)(n:H p=none)(e:H1 p=some (.lst xs)):Same H (upd H1 p o):=fun b u hb=>by
 have ne:b≠p:=zax hb n
 have z:=s b u hb
 cases u
 case tbl ps=>
  refine⟨⟨z.1.choose,by rw[zaq ne];exact z.1.choose_spec⟩,fun t=>?_⟩
  obtain⟨qs,hq,tr,hp⟩:=z.2 t
  refine⟨qs,by rw[zaq ne];exact hq,tr,fun pos=>?_⟩
  rcases hp pos with y|⟨c,y1,y2⟩
  ·exact .inl y
  ·refine .inr ⟨c,y1,?_⟩
   rw[zaq fun z=>by rw[z,e] at y2;cases y2]
   exact y2
 all_goals (show upd H1 p o b=_;rw[zaq ne];exact z)
theorem SameX.put{pen:Addr}{H H1:Hp}{p:Addr}{xs:List V}{o:HO}(s:SameX pen H H1)(n:H p=none)(np:p≠pen)(e:H1 p=some (.lst xs)):SameX pen H (upd H1 p o):=fun b u nb hb=>by
 have ne:b≠p:=zax hb n
 have z:=s b u nb hb
 cases u
 case tbl ps=>
  refine⟨⟨z.1.choose,by rw[zaq ne];exact z.1.choose_spec⟩,fun t y=>?_⟩
  obtain⟨⟨qs,hq,tr,hp⟩,ys,hy⟩:=z.2 t y
  refine⟨⟨qs,by rw[zaq ne];exact hq,tr,fun pos=>?_⟩,ys,by rw[zaq (Ne.symm np)];exact hy⟩
  rcases hp pos with y|⟨c,y1,y2⟩
  ·exact .inl y
  ·refine .inr ⟨c,y1,?_⟩
   rw[zaq fun z=>by rw[z,e] at y2;cases y2]
   exact y2
 all_goals (show upd H1 p o b=_;rw[zaq ne];exact z)
theorem SameX.tab{pen P:Addr}{H H':Hp}{ys:List V}(s:SameX pen H H')(hp:H pen=some (.lst ys))(t:zev H P):zev H' P:=by
 obtain⟨ps,h,_⟩:=id t
 exact((s P _ (fun z=>by rw[z,hp] at h;cases h) h).2 t ⟨ys,hp⟩).1
theorem SameX.free{pen l:Addr}{H H':Hp}(s:SameX pen H H')(hp:∃o,H' pen=some o)(h:H' l=none):H l=none:=by
 cases q:H l with
 |none=>rfl
 |some o=>
  obtain⟨o',e⟩:=hp
  have n:l≠pen:=fun z=>by rw[z,e] at h;cases h
  obtain⟨u,z⟩:=(s l o n q).some
  rw[z] at h
  cases h
structure Pen(K:PySem.W.Frag)(H:Hp)(pen sp:Addr)(ns:List Int)(k:Int):Prop where
 at_:H pen=some (.lst [.ref sp,.int k])
 len:ns.length≤63
 scr:∀H',SameX pen H H'→SqL K H' sp (ns.map V.int)
theorem Pen.to{K:PySem.W.Frag}{H H':Hp}{pen sp:Addr}{ns:List Int}{k k':Int}(p:Pen K H pen sp ns k)(s:SameX pen H H')(e:H' pen=some (.lst [.ref sp,.int k'])):Pen K H' pen sp ns k':=
 ⟨e,p.len,fun H2 s2=>p.scr H2 (s.trans s2)⟩
theorem Dn.pen{H:Hp}{p:Addr}{xs ys:List V}(h:H p=some (.lst xs)){n:Nat}{d:PyData}{v:V}(f:zbd n d=true)(q:Dn H d v):Dn (upd H p (.lst ys)) d v:=Dn.keepT (zq0 h) n d v f q
theorem DnL.pen{H:Hp}{p:Addr}{xs ys:List V}(h:H p=some (.lst xs)){n:Nat}{ds:List PyData}{vs:List V}(f:ds.all (zbd n)=true)(q:DnL H ds vs):DnL (upd H p (.lst ys)) ds vs:=DnL.keepT (Dn.keepT (zq0 h) n) ds vs f q
def zmb(H H':Hp):Prop:=∀b xs,H b=some (.tup xs)→H' b=some (.tup xs)
theorem SameX.tup{pen:Addr}{H H':Hp}{ys:List V}(e:H pen=some (.lst ys))(s:SameX pen H H'):zmb H H':=fun b xs h=>s b _ (fun z=>by rw[z,e] at h;cases h) h
theorem DnL.tupS{H H':Hp}(t:zmb H H'){n:Nat}{ds:List PyData}{vs:List V}(f:ds.all (zbd n)=true)(q:DnL H ds vs):DnL H' ds vs:=DnL.keepT (Dn.keepT t n) ds vs f q
def zy7(K:PySem.W.Frag):Sp:=fun vs H Q _=>∃(pen sp:Addr)(ns:List Int)(most k:Int),vs=[.ref pen,.int most]∧Pen K H pen sp ns k∧0≤k∧k≤1000000∧0<most∧∀c:Int,0≤c→c<most→Q (.int c) (L2.upd H pen (.lst [.ref sp,.int (k+1)]))
theorem DnL.drop{H:Hp}:∀{ds:List PyData} {xs:List V} (t:Nat),DnL H ds xs→DnL H (ds.drop t) (xs.drop t)
 |_,_,0,h=>h
 |[],xs,t+1,h=>by rw[(show xs=[] from h)];exact rfl
 |d::ds,_,t+1,⟨x,r,e,q,z⟩=>by rw[e];exact DnL.drop t z
theorem DnL.take{H:Hp}:∀{ds:List PyData} {xs:List V} (t:Nat),DnL H ds xs→DnL H (ds.take t) (xs.take t)
 |_,_,0,h=>by rw[List.take_zero,List.take_zero];exact rfl
 |[],xs,t+1,h=>by rw[(show xs=[] from h)];exact rfl
 |d::ds,_,t+1,⟨x,r,e,q,z⟩=>by rw[e];exact⟨x,_,rfl,q,DnL.take t z⟩
structure WoodX(H:Hp)(wd:Addr)(m:Nat)(bs cs:List PyData):Prop where
 ex:∃xs ys,WoodAt H wd m xs ys∧DnL H bs xs∧DnL H cs ys
 gb:zug m bs
 gc:∀c∈cs,zk0 m c=true
 b8:bs.length≤9
 c8:cs.length≤20
 fb:bs.all (zbd 3)=true
 fc:cs.all (zbd 3)=true
 m1:1≤m
 m9:m≤9
theorem Same.tup{H H':Hp}(s:Same H H'):zmb H H':=fun b xs h=>s b _ h
theorem _root_.Ow.GAt.add2{H0 H:Hp}{g l t:Addr}{gs:List Grp}{u k:Int}(G:GAt H0 H g gs)(hf:H0 l=none)(hl:H l=none)(ht:upd H l (.lst [.int k]) t=none):
  GAt H0 (upd (upd (upd H l (.lst [.int k])) t (.tup [.int u,.ref l])) g (.lst ((gs.map fun x=>V.ref x.t)++[.ref t]))) g (gs++[⟨t,u,l,[k]⟩]):=by
 have ad:g≠l:=zax G.at_ hl
 have s1:=zai hl (.lst [.int k])
 have s2:=s1.trans (zai ht (.tup [.int u,.ref l]))
 have af:t≠l:=fun z=>by rw[z,zaf] at ht;cases ht
 have ae:g≠t:=zax (s1 _ _ G.at_) ht
 refine⟨?_,G.new,fun x hx=>?_,fun x hx=>?_,?_⟩
 ·rw[zaf,List.map_append]
  rfl
 ·rcases List.mem_append.mp hx with z|z
  ·rw[zaq (zp8 (G.tup x z) G.at_ (by intro q;cases q))]
   exact s2 _ _ (G.tup x z)
  ·rw[List.mem_singleton.mp z]
   show L2.upd _ g _ t=_
   rw[zaq (Ne.symm ae),zaf]
 ·rcases List.mem_append.mp hx with z|z
  ·obtain⟨a,b,c⟩:=G.lst x z
   refine⟨?_,b,c⟩
   rw[zaq (Ne.symm c)]
   exact s2 _ _ a
  ·rw[List.mem_singleton.mp z]
   refine⟨?_,hf,ad⟩
   show L2.upd _ g _ l=_
   rw[zaq (Ne.symm ad),zaq (Ne.symm af),zaf]
   rfl
 ·rw[List.map_append]
  refine List.nodup_append.mpr ⟨G.nd,by simp,fun x hx y hy=>?_⟩
  obtain⟨z,hz,rfl⟩:=List.mem_map.mp hx
  have e:y=l:=by simpa using hy
  rw[e]
  exact zax (G.lst z hz).1 hl
theorem _root_.Ow.GAt.pen{H0 H:Hp}{g pen:Addr}{gs:List Grp}{xs ys:List V}(G:GAt H0 H g gs)(h0:∃o,H0 pen=some o)(h:H pen=some (.lst xs)):GAt H0 (L2.upd H pen (.lst ys)) g gs:=by
 obtain⟨o,e0⟩:=h0
 refine⟨?_,G.new,fun x hx=>?_,fun x hx=>?_,G.nd⟩
 ·rw[zaq (fun z=>by rw[←z,G.new] at e0;cases e0)]
  exact G.at_
 ·rw[zaq (zp8 (G.tup x hx) h (by intro q;cases q))]
  exact G.tup x hx
 ·obtain⟨a,b,c⟩:=G.lst x hx
  refine⟨?_,b,c⟩
  rw[zaq (fun z=>by rw[←z,b] at e0;cases e0)]
  exact a
end Wd
namespace Wd
def zh3(ts:List Tie)(i s:Nat):Bool:=match ts[i]? with
 |some t=>t.keep s
 |none=>true
def zh8(ts:List Tie)(i y n:Nat):Bool:=match ts[i]? with
 |some t=>t.sb y n
 |none=>false
def za5(ts:List Tie)(il:List Nat)(y n:Nat):Option Nat:=il.find? fun i=>zh8 ts i y n
def zay(m y n:Nat):List Nat:=(List.range m).filter fun k=>!(y|||n).testBit k
theorem mem_open{m y n k:Nat}:k∈zay m y n↔k<m∧y.testBit k=false∧n.testBit k=false:=by
 unfold zay
 rw[List.mem_filter,List.mem_range,Bool.not_eq_true',Nat.testBit_or,Bool.or_eq_false_iff]
theorem zwj(m y n k:Nat):zay m (y|||2^k) n=(zay m y n).filter fun j=>!decide (k=j):=by
 unfold zay
 rw[List.filter_filter]
 refine List.filter_congr fun j _=>?_
 rw[Nat.testBit_or,zce,Nat.testBit_or]
 cases y.testBit j<;>cases n.testBit j<;>cases decide (k=j)<;>rfl
theorem zrg(m y n k:Nat):zay m y (n|||2^k)=(zay m y n).filter fun j=>!decide (k=j):=by
 unfold zay
 rw[List.filter_filter]
 refine List.filter_congr fun j _=>?_
 rw[Nat.testBit_or,zce,Nat.testBit_or]
 cases y.testBit j<;>cases n.testBit j<;>cases decide (k=j)<;>rfl
theorem zj1{l:List Nat}{k:Nat}(h:k∈l):(l.filter fun j=>!decide (k=j)).length<l.length:=by
 refine Nat.lt_of_le_of_ne (List.length_filter_le _ _) fun e=>?_
 have:=List.length_filter_eq_length_iff.mp e k h
 simp at this
theorem zc0{m y n k:Nat}(h:k∈zay m y n):(zay m (y|||2^k) n).length<(zay m y n).length:=by
 rw[zwj];exact zj1 h
theorem zc1{m y n k:Nat}(h:k∈zay m y n):(zay m y (n|||2^k)).length<(zay m y n).length:=by
 rw[zrg];exact zj1 h
theorem zb4(m y n:Nat):(zay m y n).length≤m:=by
 refine Nat.le_trans (List.length_filter_le _ _) ?_
 rw[List.length_range]
 exact Nat.le_refl _
theorem zrr{m y k:Nat}(h:y<2^m)(hk:k<m):y|||2^k<2^m:=by
 refine Nat.lt_pow_two_of_testBit _ fun i hi=>?_
 rw[zce,Nat.testBit_lt_two_pow (Nat.lt_of_lt_of_le h (Nat.pow_le_pow_right (by decide) hi)),Bool.false_or]
 exact decide_eq_false (by omega)
theorem zr5{x y:Nat}(k:Nat)(hx:x.testBit k=false)(hy:y.testBit k=true)(h:∀j,k<j→x.testBit j=y.testBit j):x<y:=by
 have e:x/2^(k+1)=y/2^(k+1):=Nat.eq_of_testBit_eq fun j=>by
  rw[←Nat.testBit_add,←Nat.testBit_add]
  exact h _ (by omega)
 have r1:x%2^(k+1)<2^k:=Nat.lt_pow_two_of_testBit _ fun i hi=>by
  rw[Nat.testBit_mod_two_pow]
  by_cases z:i=k
  ·rw[z,hx,Bool.and_false]
  ·rw[decide_eq_false (by omega),Bool.false_and]
 have r2:2^k≤y%2^(k+1):=Nat.ge_two_pow_of_testBit (by
  rw[Nat.testBit_mod_two_pow,hy,decide_eq_true (by omega)];rfl)
 have d1:=Nat.div_add_mod x (2^(k+1))
 have d2:=Nat.div_add_mod y (2^(k+1))
 rw[e] at d1
 omega
theorem zrx{m a b:Nat}(ha:a<2^m)(hb:b<2^m)(h:∀k,k<m→a.testBit k=b.testBit k):a=b:=by
 refine Nat.eq_of_testBit_eq fun k=>?_
 by_cases z:k<m
 ·exact h k z
 ·have:2^m≤2^k:=Nat.pow_le_pow_right (by decide) (by omega)
  rw[Nat.testBit_lt_two_pow (by omega),Nat.testBit_lt_two_pow (by omega)]
def zdp(ts:List Tie)(il:List Nat)(s:Nat):Bool:=il.all fun i=>zh3 ts i s
structure Stand(m y n:Nat):Prop where
 dj:∀k,y.testBit k=true→n.testBit k=false
 ym:y<2^m
 nm:n<2^m
theorem Stand.one{m y n k:Nat}(S:Stand m y n)(h:k∈zay m y n):Stand m (y|||2^k) n:=by
 obtain⟨km,ky,kn⟩:=mem_open.mp h
 exact⟨zu3 S.dj kn,zrr S.ym km,S.nm⟩
theorem Stand.other{m y n k:Nat}(S:Stand m y n)(h:k∈zay m y n):Stand m y (n|||2^k):=by
 obtain⟨km,ky,kn⟩:=mem_open.mp h
 exact⟨zut S.dj ky,S.ym,zrr S.nm km⟩
theorem znb{m:Nat}{ts:List Tie}(ok:∀t∈ts,t.Ok m){i y n s:Nat}(dj:∀k,y.testBit k=true→n.testBit k=false)(h:zh8 ts i y n=true)(hs:InS y n s):zh3 ts i s=false:=by
 unfold zh8 at h
 unfold zh3
 cases e:ts[i]? with
 |none=>rw[e] at h;cases h
 |some t=>
  rw[e] at h
  exact(zus (ok t (List.mem_of_getElem? e)) dj).mp h s hs
theorem zmr{m:Nat}{ts:List Tie}(ok:∀t∈ts,t.Ok m){i y n:Nat}(dj:∀k,y.testBit k=true→n.testBit k=false)(full:zay m y n=[])(h:zh8 ts i y n=false):zh3 ts i y=true:=by
 have hf:∀k,k<m→(y|||n).testBit k=true:=fun k hk=>by
  cases e:(y|||n).testBit k with
  |true=>rfl
  |false=>
   rw[Nat.testBit_or,Bool.or_eq_false_iff] at e
   have:=mem_open.mpr ⟨hk,e.1,e.2⟩
   rw[full] at this
   cases this
 unfold zh8 at h
 unfold zh3
 cases e:ts[i]? with
 |none=>rfl
 |some t=>
  rw[e] at h
  have h':t.sb y n=false:=h
  rw[zno (ok t (List.mem_of_getElem? e)) dj hf] at h'
  show t.keep y=true
  simpa using h'
theorem zlf{m y n s:Nat}(S:Stand m y n)(full:zay m y n=[])(hs:InS y n s)(sm:s<2^m):s=y:=by
 refine zrx sm S.ym fun k hk=>?_
 refine zks (m:=m) (fun j hj=>?_) hs S.dj k hk
 cases e:(y|||n).testBit j with
 |true=>rfl
 |false=>
  rw[Nat.testBit_or,Bool.or_eq_false_iff] at e
  have:=mem_open.mpr ⟨hj,e.1,e.2⟩
  rw[full] at this
  cases this
def zbt(ts:List Tie)(il:List Nat)(m:Nat):Nat→Nat→Nat→Option Nat
 |f,y,n=>if (za5 ts il y n).isSome=true then none else match (zay m y n).getLast?,f with
  |none,_=>some y
  |some _,0=>none
  |some k,f+1=>match zbt ts il m f y (n|||2^k) with
   |some s=>some s
   |none=>zbt ts il m f (y|||2^k) n
def FirstK(ts:List Tie)(il:List Nat)(m y n:Nat):Option Nat→Prop
 |some s=>s<2^m∧InS y n s∧zdp ts il s=true∧∀s',s'<2^m→InS y n s'→zdp ts il s'=true→s≤s'
 |none=>∀s',s'<2^m→InS y n s'→zdp ts il s'=false
theorem zf5{ts:List Tie}{il:List Nat}{y n i:Nat}(h:za5 ts il y n=some i):i∈il∧zh8 ts i y n=true:=
 ⟨List.mem_of_find?_eq_some h,List.find?_some (p:=fun i=>zh8 ts i y n) h⟩
theorem zd6{ts:List Tie}{il:List Nat}{y n:Nat}(h:za5 ts il y n=none):∀i∈il,zh8 ts i y n=false:=fun i hi=>by
 have:=List.find?_eq_none.mp h i hi
 simpa using this
theorem zmp{m y n k:Nat}(h:(zay m y n).getLast?=some k):k∈zay m y n∧∀j∈zay m y n,j≤k:=by
 have hp:(zay m y n).Pairwise (·<·):=List.pairwise_lt_range.filter _
 refine⟨List.mem_of_getLast? h,fun j hj=>?_⟩
 obtain⟨l,e⟩:=List.getLast?_eq_some_iff.mp h
 rw[e] at hp hj
 rcases List.mem_append.mp hj with z|z
 ·exact Nat.le_of_lt ((List.pairwise_append.mp hp).2.2 j z k (List.mem_singleton.mpr rfl))
 ·exact Nat.le_of_eq (List.mem_singleton.mp z)
theorem zcl{m:Nat}{ts:List Tie}{il:List Nat}(ok:∀t∈ts,t.Ok m):∀(f y n:Nat),(zay m y n).length≤f→Stand m y n→FirstK ts il m y n (zbt ts il m f y n)
 |f,y,n,hf,S=>by
  unfold zbt
  cases hb:za5 ts il y n with
  |some i=>
   obtain⟨hi,hsb⟩:=zf5 hb
   intro s' sm hs
   cases e:zdp ts il s' with
   |false=>rfl
   |true=>
    have:=(List.all_eq_true.mp e) i hi
    rw[znb ok S.dj hsb hs] at this
    cases this
  |none=>
   have hn:=zd6 hb
   simp only[Option.isSome_none,Bool.false_eq_true,if_false]
   cases hl:(zay m y n).getLast? with
   |none=>
    have full:zay m y n=[]:=List.getLast?_eq_none_iff.mp hl
    refine⟨S.ym,zgy S.dj,List.all_eq_true.mpr fun i hi=>zmr ok S.dj full (hn i hi),fun s' sm hs _=>?_⟩
    rw[zlf S full hs sm]
    exact Nat.le_refl _
   |some k=>
    obtain⟨hk,hmax⟩:=zmp hl
    cases f with
    |zero=>rw[List.eq_nil_of_length_eq_zero (Nat.le_zero.mp hf)] at hk;cases hk
    |succ f=>
     have l1:=zc0 hk
     have l2:=zc1 hk
     have i1:=zcl (il:=il) ok f y (n|||2^k) (by omega) (S.other hk)
     have i2:=zcl (il:=il) ok f (y|||2^k) n (by omega) (S.one hk)
     dsimp only
     cases h1:zbt ts il m f y (n|||2^k) with
     |some s=>
      rw[h1] at i1
      obtain⟨a1,a2,a3,a4⟩:=i1
      refine⟨a1,inS_split.mpr (.inr a2),a3,fun s' sm hs hk'=>?_⟩
      rcases(inS_split (k:=k)).mp hs with z|z
      ·have kt:s'.testBit k=true:=z.1 k (by rw[zce,decide_eq_true rfl,Bool.or_true])
       have kf:s.testBit k=false:=a2.2 k (by rw[zce,decide_eq_true rfl,Bool.or_true])
       refine Nat.le_of_lt (zr5 k kf kt fun j hj=>?_)
       by_cases jm:j<m
       ·have hno:¬j∈zay m y n:=fun z=>by have:=hmax j z;omega
        have hyn:y.testBit j=true∨n.testBit j=true:=by
         cases ey:y.testBit j with
         |true=>exact .inl rfl
         |false=>
          cases en:n.testBit j with
          |true=>exact .inr rfl
          |false=>exact absurd (mem_open.mpr ⟨jm,ey,en⟩) hno
        have ad:=inS_split.mpr (.inr a2)
        rcases hyn with e|e
        ·rw[ad.1 j e,hs.1 j e]
        ·rw[ad.2 j e,hs.2 j e]
       ·have:2^m≤2^j:=Nat.pow_le_pow_right (by decide) (by omega)
        rw[Nat.testBit_lt_two_pow (by omega),Nat.testBit_lt_two_pow (by omega)]
      ·exact a4 s' sm z hk'
     |none=>
      rw[h1] at i1
      show FirstK ts il m y n (zbt ts il m f (y|||2^k) n)
      cases h2:zbt ts il m f (y|||2^k) n with
      |some s=>
       rw[h2] at i2
       obtain⟨a1,a2,a3,a4⟩:=i2
       refine⟨a1,inS_split.mpr (.inl a2),a3,fun s' sm hs hk'=>?_⟩
       rcases(inS_split (k:=k)).mp hs with z|z
       ·exact a4 s' sm z hk'
       ·rw[i1 s' sm z] at hk'
        cases hk'
      |none=>
       rw[h2] at i2
       intro s' sm hs
       rcases(inS_split (k:=k)).mp hs with z|z
       ·exact i2 s' sm z
       ·exact i1 s' sm z
theorem FirstK.unique{ts:List Tie}{il:List Nat}{m y n:Nat}{a b:Option Nat}(ha:FirstK ts il m y n a)(hb:FirstK ts il m y n b):a=b:=by
 cases a with
 |none=>
  cases b with
  |none=>rfl
  |some s=>have:=ha s hb.1 hb.2.1;rw[hb.2.2.1] at this;cases this
 |some s=>
  cases b with
  |none=>have:=hb s ha.1 ha.2.1;rw[ha.2.2.1] at this;cases this
  |some s'=>
   have h1:=ha.2.2.2 s' hb.1 hb.2.1 hb.2.2.1
   have h2:=hb.2.2.2 s ha.1 ha.2.1 ha.2.2.1
   rw[Nat.le_antisymm h1 h2]
theorem zqn{ts:List Tie}{il:List Nat}{m f y n k:Nat}(hb:za5 ts il y n=none)(ho:(zay m y n).getLast?=some k):zbt ts il m (f+1) y n=(match zbt ts il m f y (n|||2^k) with|some s=>some s|none=>zbt ts il m f (y|||2^k) n):=by
 conv=>lhs;unfold zbt
 simp only[hb,ho,Option.isSome_none,Bool.false_eq_true,if_false]
theorem zrl{ts:List Tie}{il:List Nat}{m f y n:Nat}(hb:za5 ts il y n=none)(ho:zay m y n=[]):zbt ts il m f y n=some y:=by
 unfold zbt
 simp[hb,ho]
theorem zn0{ts:List Tie}{il:List Nat}{m f y n i:Nat}(hb:za5 ts il y n=some i):zbt ts il m f y n=none:=by
 unfold zbt
 simp[hb]
inductive CT where
 |broken (t:Nat)
 |ware
 |split (k:Nat) (one other:CT)
def zbo(ts:List Tie)(il:List Nat)(m:Nat):Nat→Nat→Nat→CT
 |f,y,n=>match za5 ts il y n with
  |some t=>.broken t
  |none=>match zay m y n,f with
   |[],_=>.ware
   |_::_,0=>.ware
   |k::_,f+1=>.split k (zbo ts il m f (y|||2^k) n) (zbo ts il m f y (n|||2^k))
theorem zi3{ts:List Tie}{il r:List Nat}{m f y n k:Nat}(hb:za5 ts il y n=none)(ho:zay m y n=k::r):zbo ts il m (f+1) y n=.split k (zbo ts il m f (y|||2^k) n) (zbo ts il m f y (n|||2^k)):=by
 conv=>lhs;unfold zbo
 simp only[hb,ho]
theorem zjx{ts:List Tie}{il:List Nat}{m f y n:Nat}(hb:za5 ts il y n=none)(ho:zay m y n=[]):zbo ts il m f y n=.ware:=by
 unfold zbo
 simp[hb,ho]
theorem zhz{ts:List Tie}{il:List Nat}{m f y n i:Nat}(hb:za5 ts il y n=some i):zbo ts il m f y n=.broken i:=by
 unfold zbo
 simp[hb]
def CT.leaves:CT→Nat→List Nat
 |.broken _,_=>[]
 |.ware,y=>[y]
 |.split k a b,y=>a.leaves (y|||2^k)++b.leaves y
def CT.depth:CT→Nat
 |.broken _=>0
 |.ware=>0
 |.split _ a b=>max a.depth b.depth+1
def CT.small:CT→Prop
 |.broken _=>True
 |.ware=>True
 |.split k a b=>k≤1000∧a.small∧b.small
theorem zf7{ts:List Tie}{il:List Nat}{m:Nat}(hm:m≤1000):∀(f y n:Nat),(zbo ts il m f y n).small
 |f,y,n=>by
  unfold zbo
  cases za5 ts il y n with
  |some t=>trivial
  |none=>
   dsimp only
   cases hl:zay m y n with
   |nil=>trivial
   |cons k r=>
    cases f with
    |zero=>trivial
    |succ f=>
     have hk:k∈zay m y n:=by rw[hl];exact List.mem_cons_self
     have:=(mem_open.mp hk).1
     exact⟨by omega,zf7 hm f (y|||2^k) n,zf7 hm f y (n|||2^k)⟩
theorem zfq:∀(t:CT)(y:Nat),(t.leaves y).length≤2^t.depth
 |.broken _,_=>Nat.zero_le _
 |.ware,_=>Nat.le_refl _
 |.split k a b,y=>by
  rw[CT.leaves,List.length_append,CT.depth,Nat.pow_succ]
  have h1:=zfq a (y|||2^k)
  have h2:=zfq b y
  have h3:2^a.depth≤2^(max a.depth b.depth):=Nat.pow_le_pow_right (by decide) (Nat.le_max_left _ _)
  have h4:2^b.depth≤2^(max a.depth b.depth):=Nat.pow_le_pow_right (by decide) (Nat.le_max_right _ _)
  omega
theorem zfy{ts:List Tie}{il:List Nat}{m:Nat}:∀(f y n:Nat),(zbo ts il m f y n).depth≤f
 |f,y,n=>by
  unfold zbo
  cases za5 ts il y n with
  |some t=>exact Nat.zero_le _
  |none=>
   dsimp only
   cases zay m y n with
   |nil=>exact Nat.zero_le _
   |cons k r=>
    cases f with
    |zero=>exact Nat.zero_le _
    |succ f=>
     show max _ _+1≤f+1
     have h1:=zfy (ts:=ts) (il:=il) (m:=m) f (y|||2^k) n
     have h2:=zfy (ts:=ts) (il:=il) (m:=m) f y (n|||2^k)
     omega
theorem zer{m:Nat}{ts:List Tie}{il:List Nat}(ok:∀t∈ts,t.Ok m):∀(f y n:Nat),(zay m y n).length≤f→Stand m y n→∀s,s∈(zbo ts il m f y n).leaves y↔(s<2^m∧InS y n s∧zdp ts il s=true)
 |f,y,n,hf,S,s=>by
  unfold zbo
  cases hb:za5 ts il y n with
  |some i=>
   obtain⟨hi,hsb⟩:=zf5 hb
   constructor
   ·intro h;cases h
   ·rintro⟨sm,hs,hk⟩
    have:=(List.all_eq_true.mp hk) i hi
    rw[znb ok S.dj hsb hs] at this
    cases this
  |none=>
   have hn:=zd6 hb
   dsimp only
   cases hl:zay m y n with
   |nil=>
    show s∈[y]↔_
    rw[List.mem_singleton]
    constructor
    ·rintro rfl
     exact⟨S.ym,zgy S.dj,List.all_eq_true.mpr fun i hi=>zmr ok S.dj hl (hn i hi)⟩
    ·rintro⟨sm,hs,_⟩
     exact zlf S hl hs sm
   |cons k r=>
    have hk:k∈zay m y n:=by rw[hl];exact List.mem_cons_self
    cases f with
    |zero=>rw[hl] at hf;simp at hf
    |succ f=>
     have l1:=zc0 hk
     have l2:=zc1 hk
     show s∈(zbo ts il m f (y|||2^k) n).leaves (y|||2^k)++(zbo ts il m f y (n|||2^k)).leaves y↔_
     rw[List.mem_append,zer ok f (y|||2^k) n (by omega) (S.one hk),zer ok f y (n|||2^k) (by omega) (S.other hk)]
     constructor
     ·rintro(⟨a,b,c⟩|⟨a,b,c⟩)
      ·exact⟨a,inS_split.mpr (.inl b),c⟩
      ·exact⟨a,inS_split.mpr (.inr b),c⟩
     ·rintro⟨a,b,c⟩
      rcases(inS_split (k:=k)).mp b with b|b
      ·exact .inl ⟨a,b,c⟩
      ·exact .inr ⟨a,b,c⟩
end Wd
namespace L2
open PySem PySem.Spec PyProof.Rows
section
variable {X : Cx}
theorem zu2{prog:Program}{w:World}{A:Around}{E:Value→Shared→Prop}{s:Shared}{t b:Addr}{ws:List Value}{Q:Value→Shared→Prop}(ht:IsTup s.heap t ([]:List Value).toArray)(hb:IsTup s.heap b ws.toArray)(h:Q (.ref b) s):
  wpAny (model prog w) A (binaryOp .Add (.ref t) (.ref b)) Q E s:=by
 obtain⟨⟨cls,dd,data,sl⟩,ho,hc,n,hd⟩:=id ht
 obtain⟨⟨ai,ak,ad,aj⟩,af,ae,n2,ah⟩:=id hb
 simp only at hc hd ae ah
 subst hc hd ae ah
 exact concat_meets ⟨_,ho,rfl⟩ ⟨_,af,rfl⟩ noFill_tuple_add seq_tuple_add PySem.F.slot_tuple_add PySem.F.entry_tuple_add (PySem.F.args_tuple_add_2 _ _)
  (tuple_addW0 t b ([]:List Value).toArray ws.toArray n n2 dd ak sl aj (by simp)) ⟨ho,af,h⟩
theorem zqm:OpR X (binaryOp .Add) (fun x y H Q=>∃a b xs ys,x=.ref a∧y=.ref b∧H a=some (.tup xs)∧H b=some (.tup ys)∧xs.length+ys.length≤sizeLine∧∀c H',Same H H'→H' c=some (.tup (xs++ys))→Q (.ref c) H'):=by
 intro pins s σ H x y v u Q I rx ry h
 obtain⟨a,b,xs,ys,rfl,rfl,ha,hb,hz,q⟩:=h
 by_cases hx:xs=[]
 ·subst hx
  cases rx
  cases ry
  obtain⟨ae,r1,p1,_⟩:=I.tuple (.inl (.inl ha))
  obtain⟨ad,r2,p2,_⟩:=I.tuple (.inl (.inl hb))
  cases r1
  exact zu2 p1 p2 ⟨.ref b,H,I,rfl,q b H (Same.refl H) hb⟩
 ·refine zxf pins s σ H _ _ v u Q I rx ry ⟨a,b,xs,ys,rfl,rfl,.inl (.inl ha),.inl (.inl hb),hx,hz,fun e=>?_,fun _ p hp=>?_⟩
  ·refine q a H (Same.refl H) ?_
   rw[e,List.append_nil]
   exact ha
  ·exact q p _ (zir fun b o e=>by rw[zaq (zax e hp)];exact e) zaf
end
end L2
namespace Wd
open PySem L2 Ow
def CT.toD:CT→PyData
 |.broken t=>.tuple [.str ("broken" : Str),.int (t:Int)]
 |.ware=>.tuple [.str ("ware" : Str)]
 |.split k a b=>.tuple [.str ("split" : Str),.int (k:Int),a.toD,b.toD]
theorem ztp{H:Hp}{t:Nat}{v:V}(h:Dn H (CT.broken t).toD v):∃p,v=.ref p∧H p=some (.tup [.str ("broken" : Str),.int (t:Int)]):=by
 obtain⟨p,xs,rfl,hp,xu,r1,rfl,hu,xl,r2,rfl,ae,ad⟩:=zcc h
 cases(show r2=[] from ad)
 cases(show xu=.str ("broken" : Str) from hu)
 cases zeg ae
 exact⟨p,rfl,hp⟩
theorem zwx{H:Hp}{v:V}(h:Dn H CT.ware.toD v):∃p,v=.ref p∧H p=some (.tup [.str ("ware" : Str)]):=by
 obtain⟨p,xs,rfl,hp,xu,r1,rfl,hu,ad⟩:=zcc h
 cases(show r1=[] from ad)
 cases(show xu=.str ("ware" : Str) from hu)
 exact⟨p,rfl,hp⟩
theorem zwn{H:Hp}{k:Nat}{a b:CT}{v:V}(h:Dn H (CT.split k a b).toD v):∃p va vb,v=.ref p∧H p=some (.tup [.str ("split" : Str),.int (k:Int),va,vb])∧Dn H a.toD va∧Dn H b.toD vb:=by
 obtain⟨p,xs,rfl,hp,xu,r1,rfl,hu,xl,r2,rfl,ae,va,r3,rfl,ha,vb,r4,rfl,hb,ad⟩:=zcc h
 cases(show r4=[] from ad)
 cases(show xu=.str ("split" : Str) from hu)
 cases zeg ae
 exact⟨p,va,vb,rfl,hp,ha,hb⟩
theorem zq2:¬V.str ("broken" : Str)=V.str ("ware" : Str):=zlv (by decide +kernel)
theorem zoo:¬V.str ("broken" : Str)=V.str ("split" : Str):=zlv (by decide +kernel)
theorem zrf:¬V.str ("split" : Str)=V.str ("ware" : Str):=zlv (by decide +kernel)
theorem znx:¬V.str ("split" : Str)=V.str ("broken" : Str):=zlv (by decide +kernel)
abbrev zaj(l:List Nat):List V:=l.map fun k:Nat=>V.int (k:Int)
theorem zxp(l:List Nat)(k:Nat):atI (zaj (l++[k])) (-1)=some (.int (k:Int)):=by
 unfold atI ixN
 have e:(zaj (l++[k])).length=l.length+1:=by rw[List.length_map,List.length_append,List.length_singleton]
 rw[e,if_neg (by decide),if_pos (by omega)]
 show(zaj (l++[k]))[((-1:Int)+((l.length+1:Nat):Int)).toNat]?=_
 have e2:((-1:Int)+((l.length+1:Nat):Int)).toNat=l.length:=by omega
 rw[e2,zaj,List.getElem?_map,List.getElem?_append_right (Nat.le_refl _),Nat.sub_self]
 rfl
def zwv:Sp:=fun vs H Q _=>∃n k:Nat,vs=[.int n,.int k]∧k≤1000∧Q (.int ((n|||2^k:Nat):Int)) H
def zzk:Sp:=fun vs H Q _=>∃m y n:Nat,vs=[.int m,.int y,.int n]∧m≤900∧∀(l:Addr)(H':Hp),Same H H'→H l=none→H' l=some (.lst (zaj (zay m y n)))→Q (.ref l) H'
def zs7:Sp:=fun vs H Q _=>∃(wd:Addr)(m:Nat)(ts:List Tie)(tl:Addr)(il:List Nat)(y n:Nat),vs=[.ref wd,.ref tl,.int y,.int n]∧WoodT H wd m ts∧H tl=some (.lst (zaj il))∧(∀i∈il,i<ts.length)∧∀H',Same H H'→Q (zge (za5 ts il y n)) H'
def zvl(f:Nat):Sp:=fun vs H Q _=>∃(wd:Addr)(m:Nat)(ts:List Tie)(tl:Addr)(il:List Nat)(y n:Nat),vs=[.ref wd,.ref tl,.int y,.int n]∧WoodT H wd m ts∧H tl=some (.lst (zaj il))∧(∀i∈il,i<ts.length)∧(zay m y n).length≤f∧∀(v:V)(H':Hp),Same H H'→Dn H' (zbo ts il m f y n).toD v→Q v H'
def zn9(f:Nat):Sp:=fun vs H Q _=>∃(wd:Addr)(m:Nat)(ts:List Tie)(tl:Addr)(il:List Nat)(y n:Nat),vs=[.ref wd,.ref tl,.int y,.int n]∧WoodT H wd m ts∧H tl=some (.lst (zaj il))∧(∀i∈il,i<ts.length)∧(zay m y n).length≤f∧∀H',Same H H'→Q (zge (zbt ts il m f y n)) H'
def zbk(ts:List Tie):List Nat:=List.range ts.length
theorem zey(ts:List Tie)(s:Nat):zdp ts (zbk ts) s=ts.all fun t=>t.keep s:=by
 unfold zdp zbk
 rw[Bool.eq_iff_iff,List.all_eq_true,List.all_eq_true]
 constructor
 ·intro h t ht
  obtain⟨i,hi,rfl⟩:=List.getElem_of_mem ht
  have:=h i (List.mem_range.mpr hi)
  unfold zh3 at this
  rw[List.getElem?_eq_getElem hi] at this
  exact this
 ·intro h i hi
  unfold zh3
  rw[List.getElem?_eq_getElem (List.mem_range.mp hi)]
  exact h _ (List.getElem_mem _)
def zxe:Sp:=fun vs H Q _=>∃(wd:Addr)(m:Nat)(ts:List Tie)(y n:Nat),vs=[.ref wd,.int y,.int n]∧WoodT H wd m ts∧m≤9∧∀(v:V)(H':Hp),Same H H'→Dn H' (zbo ts (zbk ts) m 9 y n).toD v→Q v H'
def zly(f:Nat):Sp:=fun vs H Q _=>∃(y:Nat)(t:CT)(v:V),vs=[.int y,v]∧Dn H t.toD v∧t.depth≤f∧f≤9∧CT.small t∧∀(l:Addr)(H':Hp),Same H H'→H l=none→H' l=some (.lst (zaj (t.leaves y)))→Q (.ref l) H'
def zwc:Sp:=fun vs H Q _=>∃(wd:Addr)(m:Nat)(ts:List Tie)(y n:Nat),vs=[.ref wd,.int y,.int n]∧WoodT H wd m ts∧m≤9∧1≤m∧Stand m y n∧∀H' o,Same H H'→(match o with|none=>∀s,s<2^m→InS y n s→za0 ts s=false|some s=>s<2^m∧InS y n s∧za0 ts s=true∧∀s',s'<2^m→InS y n s'→za0 ts s'=true→s≤s')→Q (zge o) H'
theorem zyj{K:PySem.W.Frag}{H:Hp}{pen a:Addr}{xs:List V}{o:HO}(h:SqL K H a xs)(hp:H pen=none):∀H',SameX pen (L2.upd H pen o) H'→SqL K H' a xs:=fun H' s=>by
 have keep:∀u,H a=some u→KpX pen (L2.upd H pen o) H' a u:=fun u e=>s a u (zax e hp) (by rw[zaq (zax e hp)];exact e)
 rcases h with(h|⟨u,h⟩)|h
 ·exact .inl (.inl (keep _ h))
 ·exact .inl (.inr ⟨u,keep _ h⟩)
 ·exact .inr h
theorem zwz{K:PySem.W.Frag}{H:Hp}{pen sp:Addr}{ns:List Int}(h:SqL K H sp (ns.map V.int))(hl:ns.length≤63)(hp:H pen=none):Pen K (L2.upd H pen (.lst [.ref sp,.int 0])) pen sp ns 0:=⟨zaf,hl,zyj h hp⟩
def ztt(ts:List Tie)(m y n:Nat):Option Nat→Prop
 |none=>∀s,s<2^m→InS y n s→za0 ts s=false
 |some s=>s<2^m∧InS y n s∧za0 ts s=true∧∀s',s'<2^m→InS y n s'→za0 ts s'=true→s≤s'
end Wd
namespace L2
open PySem PySem.Spec PyProof.Rows
theorem zcn:∀(names:List (Str×NameKind))(n:Nat)(acc:List (Str×Addr)),cellsFrom n names acc=cellsFrom n names []++acc
 |[],_,_=>rfl
 |(x,k)::r,n,acc=>by
  unfold cellsFrom
  split
  ·rw[zcn r (n+1) ((x,n)::acc),zcn r (n+1) [(x,n)],List.append_assoc]
   rfl
  ·exact zcn r n acc
theorem zjj{x:Str}{c:Addr}:∀{names:List (Str×NameKind)} {n:Nat},(x,c)∈cellsFrom n names []→(x,NameKind.cell)∈names
 |[],_,h=>nomatch h
 |(y,k)::r,n,h=>by
  unfold cellsFrom at h
  split at h
  ·rename_i hk
   rw[zcn] at h
   rcases List.mem_append.mp h with z|z
   ·exact List.mem_cons_of_mem _ (zjj z)
   ·have e:=List.mem_singleton.mp z
    cases e
    have hk':k=.cell:=by simpa using hk
    rw[hk']
    exact List.mem_cons_self
  ·exact List.mem_cons_of_mem _ (zjj h)
theorem zjn{x:Str}:∀{names:List (Str×NameKind)} {n:Nat},(x,NameKind.cell)∈names→∃c,(x,c)∈cellsFrom n names []
 |[],_,h=>nomatch h
 |(y,k)::r,n,h=>by
  unfold cellsFrom
  rcases List.mem_cons.mp h with e|h
  ·cases e
   rw[if_pos (by decide),zcn]
   exact⟨n,List.mem_append_right _ (List.mem_singleton.mpr rfl)⟩
  ·split
   ·obtain⟨c,hc⟩:=zjn (n:=n+1) h
    rw[zcn]
    exact⟨c,List.mem_append_left _ hc⟩
   ·exact zjn h
theorem zct{x:Str}{c:Addr}:∀{names:List (Str×NameKind)} {n:Nat},(x,c)∈cellsFrom n names []→n≤c
 |[],_,h=>nomatch h
 |(y,k)::r,n,h=>by
  unfold cellsFrom at h
  split at h
  ·rw[zcn] at h
   rcases List.mem_append.mp h with z|z
   ·exact Nat.le_of_succ_le (zct z)
   ·have e:=List.mem_singleton.mp z
    cases e
    exact Nat.le_refl _
  ·exact zct h
theorem zjb{x y:Str}{c:Addr}:∀{names:List (Str×NameKind)} {n:Nat},(x,c)∈cellsFrom n names []→(y,c)∈cellsFrom n names []→x=y
 |[],_,h,_=>nomatch h
 |(z,k)::r,n,h1,h2=>by
  unfold cellsFrom at h1 h2
  split at h1
  ·rename_i hk
   rw[if_pos hk] at h2
   rw[zcn] at h1 h2
   rcases List.mem_append.mp h1 with a|a
   ·rcases List.mem_append.mp h2 with b|b
    ·exact zjb a b
    ·have e:=List.mem_singleton.mp b
     cases e
     exact absurd (zct a) (Nat.not_succ_le_self _)
   ·have e:=List.mem_singleton.mp a
    cases e
    rcases List.mem_append.mp h2 with b|b
    ·exact absurd (zct b) (Nat.not_succ_le_self _)
    ·have e:=List.mem_singleton.mp b
     cases e
     rfl
  ·rename_i hk
   rw[if_neg hk] at h2
   exact zjb h1 h2
def lcS:Expr→Scope
 |.ListComp _ _ sc _=>sc
 |_=>{ kind:=.function,names:=[],isGenerator:=false,isCoroutine:=false }
def zub:Option Stmt→Expr
 |some (Stmt.Return (some e) _)=>e
 |_=>.Constant .none 0 ⟨0,0,0,0⟩
theorem zlc{x:Str}{l r:List (Str×Addr)}:(l++r).lookup x=(l.lookup x).or (r.lookup x):=by
 induction l with
 |nil=>simp
 |cons p t ih=>
  obtain⟨y,c⟩:=p
  rw[List.cons_append,List.lookup_cons,List.lookup_cons]
  cases x==y with
  |true=>rfl
  |false=>exact ih
def ziy(sc:Scope)(C:Addr)(env:Env):List (Str×Addr):=cellsFrom (C+1) sc.names []++ze9 sc env
theorem zeq{sc:Scope}{C c:Addr}{env:Env}{x:Str}(h:(ziy sc C env).lookup x=some c):(x,c)∈cellsFrom (C+1) sc.names []∨(ze9 sc env).lookup x=some c:=by
 unfold ziy at h
 rw[zlc] at h
 cases e:(cellsFrom (C+1) sc.names []).lookup x with
 |some c'=>
  rw[e] at h
  cases h
  exact .inl (PySem.mem_of_lookup e)
 |none=>
  rw[e] at h
  exact .inr h
theorem zse{sc:Scope}{C:Addr}{env:Env}{x:Str}(h:(x,NameKind.cell)∈sc.names):∃c,(ziy sc C env).lookup x=some c∧(x,c)∈cellsFrom (C+1) sc.names []:=by
 obtain⟨c,hc⟩:=zjn (n:=C+1) h
 obtain⟨c',e⟩:=zet hc
 refine⟨c',?_,PySem.mem_of_lookup e⟩
 unfold ziy
 rw[zlc,e]
 rfl
theorem zpc{sc:Scope}{C c:Addr}{env:Env}{x:Str}(hn:¬(x,NameKind.cell)∈sc.names)(h:(ze9 sc env).lookup x=some c):(ziy sc C env).lookup x=some c:=by
 unfold ziy
 rw[zlc]
 cases e:(cellsFrom (C+1) sc.names []).lookup x with
 |some c'=>exact absurd (zjj (PySem.mem_of_lookup e)) hn
 |none=>exact h
def zgf(X:Cx)(N':List Str)(sc:Scope)(C:Addr)(fp:List Addr)(pins:List (Addr×Obj))(s:Shared)(H:Hp):Cx:=
 { X with N:=N',s₀:=s,H₀:=H,env:=compEnvC sc (ziy sc C X.env) C X.env,outer:=X.stack,stack:=X.stack,ex:=fp,fn:=fun x=>sc.names.lookup x==some .cell,pn:=X.pn++pins,xe:=NoX }
def zo1(sc0 sc:Scope)(XN N':List Str)(n:Nat)(kp:List Nat):Bool:=
 decide (sc.kind=.function)&&sc.names.all (fun y=>decide (y.2=.local→sc.names.lookup y.1=some .local)) &&
 sc.names.all (fun y=>decide (y.2=.free→sc0.names.lookup y.1=some .cell))&&decide ((sc.names.map (·.1)).Nodup)&&decide (N'.length=n+kp.length) &&
 (List.range kp.length).all (fun i=>match N'[n+i]?,kp[i]? with
  |some x,some j=>decide (XN[j]?=some x∧(x,NameKind.free)∈sc.names∧((zh6 sc sc0).names.lookup x=some .cell∨(zh6 sc sc0).names.lookup x=some .free))
  |_,_=>false)
theorem zj2{sc0 sc:Scope}{XN N':List Str}{n:Nat}{kp:List Nat}(h:zo1 sc0 sc XN N' n kp=true):
  sc.kind=.function∧(∀y∈sc.names,y.2=.local→sc.names.lookup y.1=some .local)∧(∀y∈sc.names,y.2=.free→sc0.names.lookup y.1=some .cell)∧(sc.names.map (·.1)).Nodup∧N'.length=n+kp.length ∧
  ∀(i:Nat)(x:Str),N'[n+i]?=some x→∃j,kp[i]?=some j∧XN[j]?=some x∧(x,NameKind.free)∈sc.names∧((zh6 sc sc0).names.lookup x=some .cell∨(zh6 sc sc0).names.lookup x=some .free):=by
 unfold zo1 at h
 simp only[Bool.and_eq_true,List.all_eq_true,decide_eq_true_eq] at h
 obtain⟨⟨⟨⟨⟨h1,h3⟩,h4⟩,h2⟩,h5⟩,h6⟩:=h
 refine⟨h1,h3,h4,h2,h5,fun i x hx=>?_⟩
 have hi:i<kp.length:=by
  have:=(List.getElem?_eq_some_iff.mp hx).1
  omega
 have q:=h6 i (List.mem_range.mpr hi)
 rw[hx,List.getElem?_eq_getElem hi] at q
 exact⟨kp[i],List.getElem?_eq_getElem hi,of_decide_eq_true q⟩
theorem zmn{names:List (Str×NameKind)}(nd:(names.map (·.1)).Nodup){x:Str}{k k':NameKind}(h:(x,k)∈names)(h':(x,k')∈names):k=k':=by
 induction names with
 |nil=>cases h
 |cons p r ih=>
  rw[List.map_cons,List.nodup_cons] at nd
  rcases List.mem_cons.mp h with e|h
  ·rcases List.mem_cons.mp h' with e'|h'
   ·rw[←e] at e'
    cases e'
    rfl
   ·exact absurd (List.mem_map.mpr ⟨(x,k'),h',by rw[←e]⟩) nd.1
  ·rcases List.mem_cons.mp h' with e'|h'
   ·exact absurd (List.mem_map.mpr ⟨(x,k),h,by rw[←e']⟩) nd.1
   ·exact ih nd.2 h h'
theorem zpb{M:Model}{A:Around}{E:Value→Shared→Prop}{s:Shared}{scope:Scope}{globals:Addr}{cl:List (Str×Addr)}{qual:Str}{env:Env}{Q:Env→Shared→Prop}
  (h:Q { scope:=scope,locals:=s.heap.objs.size,globals:=globals,cells:=cellsFrom (s.heap.objs.size+1) scope.names cl,qual:=qual,func:=none,code:=env.code,frame:=env.frame,builtins:=env.builtins } { s with heap:=pushCells (s.heap.push { cls:=.type "dict",data:=.dict #[] }) scope.names }):
  wpAny M A (newFunctionEnv scope globals cl [] qual none .none (some env)) Q E s:=by
 simp only[newFunctionEnv,Option.isSome_some,if_true]
 refine wpAny_bind (wpAny_alloc ?_)
 refine wpAny_bind (wpAny_layCells _ (fun name kind cells=>by cases ad:kind==NameKind.cell<;>simp[ad]) _ _ _ _ ?_)
 rw[show({ s with heap:=s.heap.push { cls:=.type "dict",data:=.dict #[] } }:Shared).heap.objs.size=s.heap.objs.size+1 from Heap.size_push ..]
 refine wpAny_bind ?_
 rw[List.forIn_nil]
 exact wpAny_pure (wpAny_pure h)
section
variable {X : Cx} {tg iter elt : Expr} {cs : List Expr} {sc sc0 : Scope} {pos : Pos} {wi : TI} {g : TG} {tc : TT} {te : TE} {XN N' : List Str} {n : Nat} {kp : List Nat}
theorem zws{pins:List (Addr×Obj)}{σ:St}{H:Hp}{s:Shared}{fp:List Addr}{C:Addr}(I:Inv X pins σ H s)(hk:sc.kind=.function)(nd:(sc.names.map (·.1)).Nodup)
  (hfr:∀y∈sc.names,y.2=.free→∃c,X.env.cells.lookup y.1=some c) (hf:∀b∈fp,zis X pins H b) (hl:∀b∈fp,b<s.heap.objs.size) (hC:s.heap.objs.size≤C):(zgf X N' sc C fp pins s H).Ok where
 mod:=I.ok.mod
 kind:=hk
 glob:=I.ok.glob
 blt:=I.ok.blt
 above:=hC
 inj:=fun x y c h1 h2=>by
  have old:∀{z:Str},(ze9 sc X.env).lookup z=some c→c<s.heap.objs.size:=fun {z} e=>by
   obtain⟨v,hv⟩:=I.cell z c (za9 hfr e)
   exact hv.lt
  rcases zeq h1 with a|a
  ·rcases zeq h2 with b|b
   ·exact zjb a b
   ·exact absurd (Nat.lt_of_lt_of_le (old b) (Nat.le_trans hC (Nat.le_of_succ_le (zct a)))) (Nat.lt_irrefl _)
  ·rcases zeq h2 with b|b
   ·exact absurd (Nat.lt_of_lt_of_le (old a) (Nat.le_trans hC (Nat.le_of_succ_le (zct b)))) (Nat.lt_irrefl _)
   ·exact I.ok.inj x y c (za9 hfr a) (za9 hfr b)
 has:=fun x hx=>by
  have hx':(zh6 sc X.env.scope).names.lookup x=some .cell∨(zh6 sc X.env.scope).names.lookup x=some .free:=hx
  have go:∀k,(zh6 sc X.env.scope).names.lookup x=some k→(k=.cell∨k=.free)→(x,NameKind.free)∈sc.names∨(x,NameKind.cell)∈sc.names:=fun k e hk'=>by
   have hm:=PySem.mem_of_lookup e
   obtain⟨⟨y,ky⟩,hy,ey⟩:=List.mem_map.mp hm
   dsimp only at ey
   split at ey
   ·rename_i hc
    cases ey
    have z:ky=.free:=by
     simp only[Bool.and_eq_true] at hc
     simpa using hc.1.1
    subst z
    exact .inl hy
   ·cases ey
    rcases hk' with z|z
    ·subst z
     exact .inr hy
    ·subst z
     exact .inl hy
  have q:(x,NameKind.free)∈sc.names∨(x,NameKind.cell)∈sc.names:=by
   rcases hx' with e|e
   ·exact go _ e (.inl rfl)
   ·exact go _ e (.inr rfl)
  rcases q with hm|hm
  ·obtain⟨c,hc⟩:=hfr _ hm rfl
   exact⟨c,zpc (fun z=>by have:=zmn nd hm z;cases this) (zdq hfr hm hc)⟩
  ·obtain⟨c,hc,_⟩:=zse (C:=C) (env:=X.env) hm
   exact⟨c,hc⟩
 cab:=fun x c h e=>by
  have h':(sc.names.lookup x==some NameKind.cell)=true:=h
  have hm:=PySem.mem_of_lookup (eq_of_beq h')
  obtain⟨c',e',m'⟩:=zse (C:=C) (env:=X.env) hm
  have e2:(ziy sc C X.env).lookup x=some c:=e
  rw[e'] at e2
  cases e2
  have:=zct m'
  show s.heap.objs.size≤c
  omega
 hd:=I.ok.hd
 frames:=I.ok.frames
 stk:=.inl rfl
 exf:=fun b hb=>⟨Nat.ne_of_lt (Nat.lt_of_lt_of_le (hl b hb) hC),fun x c e=>by
  rcases zeq e with z|z
  ·exact fun w=>absurd (Nat.lt_of_lt_of_le (hl b hb) (Nat.le_trans hC (Nat.le_of_succ_le (zct z)))) (by rw[w];exact Nat.lt_irrefl _)
  ·exact(hf b hb).2.2.2.2.1 x c (za9 hfr z)⟩
 bs:=I.bs
 bsz:=Nat.le_trans I.ok.bsz I.sz
 noex:=fun b o e hb=>by
  rcases(hf b hb).2.2.2.1 with z|z
  ·exact I.ok.noex b o e z
  ·exact absurd (Nat.lt_of_lt_of_le (Heap.lt_size e) (Nat.le_trans I.ok.bsz z)) (Nat.lt_irrefl _)
 exfs:=fun b hb z=>by
  rcases List.mem_cons.mp (I.stkSub b z) with q|q
  ·exact(hf b hb).2.1 q
  ·exact(hf b hb).2.2.1 q
 funs:=I.stack
 frf:=I.stkFree
theorem zr2{pins:List (Addr×Obj)}{σ:St}{H:Hp}{s:Shared}{fp:List Addr}{C:Addr}{h1:Heap}{tk:Nat}{m:Str→Option Value}(I:Inv X pins σ H s)(h0:X.env.scope=sc0)(hN:X.N=XN)(ok:zo1 sc0 sc XN N' n kp=true)
  (hf:∀b∈fp,zis X pins H b) (hl:∀b∈fp,b<s.heap.objs.size) (hC:s.heap.objs.size≤C) (old:∀b o,s.heap.get? b=some o→h1.get? b=some o) (ns:h1.Ns C m) (own:∀x c,(x,c)∈cellsFrom (C+1) sc.names []→h1.IsCell c none):
  Inv (zgf X N' sc C fp pins s H) [] (List.replicate n none++kp.map fun j=>(σ[j]?).join) H { s with heap:=h1,toks:=tk }:=by
 obtain⟨o1,o3,o4,o2,o5,o6⟩:=zj2 ok
 subst h0
 subst hN
 have ad:∀y∈sc.names,y.2=.free→∃c,X.env.cells.lookup y.1=some c:=fun y hy e=>I.ok.has y.1 (.inl (o4 y hy e))
 have ae:∀b,b<s.heap.objs.size→b≠C:=fun b hb=>Nat.ne_of_lt (Nat.lt_of_lt_of_le hb hC)
 refine⟨zws I o1 o2 ad hf hl hC,rfl,I.bare,Un.kept old,⟨m,ns,fun i x v e1 e2 e3=>?_⟩,fun x c e=>?_,I.hok.fresh hC,fun x c e=>?_,fun p hp=>?_,I.hok.kept old,?_⟩
 ·have hi:n≤i:=by
   by_cases z:n≤i
   ·exact z
   ·rw[List.getElem?_append_left (by rw[List.length_replicate];omega),List.getElem?_replicate] at e2
    split at e2<;>cases e2
  obtain⟨j,rfl⟩:∃j,i=n+j:=⟨i-n,by omega⟩
  obtain⟨q,hq,hx,hm,aj⟩:=o6 j x e1
  rw[List.getElem?_append_right (by rw[List.length_replicate];omega),List.length_replicate,Nat.add_sub_cancel_left,List.getElem?_map,hq] at e2
  have e4:(σ[q]?).join=some v:=Option.some.inj e2
  have ai:σ[q]?=some (some v):=by
   cases z:σ[q]? with
   |none=>rw[z] at e4;cases e4
   |some w=>rw[z] at e4;cases e4;rfl
  obtain⟨c,hc⟩:=ad _ hm rfl
  have kx:X.env.kindOf x=some .cell:=o4 _ hm rfl
  obtain⟨m',al,ak⟩:=I.loc
  obtain⟨u,r,lk⟩:=ak q x v hx ai (.inr (.inl kx))
  refine⟨u,r,.inr ⟨aj,c,zpc (fun z=>by have:=zmn o2 hm z;cases this) (zdq ad hm hc),?_⟩⟩
  rcases lk with⟨k,_⟩|⟨_,c',af,hv⟩
  ·rw[kx] at k
   cases k
  ·rw[hc] at af
   cases af
   exact hv.keeps old
 ·rcases zeq e with z|z
  ·exact⟨none,own x c z⟩
  ·obtain⟨v,hv⟩:=I.cell x c (za9 ad z)
   exact⟨v,hv.keeps old⟩
 ·rcases zeq e with z|z
  ·exact I.hok.fresh (Nat.le_trans hC (Nat.le_of_succ_le (zct z)))
  ·exact I.freeC x c (za9 ad z)
 ·have ah:p∈X.pn++pins:=by
   have:p∈(X.pn++pins)++([]:List (Addr×Obj)):=hp
   rw[List.append_nil] at this
   exact this
  obtain⟨q1,q2,q3,q4,q5⟩:=I.pin p ah
  refine⟨old _ _ q1,q2,ae _ (Heap.lt_size q1),fun z=>?_,q5⟩
  rcases List.mem_cons.mp (I.stkSub _ z) with r|r
  ·exact q3 r
  ·exact q4 r
 ·show(List.replicate n none++kp.map fun j=>(σ[j]?).join).length=N'.length
  rw[List.length_append,List.length_replicate,List.length_map,o5]
theorem zxn{pins:List (Addr×Obj)}{s:Shared}{σ:St}{H:Hp}{Q:VK}{use:Option (Value→Sem Unit)}{Qf:Value→Shared→Prop}(hc:X.calm=true)(hi:PI X tg iter wi)(h0:X.env.scope=sc0)(hN:X.N=XN)(ok:zo1 sc0 sc XN N' n kp=true)
  (hg:∀C fp pins s H,PG (zgf X N' sc C fp pins s H) tg g) (ht:∀C fp pins s H,PTs (zgf X N' sc C fp pins s H) cs tc) (he:∀C fp pins s H,PE (zgf X N' sc C fp pins s H) elt te) (hs:∀x,foldedSetIterable iter X.env x=pure x)
  (I:Inv X pins σ H s) (h:tLc n kp wi g tc te σ H Q)
  (fin:∀D C ys H' s',Inv X pins σ (upd H' D (.lst ys)) s'→(∃m,s'.heap.Ns C m)→zis X pins (upd H' D (.lst ys)) C→Q (.ref D) (upd H' D (.lst ys))→compPost (model X.prog X.w) X.A X.xe use Qf (.ref D) C (.ok .next) s') {pos':Pos}:
  wpAny (model X.prog X.w) X.A (comprehension (.ListComp elt [⟨tg,iter,cs,0⟩] sc pos) sc X.env pos' (newList []) false (firstIter [⟨tg,iter,cs,0⟩] X.env) use) Qf X.xe s:=by
 obtain⟨o1,o3,o4,o2,o5,o6⟩:=zj2 ok
 have aD:∀y∈sc.names,y.2=.free→∃c,X.env.cells.lookup y.1=some c:=fun y hy e=>I.ok.has y.1 (.inl (by rw[Env.kindOf,h0];exact o4 y hy e))
 refine wpAny_comprehension_free (use:=use) rfl hs (znv aD) o1 o3 (thn (hi pins s σ H _ I h) fun v s1 h1=>thn h1 fun aQ s2 h2=>?_)
 obtain⟨it,fp,tn,J,H2,rfl,I2,T,au,f2,W,⟨m0,w0⟩,ap⟩:=h2
 have hl:∀b∈fp,b<s2.heap.objs.size:=fun b hb=>by
  obtain⟨o,e,_⟩:=T.obj 0 _ au b hb
  exact Heap.lt_size e
 refine wpAny_newObj_type (zpb ?_)
 dsimp only
 generalize hG:s2.heap.push { cls:=.type "list",dict:=none,data:=.seq ([]:List Value).toArray }=G
 have aR:G.objs.size=s2.heap.objs.size+1:=by rw[←hG,Heap.size_push]
 have ak:s2.heap.objs.size≤G.objs.size:=by omega
 have am:s2.heap.objs.size≠G.objs.size:=by omega
 generalize ay:pushCells (G.push { cls:=.type "dict",data:=.dict #[] }) sc.names=h1
 have ad:∀b o,(G.push { cls:=.type "dict",data:=.dict #[] }).get? b=some o→h1.get? b=some o:=fun b o e=>by
  rw[←ay]
  exact pushCells_keeps _ _ b o e
 have aL:h1.Ns G.objs.size (fun _=>none):=(Heap.Ns.new G (.type "dict")).keeps ad
 have old:∀b o,s2.heap.get? b=some o→h1.get? b=some o:=fun b o e=>ad b o (Heap.get?_push_of_some _ (hG▸Heap.get?_push_of_some _ e))
 have aF:h1.get? s2.heap.objs.size=some { cls:=.type "list",data:=.seq ([]:List Value).toArray 0 }:=ad _ _ (Heap.get?_push_of_some _ (hG▸Heap.get?_push_size _ rfl))
 have aM:∀x c,(x,c)∈cellsFrom (G.objs.size+1) sc.names []→h1.IsCell c none:=fun x c hm=>by
  have aA:=cellsFrom_ok sc.names (G.push { cls:=.type "dict",data:=.dict #[] }) (G.objs.size+1) [] ⟨fun _ _ hm=>(nomatch hm),List.Pairwise.nil⟩ (by rw[Heap.size_push];exact Nat.le_refl _)
  rw[Heap.size_push,ay] at aA
  exact(aA.empty x c hm).1
 rw[zcn]
 have al:H2 s2.heap.objs.size=none:=I2.hok.fresh (Nat.le_refl _)
 have aP:H2 G.objs.size=none:=I2.hok.fresh ak
 have aj:∀s3:Shared,s3={ s2 with heap:=h1,toks:=s2.toks } →
   codeAny (model X.prog X.w) X.A (.compLoop (.ListComp elt [⟨tg,iter,cs,0⟩] sc pos) 0 (.ref it) (.ref s2.heap.objs.size) (compEnvC sc (ziy sc G.objs.size X.env) G.objs.size X.env))
    (compPost (model X.prog X.w) X.A X.xe use Qf (.ref s2.heap.objs.size) G.objs.size) s3:=by
  rintro s3 rfl
  have I3:=zr2 (fp:=fp) (C:=G.objs.size) (h1:=h1) (tk:=s2.toks) I2 h0 hN ok f2 hl ak old aL aM
  have af:∀{H':Hp} {o:Obj},(∀b∈fp,H' b=none)→∀b∈fp,zis (zgf X N' sc G.objs.size fp pins s2 H2) [(s2.heap.objs.size,o)] H' b:=fun hn b hb=>by
   have lt:=hl b hb
   refine⟨hn b hb,Nat.ne_of_lt (Nat.lt_of_lt_of_le lt ak),I3.ok.exfs b hb,.inl hb,(I3.ok.exf b hb).2,fun p hp=>?_⟩
   rcases List.mem_append.mp hp with z|z
   ·exact(f2 b hb).2.2.2.2.2 p z
   ·have e:p.1=s2.heap.objs.size:=by rw[List.mem_singleton.mp z]
    rw[e]
    exact Nat.ne_of_gt lt
  have ar:∀{σ':St} {H':Hp} {s':Shared} {o:Obj},Inv (zgf X N' sc G.objs.size fp pins s2 H2) [] σ' H' s'→s'.heap.get? s2.heap.objs.size=some o→(∀v,o.data≠.cell v)→H' s2.heap.objs.size=none →
    Inv (zgf X N' sc G.objs.size fp pins s2 H2) [(s2.heap.objs.size,o)] σ' H' s':=fun {σ' H' s' o} J' e hd hn=>J'.pins_of fun p hp=>by
   rw[List.mem_singleton.mp hp]
   exact⟨e,hn,am,fun z=>by
    rcases List.mem_cons.mp (I2.stkSub _ z) with r|r
    ·exact absurd I2.lt (by rw[←r];exact Nat.lt_irrefl _)
    ·exact I2.nofs (Nat.le_refl _) r,hd⟩
  refine zsl (fun k s'=>∃(i:Nat)(ys:List V)(ae:List Value)(c:Nat)(σ':St)(H':Hp),Inv (zgf X N' sc G.objs.size fp pins s2 H2) [] σ' H' s'∧tn i s'.heap∧(∀b∈fp,H' b=none) ∧
   s'.heap.get? s2.heap.objs.size=some { cls:=.type "list",data:=.seq ae.toArray c }∧Vals ys ae∧H' s2.heap.objs.size=none∧W i k ys σ' H') ?_ m0 _
   ⟨0,[],[],0,_,H2,I3,T.keep _ _ _ au fun b _ o e=>old b o e,fun b hb=>(f2 b hb).1,aF,.nil,al,w0⟩
  rintro k s' ⟨i,ys,ae,c,σ',H',I',aB,aE,aN,hv,nD,w'⟩
  obtain⟨hz,cases⟩:=ap i k ys σ' H' w'
  have aC:=ar I' aN (fun v=>by intro z;cases z) nD
  rcases cases with⟨aq,q⟩|⟨go,N,az,step⟩
  ·refine thn (T.done (zgf X N' sc G.objs.size fp pins s2 H2) rfl rfl rfl hc i _ s' σ' H' NoX aC (af aE) aB aq) fun r s4 ⟨hr,I4⟩=>?_
   subst hr
   obtain⟨e4,n4,_⟩:=I4.pin (s2.heap.objs.size,{ cls:=.type "list",data:=.seq ae.toArray c }) (List.mem_append_right _ (List.mem_singleton.mpr rfl))
   have u4:Un (frs X.stack) fp H2 H' s2.heap s4.heap:=I4.base
   have aJ:H' G.objs.size=none:=I4.free
   obtain⟨m4,aH,_⟩:=I4.loc
   have aO:∀b o,s2.heap.get? b=some o→b≠s2.heap.objs.size:=fun b o e=>Nat.ne_of_lt (Heap.lt_size e)
   have u5:Un (frs X.stack) fp H2 (upd H' s2.heap.objs.size (.lst ys)) s2.heap s4.heap:=
    ⟨u4.keep,u4.slot,fun b o e nb hx=>by rw[zaq (aO b o e)];exact u4.free b o e nb hx,u4.there,fun b xs e=>by rw[zaq (zax e al)];exact u4.tups b xs e,
     fun b o u e=>by rw[zaq (zax e al)];exact u4.frzs b o u e,fun b ps e=>by rw[zaq (zax e al)];exact u4.tbls b ps e⟩
   have ao:HOk X.prog X.w (upd H' s2.heap.objs.size (.lst ys)) s4.heap:=fun a o e=>by
    by_cases ea:a=s2.heap.objs.size
    ·subst ea
     rw[zaf] at e
     cases e
     exact⟨hz,ae,c,hv,e4⟩
    ·rw[zaq ea] at e
     exact(I4.hok a o e).stay (fun _ _ _ q=>q) (fun b q=>by rw[zaq (zax q nD)];exact q) fun b xs q=>by rw[zaq (zax q nD)];exact q
   have I5:Inv X pins σ (upd H' s2.heap.objs.size (.lst ys)) s4:=I2.call' I4.os u5 ao I4.bare fun b hb=>⟨(f2 b hb).2.2.2.1,(f2 b hb).2.1,(f2 b hb).2.2.2.2.1,(f2 b hb).2.2.2.2.2⟩
   refine fin _ _ ys H' s4 I5 ⟨m4,aH⟩ (I2.fpOk ak ?_) (q _ nD)
   rw[zaq (Ne.symm am)]
   exact aJ
  ·refine thn (T.item (zgf X N' sc G.objs.size fp pins s2 H2) rfl rfl rfl hc i _ s' σ' H' NoX aC (af aE) aB go) fun r s4 ⟨u,hr,h4⟩=>?_
   subst hr
   refine thn h4 fun _ s5 ⟨x,H5,I5,r5,y5,aw,aI⟩=>?_
   have aK:=I5.pinned (af aI) (T.obj _ _ aw)
   refine thn (hg _ _ _ _ _ _ s5 σ' H5 x u _ aK r5 (step x H5 y5)) fun _ s6 ⟨σ6,H6,I6,q6⟩=>?_
   refine thn (ht _ _ _ _ _ _ s6 σ6 H6 _ I6 q6) fun b s7 ⟨H7,I7,q7⟩=>?_
   have ah:∀{s8:Shared} {H8:Hp} (m':Nat),Inv (zgf X N' sc G.objs.size fp pins s2 H2) ([(s2.heap.objs.size,{ cls:=.type "list",data:=.seq ae.toArray c })]++zgx fp s5.heap) σ6 H8 s8 →
     tn (i+1) s8.heap∧(∀b∈fp,H8 b=none)∧s8.heap.get? s2.heap.objs.size=some { cls:=.type "list",data:=.seq ae.toArray c }∧H8 s2.heap.objs.size=none:=fun {s8 H8} m' I8=>by
    have pn:∀p∈[(s2.heap.objs.size,({ cls:=.type "list",data:=.seq ae.toArray c }:Obj))]++zgx fp s5.heap,s8.heap.get? p.1=some p.2∧H8 p.1=none:=fun p hp=>
     let ⟨a,b,_⟩:=I8.pin p (List.mem_append_right _ hp);⟨a,b⟩
    refine⟨T.keep _ _ _ aw fun b hb o e=>(pn (b,o) (List.mem_append_right _ (zdh hb e))).1,fun b hb=>?_,pn _ (List.mem_append_left _ (List.mem_singleton.mpr rfl))⟩
    obtain⟨o,e,_⟩:=T.obj _ _ aw b hb
    exact(pn (b,o) (List.mem_append_right _ (zdh hb e))).2
   have ai:∀{s8:Shared} {H8:Hp} {pl:List (Addr×Obj)},Inv (zgf X N' sc G.objs.size fp pins s2 H2) pl σ6 H8 s8→Inv (zgf X N' sc G.objs.size fp pins s2 H2) [] σ6 H8 s8:=fun I8=>I8.pins_of fun p hp=>nomatch hp
   cases b with
   |false=>
    rw[if_neg Bool.false_ne_true] at q7 ⊢
    obtain⟨m',lt,w7⟩:=az _ _ _ q7
    obtain⟨b1,b2,b3,b4⟩:=ah m' I7
    exact⟨m',lt,i+1,ys,ae,c,σ6,H7,ai I7,b1,b2,b3,hv,b4,w7⟩
   |true=>
    rw[if_pos rfl] at q7 ⊢
    refine thn (he _ _ _ _ _ _ s7 σ6 H7 _ I7 q7) fun y s8 ⟨yv,H8,I8,r8,q8⟩=>?_
    obtain⟨m',lt,w8⟩:=az _ _ _ q8
    obtain⟨b1,b2,b3,b4⟩:=ah m' I8
    have av:=hv.length
    refine append_at (hsz:=by rw[List.size_toArray,←av];exact hz) b3 fun h9 ax e9=>?_
    have I9:Inv (zgf X N' sc G.objs.size fp pins s2 H2) [] σ6 H8 { s8 with heap:=h9 }:=(ai I8).turned (t':=s8.toks) (it:=s2.heap.objs.size) (fun b o hb e=>ax.extBut b o hb e) b4 am (.inr (Nat.le_refl _))
     (fun x c e z=>by
      rcases zeq e with y|y
      ·exact absurd (Nat.lt_of_lt_of_le (Nat.lt_succ_self _) (Nat.le_trans (Nat.succ_le_succ ak) (zct y))) (by rw[z];exact Nat.lt_irrefl _)
      ·obtain⟨v,hv⟩:=I2.cell x c (za9 aD y)
       exact absurd hv.lt (by rw[z];exact Nat.lt_irrefl _))
     fun p hp z=>by
      have aG:p∈X.pn++pins:=by
       have:p∈(X.pn++pins)++([]:List (Addr×Obj)):=hp
       rw[List.append_nil] at this
       exact this
      exact absurd (Heap.lt_size (I2.pin p aG).1) (by rw[z];exact Nat.lt_irrefl _)
    refine⟨m',lt,i+1,ys++[yv],ae++[y],c+1,σ6,H8,I9,T.keep _ _ _ b1 fun b hb o e=>ax.extBut b o (Nat.ne_of_lt (hl b hb)) e,b2,?_,hv.append (.cons r8 .nil),b4,w8⟩
    rw[e9]
    simp
 exact codeAny_compStart_list (aj _ rfl) (T.self _ 0 _ _ _ (T.keep _ _ _ au fun b _ o e=>old b o e) (aj _ rfl))
theorem piL{K:PySem.W.Frag}{l:Expr}{tl:TE}(hl:PE X l tl)(h:X.K=K:=by rfl):PI X tg l (zyg K tl):=h▸zxr hl
theorem piT{K:PySem.W.Frag}{l:Expr}{tl:TE}(hl:PE X l tl)(h:X.K=K:=by rfl):PI X tg l (zAn K tl):=h▸zyq hl
theorem zzr(hc:X.calm=true)(hi:PI X tg iter wi)(h0:X.env.scope=sc0)(hN:X.N=XN)(ok:zo1 sc0 sc XN N' n kp=true)
  (hg:∀C fp pins s H,PG (zgf X N' sc C fp pins s H) tg g) (ht:∀C fp pins s H,PTs (zgf X N' sc C fp pins s H) cs tc) (he:∀C fp pins s H,PE (zgf X N' sc C fp pins s H) elt te)
  (hs:∀x,foldedSetIterable iter X.env x=pure x:=by intro _;rfl):PE X (.ListComp elt [⟨tg,iter,cs,0⟩] sc pos) (tLc n kp wi g tc te):=by
 intro pins s σ H Q I h
 rw[eval_ListComp]
 refine zxn hc hi h0 hN ok hg ht he hs I h fun D C ys H' s' I' ns fp q=>?_
 obtain⟨m,hm⟩:=ns
 refine⟨m,hm,fun h' sb=>⟨.ref D,_,?_,rfl,q⟩⟩
 obtain⟨f1,f2,f3,f4,f5,f6⟩:=fp
 exact I'.turned (t':=s'.toks) (it:=C) (fun b o hb e=>sb.extBut b o hb e) f1 f2 f4 f5 f6
end
end L2
namespace Wd
open PySem L2 Ow
def zd2(ts:List Tie)(il:List Nat)(m y n:Nat):Bool:=decide (zbt ts il m 9 y n=none)
theorem zuc{ts:List Tie}{il:List Nat}{m y n:Nat}(ok:∀t∈ts,t.Ok m)(m9:m≤9)(S:Stand m y n):zd2 ts il m y n=true↔∀s,s<2^m→InS y n s→zdp ts il s=false:=by
 have of:=zb4 m y n
 have F:=zcl (il:=il) ok 9 y n (by omega) S
 unfold zd2
 rw[decide_eq_true_eq]
 cases h:zbt ts il m 9 y n with
 |none=>
  rw[h] at F
  exact⟨fun _=>F,fun _=>rfl⟩
 |some g=>
  rw[h] at F
  refine⟨(fun z=>by cases z),fun z=>?_⟩
  have:=z g F.1 F.2.1
  rw[F.2.2.1] at this
  cases this
def zzc:Sp:=fun vs H Q _=>∃(wd:Addr)(m:Nat)(ts:List Tie)(tl:Addr)(il:List Nat)(y n:Nat),vs=[.ref wd,.ref tl,.int y,.int n]∧WoodT H wd m ts∧m≤9∧H tl=some (.lst (zaj il))∧(∀i∈il,i<ts.length)∧∀H',Same H H'→Q (.bl (zd2 ts il m y n)) H'
def zq4:Sp:=fun vs H Q _=>∃(l:Addr)(il:List Nat)(t:Nat),vs=[.ref l,.int t]∧H l=some (.lst (zaj il))∧il.length≤1000∧∀(p:Addr)(H':Hp),Same H H'→H p=none→H' p=some (.lst (zaj (il.filter fun i=>!decide (i=t))))→Q (.ref p) H'
abbrev without(il:List Nat)(t:Nat):List Nat:=il.filter fun i=>!decide (i=t)
def zb5(ts:List Tie)(m y n:Nat)(left:List Nat)(t:Nat):List Nat:=if zd2 ts (without left t) m y n=true then without left t else left
def zd3(ts:List Tie)(m y n:Nat):List Nat:=(zbk ts).foldl (zb5 ts m y n) (zbk ts)
theorem zl2{ts:List Tie}{m y n:Nat}{left:List Nat}{t:Nat}:(zb5 ts m y n left t).Sublist left:=by
 unfold zb5
 split
 ·exact List.filter_sublist
 ·exact List.Sublist.refl _
theorem zhj{ts:List Tie}{m y n:Nat}:∀(l left:List Nat),(l.foldl (zb5 ts m y n) left).Sublist left
 |[],left=>List.Sublist.refl _
 |t::l,left=>(zhj l (zb5 ts m y n left t)).trans zl2
structure zrz(H:Hp)(ol:Addr)(ts:List Tie)(m y n:Nat)(left:List Nat):Prop where
 ex:∃xs,H ol=some (.lst xs)∧xs.length=left.length∧∀(j t:Nat),left[j]?=some t→∃q,xs[j]?=some (.ref q)∧H q=some (.tup [.int (t:Int),zge (zbt ts (without left t) m 9 y n)])
def zwh(H:Hp)(fv:V)(ts:List Tie)(m y n:Nat):Prop:=(zd2 ts (zbk ts) m y n=false∧fv=.non)∨(zd2 ts (zbk ts) m y n=true∧∃(p lf ol:Addr)(v:V),fv=.ref p∧H p=some (.tup [.ref lf,v,.ref ol])∧H lf=some (.lst (zaj (zd3 ts m y n)))∧Dn H (zbo ts (zd3 ts m y n) m 9 y n).toD v∧zrz H ol ts m y n (zd3 ts m y n))
theorem zb3(k:Nat)(op:List Nat):inV (.int (k:Int)) (zaj op)=decide (k∈op):=by
 induction op with
 |nil=>rfl
 |cons a r ih=>
  have e:inV (.int (k:Int)) (zaj (a::r))=(eqV (.int (a:Int)) (.int (k:Int))||inV (.int (k:Int)) (zaj r)):=rfl
  rw[e,ih]
  have e2:eqV (.int (a:Int)) (.int (k:Int))=decide (k=a):=by
   show((a:Int)==(k:Int))=_
   by_cases z:k=a
   ·subst z;simp
   ·rw[decide_eq_false z]
    simpa using fun h=>z (by omega)
  rw[e2]
  simp[List.mem_cons,Bool.decide_or]
theorem zbw(op:List Nat):(zaj op).all zgq=true:=by
 rw[List.all_eq_true]
 intro x hx
 obtain⟨i,_,rfl⟩:=List.mem_map.mp hx
 rfl
end Wd
namespace L2
open PySem PySem.Spec PyProof.Rows
def zl1(f:Addr)(qual:Str)(params:Arguments)(body:Expr)(scope:Scope)(cl:List (Str×Addr))(c:Addr):Heap→Prop:=
 fun h=>∃(pm ctv:Value),h.get? f=some (PySem.W.kla_obj "<lambda>" qual params body scope cl pm c ctv)
structure zdm(mg:Str→Option Value)(base:Heap)(c P:Addr):Prop where
 code:PySem.W.CodeHd base c P
 blt:∃bm ob,mg "__builtins__" = some (.ref bm)∧bm≠builtinsNs∧base.get? bm=some ob∧ob.cls=.type "module" ∧ ob.dict=some builtinsNs∧ob.data=.plain
theorem zr8{P:Program}{w:World}{H:Hp}{h:Heap}{a:Addr}{φ:Heap→Prop}(hH:H a=some (.ext φ))(ok:HOk P w H h):φ h:=(ok a _ hH).1
section
variable {X : Cx} {params : Arguments} {body : Expr} {scope : Scope} {pos : Pos} {c P : Addr}
theorem zrp(hc:X.env.code=.ref c)(B:zdm X.mg X.base c P)(hdef:defaultsOf params X.env=([],[]))(hfr:∀y∈scope.names,y.2=.free→∃c,X.env.cells.lookup y.1=some c):
  PE X (.Lambda params body scope pos) (fun σ H Q=>zev H P∧∀(f c':Addr)(H1:Hp),H f=none→Same H H1 →
   H1 f=some (.ext (zl1 f (X.env.qual ++ "<lambda>") params body scope (ze9 scope X.env) c'))→H1 c'=some (.ext (zgw c'))→Q (.ref f) H1):=by
 intro pins s σ H Q I hq
 obtain⟨⟨ps,hP,tr,ar⟩,q⟩:=hq
 refine PySem.W.kla_eval hdef ?_
 have aj:s.heap.get? P=some (PySem.W.tabObj ps):=I.hok P _ hP
 have hg:s.heap.Ns mainGlobals X.mg:=I.mod.glob.keeps I.bk
 have C:PySem.W.CodeHd s.heap c P:=B.code.keeps I.bk
 have aA:mainGlobals≠P:=fun z=>by
  obtain⟨o,es,ep,e,hd,_⟩:=hg
  rw[z,aj] at e;cases e;cases hd
 have hb:s.heap.BuiltinsAt X.mg P:=by
  obtain⟨bm,ob,b1,b2,b3,b4,b5,b6⟩:=B.blt
  have al:=I.bk _ _ b3
  refine⟨bm,ob,b1,b2,fun z=>?_,fun z=>?_,al,b4,b5,b6⟩
  ·obtain⟨o,es,ep,e,hd,_⟩:=hg
   rw[z,e] at al;cases al;rw[hd] at b6;cases b6
  ·rw[z,aj] at al;cases al;cases b4
 have ay:closureFor scope X.env=pure (ze9 scope X.env):=znv hfr
 rcases ar pos with aE|⟨c',hf,aD⟩
 ·refine PySem.W.kla_makeFunction ay I.ok.glob hg hc C aj tr aE aA hb fun c' ak h' tk hx af ao ap av=>?_
  have ax:P<s.heap.objs.size:=Heap.lt_size aj
  have az:H c'=none:=I.hok.fresh af
  have ah:H h'.objs.size=none:=I.hok.fresh (Nat.le_trans af (Nat.le_of_lt ao))
  have cf:c'≠h'.objs.size:=Nat.ne_of_lt ao
  have cP:c'≠P:=Nat.ne_of_gt (Nat.lt_of_lt_of_le ax af)
  have fP:h'.objs.size≠P:=Nat.ne_of_gt (Nat.lt_of_lt_of_le ax (Nat.le_trans af (Nat.le_of_lt ao)))
  have keep:∀b o,b≠P→s.heap.get? b=some o→(h'.push (PySem.W.kla_obj "<lambda>" (X.env.qual ++ "<lambda>") params body scope (ze9 scope X.env) ((X.mg "__name__").getD .none) c' ak)).get? b=some o:=fun b o hb e=>Heap.get?_push_of_some _ (hx b o hb e)
  obtain⟨c2,oc,vs,t,e2,au,hd,hv⟩:=ap
  cases e2
  let H1:Hp:=upd (upd (upd H P (.tbl (ps++#[rawInt pos.line,rawInt pos.col,.ref c']))) c' (.ext (zgw c'))) h'.objs.size (.ext (zl1 h'.objs.size (X.env.qual ++ "<lambda>") params body scope (ze9 scope X.env) c'))
  have aw:H1 h'.objs.size=some (.ext (zl1 h'.objs.size (X.env.qual ++ "<lambda>") params body scope (ze9 scope X.env) c')):=zaf
  have aq:H1 c'=some (.ext (zgw c')):=by show upd _ _ _ c'=_;rw[zaq cf,zaf]
  have am:H1 P=some (.tbl (ps++#[rawInt pos.line,rawInt pos.col,.ref c'])):=by show upd _ _ _ P=_;rw[zaq (Ne.symm fP),zaq (Ne.symm cP),zaf]
  have ad:∀b,b≠h'.objs.size→b≠c'→b≠P→H1 b=H b:=fun b n1 n2 n3=>by show upd _ _ _ b=_;rw[zaq n1,zaq n2,zaq n3]
  have old:∀b u,H b=some u→b≠h'.objs.size∧b≠c':=fun b u e=>⟨zax e ah,zax e az⟩
  have ai:∀b,H b=some (.ext (zgw b))→H1 b=some (.ext (zgw b)):=fun b e=>by rw[ad b (old b _ e).1 (old b _ e).2 (fun z=>by rw[z,hP] at e;cases e)];exact e
  have tabs:zev H1 P:=⟨_,am,by rw[Array.toList_append];exact TriplesOk_snoc _ _ _ _ tr,fun p'=>by
   rw[Array.toList_append]
   rcases zk4 (pos:=p') (pos':=pos) (c:=.ref c') ps.toList tr with z|z
   ·rcases ar p' with y|⟨d,y1,y2⟩
    ·exact .inl (z.trans y)
    ·exact .inr ⟨d,z.trans y1,ai d y2⟩
   ·exact .inr ⟨c',z,aq⟩⟩
  have same:Same H H1:=fun b o e=>by
   by_cases ae:b=P
   ·subst ae
    rw[hP] at e
    cases e
    exact⟨⟨_,am⟩,fun _=>tabs⟩
   ·exact Kp.of e (by rw[ad b (old b _ e).1 (old b _ e).2 ae];exact e) ai
  have un:Un X.fs [] H H1 s.heap (h'.push (PySem.W.kla_obj "<lambda>" (X.env.qual ++ "<lambda>") params body scope (ze9 scope X.env) ((X.mg "__name__").getD .none) c' ak)):=by
   have np:∀b,H b=none→b≠P:=fun b n z=>by rw[z,hP] at n;cases n
   refine⟨fun b o e n _ _=>keep b o (np b n) e,fun b o e n _ _=>⟨o.slots,keep b o (np b n) e⟩,fun b o e n _=>?_,fun b o e _=>?_,fun b xs e=>?_,fun b o u e=>?_,fun b qs e=>?_⟩
   ·have l:=Heap.lt_size e
    rw[ad b (Nat.ne_of_lt (Nat.lt_trans (Nat.lt_of_lt_of_le l af) ao)) (Nat.ne_of_lt (Nat.lt_of_lt_of_le l af)) (np b n)]
    exact n
   ·by_cases ae:b=P
    ·subst ae
     exact⟨_,Heap.get?_push_of_some _ av⟩
    ·exact⟨o,keep b o ae e⟩
   ·rw[ad b (old b _ e).1 (old b _ e).2 (fun z=>by rw[z,hP] at e;cases e)]
    exact e
   ·rw[ad b (old b _ e).1 (old b _ e).2 (fun z=>by rw[z,hP] at e;cases e)]
    exact e
   ·by_cases ae:b=P
    ·subst ae
     rw[hP] at e
     cases e
     exact⟨_,am⟩
    ·exact⟨#[],by rw[ad b (old b _ e).1 (old b _ e).2 ae,e];simp⟩
  have aB:HOk X.prog X.w H1 (h'.push (PySem.W.kla_obj "<lambda>" (X.env.qual ++ "<lambda>") params body scope (ze9 scope X.env) ((X.mg "__name__").getD .none) c' ak)):=fun b u e=>by
   by_cases h1:b=h'.objs.size
   ·subst h1
    rw[aw] at e
    cases e
    exact⟨⟨_,_,Heap.get?_push_size _ rfl⟩,⟨_,Heap.get?_push_size _ rfl⟩,fun h1 h2 ⟨pm,cv,z⟩ k=>⟨pm,cv,k _ z⟩⟩
   ·by_cases h2:b=c'
    ·subst h2
     rw[aq] at e
     cases e
     exact⟨⟨oc,vs,_,t,Heap.get?_push_of_some _ au,hd,hv⟩,⟨_,Heap.get?_push_of_some _ au⟩,fun h1 h2 ⟨o,v,qq,tt,z1,z2,z3⟩ k=>⟨o,v,qq,tt,k _ z1,z2,z3⟩⟩
    ·by_cases h3:b=P
     ·subst h3
      rw[am] at e
      cases e
      exact Heap.get?_push_of_some _ av
     ·rw[ad b h1 h2 h3] at e
      refine(I.hok b u e).stay (fun b' o' aC e'=>?_) (fun b' e'=>?_) fun b' xs e'=>?_
      ·refine keep b' o' ?_ e'
       rcases aC with z|z
       ·rw[z];exact h3
       ·intro z2;rw[z2,hP] at z;cases z
      ·rw[ad b' (old b' _ e').1 (old b' _ e').2 (fun z=>by rw[z,hP] at e';cases e')];exact e'
      ·rw[ad b' (old b' _ e').1 (old b' _ e').2 (fun z=>by rw[z,hP] at e';cases e')];exact e'
  exact⟨.ref h'.objs.size,H1,I.un un aB,rfl,q _ c' H1 ah same aw aq⟩
 ·refine PySem.W.kla_makeFunctionHit ay I.ok.glob hg hc C aj tr hf hb fun ak h' tk hk hsz=>?_
  have ah:H h'.objs.size=none:=I.hok.fresh hsz
  have keep:∀b o,s.heap.get? b=some o→(h'.push { cls:=.type "function",data:=.func (PySem.W.kla_fn "<lambda>" (X.env.qual ++ "<lambda>") params body scope (ze9 scope X.env) ((X.mg "__name__").getD .none) (.ref c') ak) }).get? b=some o:=fun b o e=>Heap.get?_push_of_some _ (hk b o e)
  have same:Same H (upd H h'.objs.size (.ext (zl1 h'.objs.size (X.env.qual ++ "<lambda>") params body scope (ze9 scope X.env) c'))):=zir fun b u e=>by rw[zaq (zax e ah)];exact e
  refine⟨.ref h'.objs.size,_,I.un (Un.laid keep hsz ah) (I.hok.laid keep hsz ?_),rfl,q _ c' _ ah same zaf (same c' _ aD)⟩
  exact⟨⟨_,_,Heap.get?_push_size _ rfl⟩,⟨_,Heap.get?_push_size _ rfl⟩,fun h1 h2 ⟨pm,cv,z⟩ k=>⟨pm,cv,k _ z⟩⟩
end
def zd4(h:Heap)(H:Hp)(st:List Env):Heap:=PySem.W.hideAll h (trk h H++frs st)
section
variable {X : Cx} {pins : List (Addr × Obj)} {σ : St} {H : Hp} {s : Shared}
theorem zkz{h:Heap}{H:Hp}{st:List Env}{b:Addr}{o:Obj}(e:(zd4 h H st).get? b=some o):h.get? b=some o∧H b=none∧b∉frs st:=by
 have e':h.get? b=some o:=PySem.W.of_hideAll _ e
 refine⟨e',?_,fun z=>?_⟩
 ·cases q:H b with
  |none=>rfl
  |some x=>
   have hm:b∈trk h H:=List.mem_filter.mpr ⟨List.mem_range.mpr (Heap.lt_size e'),by simp[q]⟩
   have z:(zd4 h H st).get? b=none:=PySem.W.hideAll_none _ (List.mem_append_left _ hm)
   rw[z] at e;cases e
 ·have y:(zd4 h H st).get? b=none:=PySem.W.hideAll_none _ (List.mem_append_right _ z)
  rw[y] at e;cases e
theorem zjw{h:Heap}{H:Hp}{st:List Env}{b:Addr}{o:Obj}(e:h.get? b=some o)(n:H b=none)(hf:b∉frs st):(zd4 h H st).get? b=some o:=
 PySem.W.hideAll_get _ e fun hm=>by
  rcases List.mem_append.mp hm with z|z
  ·have q:(H b).isSome=true:=(List.mem_filter.mp z).2
   rw[n] at q;simp at q
  ·exact hf z
theorem Inv.noStk(I:Inv X pins σ H s){b:Addr}{o:Obj}(e:X.base.get? b=some o):b∉frs X.stack:=fun hb=>by
 have:=(I.stack.mem hb).1
 rw[e] at this;cases this
theorem Inv.now(I:Inv X pins σ H s):zvp X.prog X.w X.K X.mg (zd4 s.heap H X.stack) X.A X.stack s H:=by
 have up:∀b o,X.base.get? b=some o→(zd4 s.heap H X.stack).get? b=some o:=fun b o e=>zjw (I.bs b o e).1 (I.bs b o e).2 (I.noStk e)
 obtain⟨mb,h1,h2⟩:=I.mod.blt
 refine⟨I.ok.frames,⟨I.mod.kin.keeps up,I.mod.glob.keeps up,⟨mb,h1.keeps up,h2⟩,I.mod.nolimit.keeps up⟩,fun b o e=>⟨(zkz e).1,(zkz e).2.1⟩,Nat.le_of_eq (PySem.W.hideAll_size _ _),?_,I.stkFree,I.hok,I.bare⟩
 have go:∀l:List Env,(∀b∈frs l,b∈frs X.stack)→s.heap.FunFrames X.base l→s.heap.FunFrames (zd4 s.heap H X.stack) l:=by
  intro l
  induction l with
  |nil=>intro _ _;trivial
  |cons env r ih=>
   intro hs hl
   obtain⟨hk,⟨L,o,hf,hn,ho,hd⟩,hr⟩:=hl
   have hL:L∈frs X.stack:=hs L (by unfold frs;rw[List.filterMap_cons,hf];exact List.mem_cons_self)
   refine⟨hk,⟨L,o,hf,?_,ho,hd⟩,ih (fun b hb=>hs b (by unfold frs;rw[List.filterMap_cons,hf];exact List.mem_cons_of_mem _ hb)) hr⟩
   exact PySem.W.hideAll_none _ (List.mem_append_right _ hL)
 exact go X.stack (fun _ h=>h) I.stack
theorem Inv.nowCell(I:Inv X pins σ H s){x:Str}{c:Addr}{v:Option Value}(hf:X.fn x=true)(hc:X.env.cells.lookup x=some c)(h:s.heap.IsCell c v):(zd4 s.heap H X.stack).IsCell c v:=by
 obtain⟨o,ho,hd⟩:=h
 refine⟨o,zjw ho (I.freeC x c hc) fun z=>?_,hd⟩
 rcases List.mem_cons.mp (I.stkSub c z) with e|e
 ·exact I.cne x c hc e
 ·obtain⟨_,ob,e2,_⟩:=I.ok.funs.mem e
  exact absurd (Nat.lt_of_lt_of_le (Heap.lt_size e2) (I.ok.cab x c hf hc)) (Nat.lt_irrefl _)
end
section
variable {X : Cx} {k : Nat} {f : Addr} {fd : FuncData} {ps : List Str} {x : Str} {p pos : Pos} {e : Expr} {es : List Expr} {t : TA}
def zsh(X:Cx)(σ:St)(base:Heap):Prop:=∀(i:Nat)(y:Str)(v:V),X.N[i]?=some y→σ[i]?=some (some v)→X.env.kindOf y=some .cell→∃c u,X.env.cells.lookup y=some c∧RelV v u∧base.IsCell c (some u)
theorem zk1(hr:Room k X.A)(hg:Gl X x)(hm:X.mg x=some (.ref f))(hk:PySem.W.keepIn X.K (.ref f)=true)(hb:Binds X.K fd ps [])(hfn:∀y,X.fn y=true)
  (ha:PA X (e::es) t) (hdb:(x==("__debug__" : Str))=false:=by decide) (he:starEach (e::es) X.env=(false,eval e X.env)::starEach es X.env:=by rfl) (hpl:(backTo pos (starEach es X.env)).any (·.1)=false:=by rfl):
  PE X (.Call (.Name x p) (e::es) [] pos) (fun σ H Q=>t σ H fun vs H1=>∀base:Heap,zsh X σ base→X.K.In base→base.Ns mainGlobals X.mg→∃sp:Sp,FnOk X.prog X.w X.K X.mg base CX0 k f fd ps sp∧sp vs H1 Q E0):=by
 intro pins s σ H Q I h
 refine wpAny_Call_Name_kw (zkj I hg hm ?_ hdb)
 refine PySem.W.callWith_K (h₀:=X.base) I.ok.mod.kin hk (thn (ha pos pins s σ H _ I h) fun us s1 ⟨vs,H1,I1,r,q⟩=>⟨I1.kIn,?_⟩) he hpl
 have e0:=I1.now
 have ci:zsh X σ (zd4 s1.heap H1 X.stack):=fun i y v hN hv hk=>by
  obtain⟨m,hn,hl⟩:=I1.loc
  obtain⟨u,ru,l⟩:=hl i y v hN hv (.inr (.inl hk))
  rcases l with⟨ae,_⟩|⟨_,c,hc,ad⟩
  ·rw[hk] at ae;cases ae
  ·exact⟨c,u,hc,ru,I1.nowCell (hfn y) hc ad⟩
 obtain⟨sp,F,hs⟩:=q _ ci e0.mod.kin e0.mod.glob
 have hl:us.length=ps.length:=by rw[←r.length];exact F.len _ _ _ _ hs
 have af:=hb s1 us I1.kIn (by rw[List.append_nil];exact hl)
 rw[List.append_nil] at af
 refine wpAny_call (codeAny_mono (F.run X.A X.stack s1 H1 ⟨us,[]⟩ us vs Q E0 hr e0 af r hs) fun r s' hq=>?_)
 cases r with
 |error e=>exact hq.elim
 |ok fl=>
  cases fl with
  |ret u=>exact I1.after hq
  |next=>exact False.elim hq
  |brk=>exact False.elim hq
  |cont=>exact False.elim hq
theorem zp4{i:Nat}{φ:Heap→Prop}{sp:Sp}(F:FnOk X.prog X.w X.K X.mg X.base CX0 k f fd ps sp)(hr:Room k X.A)(hN:X.N[i]?=some x)(hv:Vis X.env.scope x)(hb:Binds X.K fd ps [])
  (hφ:∀h:Heap,φ h→∃o fd',h.get? f=some o∧o.data=.func fd') (ha:PA X (e::es) t)
  (hdb:(x==("__debug__" : Str))=false:=by decide) (hcd:(x==("__classdict__" : Str))=false:=by decide) (he:starEach (e::es) X.env=(false,eval e X.env)::starEach es X.env:=by rfl) (hpl:(backTo pos (starEach es X.env)).any (·.1)=false:=by rfl):
  PE X (.Call (.Name x p) (e::es) [] pos) (fun σ H Q=>σ[i]?=some (some (.ref f))∧t σ H fun vs H1=>H1 f=some (.ext φ)∧sp vs H1 Q E0):=by
 intro pins s σ H Q I h
 obtain⟨hσ,h⟩:=h
 refine wpAny_Call_Name_kw (wpAny_mono (zu9 hN hv hdb hcd pins s σ H (fun v H'=>v=.ref f∧H'=H) I ⟨_,hσ,rfl,rfl⟩) (fun u s1 hu=>?_) fun _ _ z=>z)
 obtain⟨v,H',I',rv,e1,e2⟩:=hu
 subst e1
 subst e2
 obtain rfl:u=Value.ref f:=rv
 have h2:wpAny (model X.prog X.w) X.A (spliced (backTo pos (starEach (e::es) X.env))) (fun vs s₁=>(∃o fd',s₁.heap.get? f=some o∧o.data=.func fd')∧wpAny (model X.prog X.w) X.A (call (.ref f) ([]++vs)) (EP X pins σ Q) X.xe s₁) X.xe s1:=by
  refine thn (ha pos pins s1 σ _ _ I' h) fun us s2 ⟨vs,H1,I1,r,e3,q⟩=>⟨hφ _ (zr8 e3 I1.hok),?_⟩
  have hq:=zwg (ds:=[]) (dvs:=[]) (E:=E0) F hr hb .nil zlx I1 r (by rw[List.append_nil];exact q)
  exact hq
 rw[he] at h2
 show wpAny _ _ (callWith pos (.ref f) [] (backTo pos (starEach (e::es) X.env)) []) _ _ s1
 rw[he]
 refine PySem.W.callWith_of (by show((false||(backTo pos (starEach es X.env)).any (·.1))||false)=false;rw[hpl];rfl) (P:=fun h=>∃o fd',h.get? f=some o∧o.data=.func fd') (fun h ⟨o,fd',e1,e2⟩=>?_) (Calls.evalArgs_plain h2)
 obtain⟨oc,od,ad,os⟩:=o
 cases e2
 exact⟨.frame,.inl rfl,(PySem.W.Looks.ld (part:=none) e1).andThen .now⟩
end
structure zlh(ps fr:List Str)(sc:Scope):Prop where
 kind:sc.kind=.function
 co:sc.isCoroutine=false
 gen:sc.isGenerator=false
 nd:ps.Nodup
 par:∀x∈ps,sc.names.lookup x=some .local
 fre:∀x∈fr,sc.names.lookup x=some .free
 nocell:∀y∈sc.names,y.2≠.cell
theorem zld{ps:List Str}{us:List Value}{i:Nat}{x:Str}{u:Value}(nd:ps.Nodup)(h1:ps[i]?=some x)(h2:us[i]?=some u):(ps.zip us).reverse.lookup x=some u:=by
 have hm:(x,u)∈(ps.zip us).reverse:=List.mem_reverse.mpr (List.mem_of_getElem? (i:=i) (by rw[List.getElem?_zip_eq_some];exact⟨h1,h2⟩))
 obtain⟨c,hc⟩:=zet hm
 have h3:=List.mem_reverse.mp (PySem.mem_of_lookup hc)
 obtain⟨j,hj⟩:=List.getElem?_of_mem h3
 rw[List.getElem?_zip_eq_some] at hj
 have ad:j=i:=by
  obtain⟨l1,e1⟩:=List.getElem?_eq_some_iff.mp h1
  obtain⟨l2,e2⟩:=List.getElem?_eq_some_iff.mp hj.1
  rw[List.nodup_iff_pairwise_ne,List.pairwise_iff_getElem] at nd
  rcases Nat.lt_trichotomy j i with z|z|z
  ·exact absurd (e2.trans e1.symm) (nd j i l2 l1 z)
  ·exact z
  ·exact absurd (e1.trans e2.symm) (nd i j l1 l2 z)
 rw[ad,h2] at hj
 rw[hc,hj.2]
def zsy(P:Program)(w:World)(K:PySem.W.Frag)(mg:Str→Option Value)(base:Heap)(N:List Str)(q:Str)(scope:Scope)(f c:Addr)(cl:List (Str×Addr))(A:Around)(outer:List Env)(s:Shared)(H:Hp):Cx where
 prog:=P
 w:=w
 K:=K
 mg:=mg
 base:=base
 A:=A.deeper (PySem.W.envX q scope s.heap.objs.size f (.ref c) cl)
 N:=N
 s₀:=s
 H₀:=H
 env:=PySem.W.envX q scope s.heap.objs.size f (.ref c) cl
 outer:=outer
 stack:=PySem.W.envX q scope s.heap.objs.size f (.ref c) cl::outer
 ex:=[]
 calm:=true
 fn:=fun _=>false
 pn:=[]
 xe:=fun _ _=>False
theorem zwf{prog:Program}{w:World}{A:Around}{R:Result→Shared→Prop}{s:Shared}{a:Addr}{args:Args}{o:Obj}{fd:FuncData}{body:Expr}{q:Str}(hroom:A.depth<recursionLimit)
  (ho:s.heap.get? a=some o)
  (hd':o.data=.func fd) (hco:fd.scope.isCoroutine=false) (hgen:fd.scope.isGenerator=false) (hbody:fd.body=.expr body) (hcd:∃c oc vs t,fd.code=.ref c∧s.heap.get? c=some oc∧oc.data=.fields vs∧vs[1]?=some (.str q t))
  (h:wpAny (model prog w) A.in1 (bindArgs fd args) (fun binds s₁=>
   wpAny (model prog w) A.in1 (newFunctionEnv fd.scope fd.globals fd.closure binds (q ++ ".<locals>.") (some a) fd.code none fd.builtins)
    (fun env s₂=>s₂.heap.NoLimit∧codeAny (model prog w) A (.expr body env) R s₂) (fun e s'=>R (.error e) s') s₁) (fun e s'=>R (.error e) s') s):
  codeAny (model prog w) A (.call (.ref a) args) R s:=by
 refine codeAny_of_tree ?_
 show wpAny _ A.in1 (callAny (.ref a) args) _ _ s
 simp only[callAny]
 refine wpAny_bind (wpAny_load ho ?_)
 obtain⟨c,oc,vs,tq,hc,ad,ae,hq⟩:=hcd
 simp only[hd',callFunction,hco,hgen,hbody,hc]
 rw[hc] at h
 refine wpAny_bind (m:=field (.ref c) 1) (wpAny_field ad ae hq (wpAny_bind (wpAny_pure ?_)))
 exact wpAny_bind (wpAny_mono h (fun binds s₁ h₁=>wpAny_bind (wpAny_mono h₁ (fun env s₂ h₂=>wpAny_bind (wpAny_enterFrame h₂.1 hroom
  (wpAny_pure (And.intro rfl h₂.2)))) fun _ _ h'=>h')) fun _ _ h'=>h')
theorem zvc{P:Program}{w:World}{K:PySem.W.Frag}{mg:Str→Option Value}{base:Heap}{f c:Addr}{qual:Str}{params:Arguments}{body:Expr}{scope:Scope}{cl:List (Str×Addr)}{ps fr:List Str}{fv:List V}{k:Nat}{sp:Sp}
  (S:zlh ps fr scope) (hcl:∀x cc,cl.lookup x=some cc→∃v,base.IsCell cc v) (inj:∀x y cc,cl.lookup x=some cc→cl.lookup y=some cc→x=y) (has:∀y∈scope.names,y.2=.free→∃cc,cl.lookup y.1=some cc)
  (hfv:∀(i:Nat)(x:Str)(v:V),fr[i]?=some x→fv[i]?=some v→∃cc u,cl.lookup x=some cc∧RelV v u∧base.IsCell cc (some u)) (hlen:fv.length=fr.length)
  (hsame:∀pm ctv args,bindArgs (PySem.W.kla_fn "<lambda>" qual params body scope cl pm (.ref c) ctv) args=bindArgs (PySem.W.kla_fn "<lambda>" qual params body scope cl .none (.ref c) .none) args)
  (len:∀vs H Q E,sp vs H Q E→vs.length=ps.length)
  (lam:∀vs H Q E,sp vs H Q E→H f=some (.ext (zl1 f qual params body scope cl c))∧H c=some (.ext (zgw c)))
  (hbody:∀(q:Str)(A:Around)(outer:List Env)(s:Shared)(H:Hp)(vs:List V)(Q:VK)(E:XK),Room k (A.deeper (PySem.W.envX q scope s.heap.objs.size f (.ref c) cl))→sp vs H Q E →
   ∃t,PE (zsy P w K mg base (ps++fr) q scope f c cl A outer s H) body t∧t (vs.map some++fv.map some) H Q):
  FnOk P w K mg base CX0 (k+1) f (PySem.W.kla_fn "<lambda>" qual params body scope cl .none (.ref c) .none) ps sp:=by
 refine⟨len,fun A outer s H args us vs Q E hr e0 hb r ak=>?_⟩
 have hl:=len _ _ _ _ ak
 obtain⟨hf,hc⟩:=lam _ _ _ _ ak
 obtain⟨pm,ctv,ho⟩:=zr8 hf e0.hok
 obtain⟨oc,ao,q,t,am,au,al⟩:=zr8 hc e0.hok
 have ar:s.heap.NoLimit:=e0.mod.nolimit.keeps fun b o e=>(e0.bs b o e).1
 have ai:∀{cc v},base.IsCell cc v→s.heap.IsCell cc v∧H cc=none:=fun {cc v} ⟨o,e,d⟩=>⟨⟨o,(e0.bs _ _ e).1,d⟩,(e0.bs _ _ e).2⟩
 refine zwf hr.depth ho rfl S.co S.gen rfl ⟨c,oc,ao,t,rfl,am,au,al⟩ ?_
 rw[hsame]
 refine hb _ _ _ _ ?_
 have ah:∀y∈ps.zip us,scope.names.lookup y.1=some .local:=fun⟨n,v⟩ hy=>S.par n (List.of_mem_zip hy).1
 refine wpAny_newFunctionEnv S.nocell ah (fun h₁ aq ap=>?_) S.kind
 have af:∀b o,s.heap.get? b=some o→h₁.get? b=some o:=fun b o e=>ap.extBut b o (Nat.ne_of_lt (Heap.lt_size e)) (Heap.get?_push_of_some _ e)
 refine⟨ar.keeps af,?_⟩
 obtain⟨tt,ht,hq⟩:=hbody q A outer s H vs Q E (hr.deeper _) ak
 have aj:∀b:Addr,b∉([]:List Addr):=fun b z=>by simp at z
 have ae:∀x,(scope.names.lookup x=some .cell∨scope.names.lookup x=some .free)→∃cc,cl.lookup x=some cc:=fun x hx=>by
  rcases hx with z|z
  ·exact absurd rfl (S.nocell _ (PySem.mem_of_lookup z))
  ·exact has _ (PySem.mem_of_lookup z) rfl
 have I:Inv (zsy P w K mg base (ps++fr) q scope f c cl A outer s H) [] (vs.map some++fv.map some) H { s with heap:=h₁,toks:=s.toks+(ps.zip us).length }:=by
  refine⟨⟨e0.mod,S.kind,rfl,rfl,Nat.le_refl _,inj,ae,fun x cc z=>(by cases z),fun _=>hr.hd,Around.frames_deeper e0.frames,.inr ⟨rfl,rfl⟩,fun b z=>absurd z (aj b),e0.bs,e0.bsz,fun b _ _=>aj b,fun b z=>absurd z (aj b),e0.funs,e0.frf⟩,
   rfl,e0.bare,Un.kept af,⟨_,aq,fun i x v h1 h2 h3=>?_⟩,fun x cc e=>?_,e0.hok.fresh (Nat.le_refl _),fun x cc e=>?_,fun p hp=>absurd (show p∈([]:List (Addr×Obj)) from hp) (by simp),e0.hok.kept af,?_⟩
  ·have ad:(ps++fr)[i]?=some x:=h1
   by_cases hi:i<ps.length
   ·rw[List.getElem?_append_left hi] at ad
    rw[List.getElem?_append_left (by rw[List.length_map,hl];exact hi),List.getElem?_map] at h2
    obtain⟨v',hv,e⟩:=Option.map_eq_some_iff.mp h2
    cases e
    obtain⟨u,hu,rv⟩:=r.get hv
    exact⟨u,rv,.inl ⟨S.par x (List.mem_of_getElem? ad),zld S.nd ad hu⟩⟩
   ·rw[List.getElem?_append_right (by omega)] at ad
    rw[List.getElem?_append_right (by rw[List.length_map,hl];omega),List.getElem?_map,List.length_map,hl] at h2
    obtain⟨v',hv,e⟩:=Option.map_eq_some_iff.mp h2
    cases e
    obtain⟨cc,u,e1,ru,ic⟩:=hfv _ _ _ ad hv
    exact⟨u,ru,.inr ⟨.inr (S.fre x (List.mem_of_getElem? ad)),cc,e1,(ai ic).1.keeps af⟩⟩
  ·obtain⟨v,ic⟩:=hcl x cc e
   exact⟨v,(ai ic).1.keeps af⟩
  ·obtain⟨v,ic⟩:=hcl x cc e
   exact(ai ic).2
  ·show(vs.map some++fv.map some).length=(ps++fr).length
   rw[List.length_append,List.length_append,List.length_map,List.length_map,hl,hlen]
 refine PySem.W.kla_codeExpr (wpAny_mono (ht [] _ _ H _ I hq) (fun u s' hs=>?_) fun e s' hs=>hs.elim)
 obtain⟨v,H',J,rv,qq⟩:=hs
 exact⟨v,H',J.os,J.bare,J.base,J.hok,rv,qq⟩
theorem Fun.okC{P:Program}{w:World}{K:PySem.W.Frag}{mg:Str→Option Value}{base:Heap}{x qual:Str}{st:Stmt}{f:Addr}{fd:FuncData}{N ps:List Str}{k:Nat}{sp:Sp}(F:Fun K x qual st f fd)(S:zap N ps (zag st))(len:∀vs H Q E,sp vs H Q E→vs.length=ps.length)
  (hbody:∀(cdv:Value)(A:Around)(outer:List Env)(s:Shared)(H:Hp)(vs:List V)(Q:VK)(E:XK),fd.code=cdv→Room k (A.deeper (envOfC qual (zag st) s.heap.objs.size f cdv))→sp vs H Q E →
   ∃t,PSs (zci CX0 P w K mg base N qual (zag st) f cdv A outer s H E).nox (za8 st) t∧t { nx:=fun _ H'=>Q .non H',rt:=Q } (zhx N vs) H):FnOk P w K mg base CX0 (k+1) f fd ps sp:=by
 obtain⟨oc,od,kV,doc,pm,an,cdv,ct,osl,rfl,lk,ad⟩:=F.ex
 refine zwe lk ad S len fun A outer s H vs Q E hr ae=>?_
 obtain⟨t,h,q⟩:=hbody cdv A outer s H vs Q E rfl hr ae
 exact⟨t,h.nox,q⟩
theorem ztj{P:Program}{w:World}{K:PySem.W.Frag}{mg mb:Str→Option Value}{k:Nat}{fa a:Addr}{fd:FuncData}{x:Str}{sp:Sp}{s₁:Shared}{vs:List Value}{ns:List Int}{tabs:List (Addr×Addr)}
  (KX:K.In s₁.heap) (hns:s₁.heap.Ns mainGlobals mg) (hb:s₁.heap.Ns builtinsNs mb) (hbb:∀x:Str,x ≠ "__name__" → mb x=bootBuiltins x) (hlim:s₁.heap.NoLimit) (hg:s₁.gens=#[])
  (hT:PySem.W.TabsAt tabs s₁.heap) (hK0:PySem.W.noTabs K=true)
  (hbm:∃bm ob,mg "__builtins__" = some (.ref bm)∧bm≠builtinsNs∧s₁.heap.get? bm=some ob∧ob.cls=.type "module" ∧ ob.dict=some builtinsNs∧ob.data=.plain)
  (ha:s₁.heap.get? a=some { cls:=.type "list",data:=.seq vs.toArray }) (hi:IntsAre vs ns) (hl:ns.length≤sizeLine) (hr:Room k callerA)
  (F:∀base:Heap,K.In base→base.Ns mainGlobals mg→(∀q∈tabs,zdm mg base q.1 q.2)→FnOk P w K mg base CX0 k fa fd [x] sp) (hbind:∀(s:Shared)(u:Value),BindsTo s fd ⟨[u],[]⟩ [(x,u)])
  (hsp:∀H:Hp,(∀q∈tabs,zev H q.2)→SqL K H a (ns.map V.int)→sp [.ref a] H (fun v _=>v=.bl true) fun _ _ _=>False):
  codeAny (model P w) callerA (.call (.ref fa) ⟨[.ref a],[]⟩) (fun r s'=>r=.ok (.ret (.bool true))∧OldK s₁.heap s'.heap∧s'.os=s₁.os∧AllBare s'.gens) s₁:=by
 have rv:=zi9 hi
 have am:=hi.length
 have ay:∀q∈tabs,q.2≠a:=fun q hq z=>by
  have e:=(hT q hq).2
  rw[z,ha] at e;cases e
 have aw:∀q∈tabs,K.lookup q.2=none:=fun q hq=>by
  cases e:K.lookup q.2 with
  |none=>rfl
  |some o=>
   have e1:=KX _ _ e
   rw[(hT q hq).2] at e1
   cases e1
   have h2:=List.all_eq_true.mp hK0 (q.2,_) (PySem.W.mem_of_lookupK e)
   exact absurd (show false=true from h2) Bool.false_ne_true
 have aj:∀H:Hp,(∀b,H b=none∨(∃o xs,H b=some (.frz o (.lst xs))∧b=a∧K.lookup a=none)∨(H b=some (.tbl #[])∧b∈tabs.map (·.2)))→(∀q∈tabs,H q.2=some (.tbl #[]))→SqL K H a (ns.map V.int)→HOk P w H s₁.heap →
   codeAny (model P w) callerA (.call (.ref fa) ⟨[.ref a],[]⟩) (fun r s'=>r=.ok (.ret (.bool true))∧OldK s₁.heap s'.heap∧s'.os=s₁.os∧AllBare s'.gens) s₁:=by
  intro H hO ax hS au
  have aq:∀{b:Addr} {o:Obj},s₁.heap.get? b=some o→o≠PySem.W.tabObj #[]→b≠a→H b=none:=fun {b o} e hne hba=>by
   rcases hO b with z|⟨_,_,_,z,_⟩|⟨_,z⟩
   ·exact z
   ·exact absurd z hba
   ·obtain⟨q,hq,rfl⟩:=List.mem_map.mp z
    rw[(hT q hq).2] at e
    exact absurd (Option.some.inj e).symm hne
  have ad:∀{b:Addr} {o:Obj},s₁.heap.get? b=some o→H b=none→(zl3 s₁.heap H).get? b=some o:=fun e n=>zvo e n
  have az:∀{b:Addr} {o:Obj} {es:Array DictEntry} {ep:Nat},s₁.heap.get? b=some o→o.data=.dict es ep→H b=none:=fun {b o es ep} e d=>by
   refine aq e (fun z=>by rw[z] at d;cases d) fun z=>?_
   subst z
   rw[ha] at e;cases e;cases d
  have al:∀{b:Addr} {m:Str→Option Value},s₁.heap.Ns b m→(zl3 s₁.heap H).Ns b m:=fun {b m} ⟨o,es,ep,e,d,r⟩=>⟨o,es,ep,ad e (az e d),d,r⟩
  have av:K.In (zl3 s₁.heap H):=fun b o e=>ad (KX b o e) (by
   rcases hO b with z|⟨_,_,_,z,y⟩|⟨_,z⟩
   ·exact z
   ·rw[z,y] at e;cases e
   ·obtain⟨q,hq,rfl⟩:=List.mem_map.mp z
    rw[aw q hq] at e;cases e)
  have hM:Mod K mg (zl3 s₁.heap H):=⟨av,al hns,⟨mb,al hb,hbb⟩,let ⟨mc,h1,h2⟩:=hlim;⟨mc,al h1,h2⟩⟩
  have hL:∀q∈tabs,zdm mg (zl3 s₁.heap H) q.1 q.2:=fun q hq=>by
   refine⟨?_,?_⟩
   ·obtain⟨o,ws,ar,tf,ai,tg,aA,ap,tt,e,e1,r⟩:=(hT q hq).1
    refine⟨o,ws,ar,tf,ai,tg,aA,ap,tt,ad e (aq e (fun z=>by rw[z] at e1;cases e1) fun z=>?_),e1,r⟩
    rw[z,ha] at e;cases e;exact absurd e1 (by simp)
   ·obtain⟨bm,ob,b1,b2,b3,b4,b5⟩:=hbm
    refine⟨bm,ob,b1,b2,ad b3 (aq b3 (fun z=>by rw[z] at b4;cases b4) fun z=>?_),b4,b5⟩
    rw[z,ha] at b3;cases b3;exact absurd b4 (by simp)
  have e0:zvp P w K mg (zl3 s₁.heap H) callerA [] s₁ H:=⟨rfl,hM,fun b o e=>zw5 e,Nat.le_of_eq (ztg _ _),trivial,fun b hb=>absurd (show b∈([]:List Addr) from hb) (by simp),au,.of_eq hg⟩
  have tk:∀q∈tabs,zev H q.2:=fun q hq=>⟨#[],ax q hq,trivial,fun _=>.inl rfl⟩
  refine codeAny_mono ((F _ av (al hns) hL).run callerA [] s₁ H ⟨[.ref a],[]⟩ [.ref a] [.ref a] _ _ hr e0 (hbind s₁ (.ref a)) (.cons rfl .nil) (hsp H tk hS)) fun r s' h=>?_
  cases r with
  |error e=>exact h.elim
  |ok fl=>
   cases fl with
   |next=>exact False.elim h
   |brk=>exact False.elim h
   |cont=>exact False.elim h
   |ret u=>
    obtain⟨v,H',os,ao,un,ak,r',q⟩:=h
    have q':v=.bl true:=q
    subst q'
    obtain rfl:u=Value.bool true:=r'
    have ae:∀b o,s₁.heap.get? b=some o→s'.heap.get? b=some o∨(∃q∈tabs,b=q.2∧∃ps,s'.heap.get? b=some (PySem.W.tabObj ps)):=fun b o e=>by
     rcases hO b with z|⟨ob,xs,z,_⟩|⟨z,y⟩
     ·exact .inl (un.keep b o e z (by intro z;exact absurd (show b∈([]:List Addr) from z) (by simp)) (by simp))
     ·have z2:=un.frzs b ob _ z
      obtain⟨e1,_⟩:=au b _ z
      obtain⟨e2,_⟩:=ak b _ z2
      rw[e] at e1;cases e1
      exact .inl e2
     ·obtain⟨q,hq,rfl⟩:=List.mem_map.mp y
      obtain⟨more,z2⟩:=un.tbls _ _ z
      exact .inr ⟨q,hq,rfl,_,ak _ _ z2⟩
    refine⟨rfl,⟨fun b o e=>?_,fun b o e=>?_⟩,os,ao⟩
    ·rcases ae b o e with z|⟨q,hq,rfl,ps,z⟩
     ·exact .inl z
     ·have e2:=(hT q hq).2
      rw[e] at e2
      cases e2
      exact .inr (.inl ⟨((hT q hq).1.tab (hT q hq).2).isCodeTable,rfl,#[],ps,rfl,by rw[Array.empty_append];exact z⟩)
    ·rcases ae b o e with z|⟨q,hq,rfl,ps,z⟩
     ·exact⟨_,z⟩
     ·exact⟨_,z⟩
 have ah:∀b,b∈tabs.map (·.2)→s₁.heap.get? b=some (PySem.W.tabObj #[]):=fun b hb=>by
  obtain⟨q,hq,rfl⟩:=List.mem_map.mp hb
  exact(hT q hq).2
 cases hk:K.lookup a with
 |some o=>
  have e:=KX a o hk
  rw[ha] at e
  cases e
  refine aj (fun b=>if b∈tabs.map (·.2) then some (.tbl #[]) else none) (fun b=>?_) (fun q hq=>if_pos (List.mem_map_of_mem hq)) (.inr ⟨_,vs.toArray,_,hk,rfl,rfl,rfl,by rw[List.size_toArray,am];exact hl,by simpa using rv⟩) (fun b u z=>?_)
  ·by_cases hb:b∈tabs.map (·.2)
   ·exact .inr (.inr ⟨if_pos hb,hb⟩)
   ·exact .inl (if_neg hb)
  ·by_cases hb:b∈tabs.map (·.2)
   ·have z':=(if_pos hb).symm.trans z
    cases z'
    exact ah b hb
   ·have z':=(if_neg hb).symm.trans z
    cases z'
 |none=>
  refine aj (fun b=>if b=a then some (.frz { cls:=.type "list",data:=.seq vs.toArray } (.lst (ns.map V.int))) else if b∈tabs.map (·.2) then some (.tbl #[]) else none) (fun b=>?_) (fun q hq=>?_) (.inl (.inr ⟨{ cls:=.type "list",data:=.seq vs.toArray },if_pos rfl⟩)) (fun b u z=>?_)
  ·by_cases hb:b=a
   ·exact .inr (.inl ⟨_,_,if_pos hb,hb,hk⟩)
   ·by_cases af:b∈tabs.map (·.2)
    ·exact .inr (.inr ⟨(if_neg hb).trans (if_pos af),af⟩)
    ·exact .inl ((if_neg hb).trans (if_neg af))
  ·exact(if_neg (ay q hq)).trans (if_pos (List.mem_map_of_mem hq))
  ·by_cases hb:b=a
   ·have z':=(if_pos hb).symm.trans z
    cases z'
    subst hb
    exact⟨ha,by rw[List.length_map];exact hl,vs,_,rv,ha⟩
   ·have z1:=(if_neg hb).symm.trans z
    by_cases af:b∈tabs.map (·.2)
    ·have z':=(if_pos af).symm.trans z1
     cases z'
     exact ah b af
    ·have z':=(if_neg af).symm.trans z1
     cases z'
theorem walk_ofT{l:PySem.W.OpenLaw}{n k:Nat}{q:Program}{loose:List Str}{XP:(Str→Option Value)→Heap→Prop}{YP:World→Heap→Prop}{d:DefRec}{K:Params→PySem.W.Frag}{sp:World→Sp}{x:Str}{tabs:World→List (Addr×Addr)}
  (hn:l.most=some n) (hn2:n≤sizeLine) (hdf:d.params.defaults=[]) (hr:Room k callerA)
  (hY:∀(w:World)(h:Heap),YP w h→(K w.params).In h) (hK0:∀w:World,PySem.W.noTabs (K w.params)=true)
  (hT:∀(w:World)(h:Heap),YP w h→PySem.W.TabsAt (tabs w) h)
  (F:∀(w:World)(mg:Str→Option Value)(fa:Addr)(h:Heap),(K w.params).In h→h.Ns mainGlobals mg→mg d.name=some (.ref fa) →
   ∃fd:FuncData,(∀(s:Shared)(u:Value),BindsTo s fd ⟨[u],[]⟩ [(x,u)]) ∧
    ∀base:Heap,(K w.params).In base→base.Ns mainGlobals mg→(∀p∈tabs w,zdm mg base p.1 p.2)→FnOk l.prog w (K w.params) mg base CX0 k fa fd [x] (sp w))
  (hsp:∀(w:World)(H:Hp)(a:Addr)(ns:List Int),ns.length≤n→(∀p∈tabs w,zev H p.2)→SqL (K w.params) H a (ns.map V.int)→sp w [.ref a] H (fun v _=>v=.bl true) fun _ _ _=>False):
  PySem.W.WalkO q loose XP YP l.row.toRowW d [] (fun f vs=>PySem.call f vs):=by
 refine Att.attach_call hn hdf fun w s₀ s₁ mg mb fa o pm cd doc a vs ns G Y ho hd aj ah af ad ae hg=>?_
 have KX:=hY w _ Y
 obtain⟨fd,hb,hF⟩:=F w mg fa _ KX G.T.g ah
 have ai:=hT w _ Y
 exact ztj KX G.T.g G.T.b G.T.builtins G.T.nolimit hg ai (hK0 w) G.T.bmain af ad (Nat.le_trans ae hn2) hr hF hb fun H hO hS=>hsp w H a ns ae hO hS
def zho:Expr→Expr
 |.Call _ args _ _=>args.getLastD (.Constant .none 0 ⟨0,0,0,0⟩)
 |e=>e
def zfc:Expr→Scope
 |.Lambda _ _ sc _=>sc
 |_=>{ kind:=.function,names:=[],isGenerator:=false,isCoroutine:=false }
theorem zb8{x y:Str}{c cc:Addr}(h:[(y,c)].lookup x=some cc):x=y∧cc=c:=by
 have m:=PySem.mem_of_lookup h
 rw[List.mem_singleton] at m
 cases m
 exact⟨rfl,rfl⟩
end L2
namespace Wd
open PySem L2 Ow
theorem zit{b:Bool}{A B:Prop}(hb:b=true)(h:A):if b=true then A else B:=by
 rw[if_pos hb]
 exact h
theorem ze2{b:Bool}{A B:Prop}(hb:b=false)(h:B):if b=true then A else B:=by
 rw[if_neg (by rw[hb];simp)]
 exact h
def spT(P0:Addr)(sp:Sp):Sp:=fun vs H Q E=>zev H P0∧sp vs H Q E
def zdz(ts:List Tie)(il:List Nat)(m:Nat)(leaf:Nat→Nat→Option PyData):Nat→Nat→Nat→PyData
 |f,y,n=>match za5 ts il y n with
  |some t=>.tuple [.str ("broken" : Str),.int (t:Int)]
  |none=>match leaf y n with
   |some d=>d
   |none=>match zay m y n,f with
    |k::_,f+1=>.tuple [.str ("split" : Str),.int (k:Int),zdz ts il m leaf f (y|||2^k) n,zdz ts il m leaf f y (n|||2^k)]
    |_,_=>.tuple []
section
variable {ts : List Tie} {il : List Nat} {m f y n : Nat} {leaf : Nat → Nat → Option PyData}
theorem zfr{i:Nat}(hb:za5 ts il y n=some i):zdz ts il m leaf f y n=.tuple [.str ("broken" : Str),.int (i:Int)]:=by
 unfold zdz
 simp[hb]
theorem zh4{d:PyData}(hb:za5 ts il y n=none)(hl:leaf y n=some d):zdz ts il m leaf f y n=d:=by
 unfold zdz
 simp[hb,hl]
theorem zgk{k:Nat}{r:List Nat}(hb:za5 ts il y n=none)(hl:leaf y n=none)(ho:zay m y n=k::r):zdz ts il m leaf (f+1) y n=.tuple [.str ("split" : Str),.int (k:Int),zdz ts il m leaf f (y|||2^k) n,zdz ts il m leaf f y (n|||2^k)]:=by
 conv=>lhs;unfold zdz
 simp only[hb,hl,ho]
end
def zi0(leaf:Nat→Nat→Option PyData)(y n:Nat)(H:Hp)(v:V):Prop:=match leaf y n with
 |none=>v=.non
 |some d=>Dn H d v∧∃p,v=.ref p
def zzt(C:Hp→Prop)(leaf:Nat→Nat→Option PyData):Sp:=fun vs H Q _=>∃y n:Nat,vs=[.int y,.int n]∧C H∧∀(v:V)(H':Hp),Same H H'→zi0 leaf y n H' v→Q v H'
def EndsR(ts:List Tie)(il:List Nat)(m:Nat)(leaf:Nat→Nat→Option PyData)(y n:Nat):Prop:=∃R:Nat→Nat→Prop,R y n∧(∀y n k,R y n→k∈zay m y n→R (y|||2^k) n∧R y (n|||2^k))∧∀y n,R y n→za5 ts il y n=none→zay m y n=[]→leaf y n≠none
theorem EndsR.all{ts:List Tie}{il:List Nat}{m:Nat}{leaf:Nat→Nat→Option PyData}(h:∀y n,za5 ts il y n=none→zay m y n=[]→leaf y n≠none)(y n:Nat):EndsR ts il m leaf y n:=⟨fun _ _=>True,trivial,fun _ _ _ _ _=>⟨trivial,trivial⟩,fun y n _=>h y n⟩
def zom(f:Nat)(p:Addr)(C:Hp→Prop)(m:Nat)(leaf:Nat→Nat→Option PyData):Sp:=fun vs H Q _=>∃(wd:Addr)(ts:List Tie)(tl:Addr)(il:List Nat)(y n:Nat),vs=[.ref wd,.ref tl,.int y,.int n,.ref p]∧WoodT H wd m ts∧H tl=some (.lst (zaj il))∧(∀i∈il,i<ts.length)∧(zay m y n).length≤f∧C H∧EndsR ts il m leaf y n∧∀(v:V)(H':Hp),Same H H'→Dn H' (zdz ts il m leaf f y n) v→Q v H'
theorem zvg{P:Program}{w:World}{K:PySem.W.Frag}{mg:Str→Option Value}{base:Heap}{p c:Addr}{qual:Str}{params:Arguments}{body:Expr}{scope:Scope}{cl:List (Str×Addr)}{H1:Hp}{ps fr:List Str}{fv:List V}{k:Nat}{leaf:Nat→Nat→Option PyData}(C0:Hp→Prop)
  (hp:H1 p=some (.ext (zl1 p qual params body scope cl c)))
  (S:zlh ps fr scope) (hcl:∀x cc,cl.lookup x=some cc→∃v,base.IsCell cc v) (inj:∀x y cc,cl.lookup x=some cc→cl.lookup y=some cc→x=y) (has:∀y∈scope.names,y.2=.free→∃cc,cl.lookup y.1=some cc)
  (hfv:∀(i:Nat)(x:Str)(v:V),fr[i]?=some x→fv[i]?=some v→∃cc u,cl.lookup x=some cc∧RelV v u∧base.IsCell cc (some u)) (hlen:fv.length=fr.length)
  (hsame:∀pm ctv args,bindArgs (PySem.W.kla_fn "<lambda>" qual params body scope cl pm (.ref c) ctv) args=bindArgs (PySem.W.kla_fn "<lambda>" qual params body scope cl .none (.ref c) .none) args)
  (len2:ps.length=2)
  (hbody:∀(q:Str)(A:Around)(outer:List Env)(s:Shared)(H:Hp)(y n:Nat)(Q:VK),Room k (A.deeper (PySem.W.envX q scope s.heap.objs.size p (.ref c) cl))→C0 H→(∀(v:V)(H':Hp),Same H H'→zi0 leaf y n H' v→Q v H') →
   ∃t,PE (zsy P w K mg base (ps++fr) q scope p c cl A outer s H) body t∧t ([some (.int y),some (.int n)]++fv.map some) H Q):
  FnOk P w K mg base CX0 (k+1) p (PySem.W.kla_fn "<lambda>" qual params body scope cl .none (.ref c) .none) ps (zzt (fun H=>C0 H∧H p=some (.ext (zl1 p qual params body scope cl c))∧H c=some (.ext (zgw c))) leaf):=by
 refine zvc S hcl inj has hfv hlen hsame (fun vs H Q E h=>?_) (fun vs H Q E h=>?_) (fun q A outer s H vs Q E hr h=>?_)
 ·obtain⟨y,n,rfl,_⟩:=h
  exact len2.symm
 ·obtain⟨y,n,rfl,⟨_,h1,h2⟩,_⟩:=h
  exact⟨h1,h2⟩
 ·obtain⟨y,n,rfl,⟨h0,_,_⟩,q'⟩:=h
  exact hbody q A outer s H y n Q hr h0 q'
theorem znn{p:Addr}{qual:Str}{params:Arguments}{body:Expr}{scope:Scope}{cl:List (Str×Addr)}{c:Addr}(h:Heap)(x:zl1 p qual params body scope cl c h):∃o fd',h.get? p=some o∧o.data=.func fd':=by
 obtain⟨pm,ad,e⟩:=x
 exact⟨_,_,e,rfl⟩
def zdt(m:Nat)(y n:Nat):Option PyData:=if zay m y n=[] then some (.tuple [.str ("ware" : Str)]) else none
theorem zih{ts:List Tie}{il:List Nat}{m:Nat}:∀(f y n:Nat),(zay m y n).length≤f→zdz ts il m (zdt m) f y n=(zbo ts il m f y n).toD
 |f,y,n,hf=>by
  cases hb:za5 ts il y n with
  |some i=>rw[zfr hb,zhz hb];rfl
  |none=>
   cases ho:zay m y n with
   |nil=>rw[zh4 hb (by unfold zdt;rw[if_pos ho]),zjx hb ho];rfl
   |cons k r=>
    cases f with
    |zero=>rw[ho] at hf;simp at hf
    |succ f=>
     have hk:k∈zay m y n:=by rw[ho];exact List.mem_cons_self
     have l1:=zc0 hk
     have l2:=zc1 hk
     rw[zgk hb (by unfold zdt;rw[if_neg (by rw[ho];simp)]) ho,zi3 hb ho,zih f _ _ (by omega),zih f _ _ (by omega)]
     rfl
def zaz(m:Nat)(ts:List Tie):List Nat:=(List.range (2^m)).filter fun s=>za0 ts s
theorem mem_wareL{m:Nat}{ts:List Tie}{s:Nat}:s∈zaz m ts↔s<2^m∧za0 ts s=true:=by
 unfold zaz
 rw[List.mem_filter,List.mem_range]
theorem ziw(m:Nat)(ts:List Tie):(zaz m ts).Pairwise (·<·):=List.Pairwise.filter _ List.pairwise_lt_range
theorem zfk{m:Nat}{ts:List Tie}(m9:m≤9):(zaz m ts).length≤512:=by
 have h1:(zaz m ts).length≤2^m:=by
  have:=List.length_filter_le (fun s=>za0 ts s) (List.range (2^m))
  rwa [List.length_range] at this
 exact Nat.le_trans h1 (Nat.pow_le_pow_right (by decide) m9:2^m≤2^9)
theorem zfs{m:Nat}{ts:List Tie}{il:List Nat}(ok:∀t∈ts,t.Ok m):∀(f y n:Nat),(zay m y n).length≤f→Stand m y n→((zbo ts il m f y n).leaves y).Nodup
 |f,y,n,hf,S=>by
  cases hb:za5 ts il y n with
  |some i=>rw[zhz hb];exact List.nodup_nil
  |none=>
   cases ho:zay m y n with
   |nil=>rw[zjx hb ho];exact List.nodup_cons.mpr ⟨List.not_mem_nil,List.nodup_nil⟩
   |cons k r=>
    have hk:k∈zay m y n:=by rw[ho];exact List.mem_cons_self
    cases f with
    |zero=>rw[ho] at hf;simp at hf
    |succ f=>
     have l1:=zc0 hk
     have l2:=zc1 hk
     rw[zi3 hb ho]
     show((zbo ts il m f (y|||2^k) n).leaves (y|||2^k)++(zbo ts il m f y (n|||2^k)).leaves y).Nodup
     refine List.nodup_append.mpr ⟨zfs ok f _ _ (by omega) (S.one hk),zfs ok f _ _ (by omega) (S.other hk),fun a ha b ad e=>?_⟩
     subst e
     have h1:=((zer ok f _ _ (by omega) (S.one hk) a).mp ha).2.1.1 k (by rw[Nat.testBit_or,Nat.testBit_two_pow_self,Bool.or_true])
     have h2:=((zer ok f _ _ (by omega) (S.other hk) a).mp ad).2.1.2 k (by rw[Nat.testBit_or,Nat.testBit_two_pow_self,Bool.or_true])
     rw[h1] at h2
     cases h2
theorem zkv{m:Nat}(m1:1≤m):Stand m 1 0:=⟨fun _ _=>Nat.zero_testBit _,Nat.lt_of_lt_of_le (by decide) (Nat.pow_le_pow_right (by decide) m1:2^1≤2^m),Nat.two_pow_pos m⟩
theorem zq8{m:Nat}{ts:List Tie}(ok:∀t∈ts,t.Ok m)(m1:1≤m)(f:Nat)(hf:(zay m 1 0).length≤f):((zbo ts (zbk ts) m f 1 0).leaves 1).Perm (zaz m ts):=by
 refine(List.perm_ext_iff_of_nodup (zfs ok f 1 0 hf (zkv m1)) ((ziw m ts).imp fun h=>Nat.ne_of_lt h)).mpr fun s=>?_
 rw[zer ok f 1 0 hf (zkv m1),mem_wareL,zey]
 unfold za0
 rw[Bool.and_eq_true]
 constructor
 ·rintro⟨h1,h2,h3⟩
  exact⟨h1,h2.1 0 rfl,h3⟩
 ·rintro⟨h1,h2,h3⟩
  refine⟨h1,⟨fun k hk=>?_,fun k hk=>?_⟩,h3⟩
  ·have:k=0:=by
    rcases Nat.eq_zero_or_pos k with z|z
    ·exact z
    ·have e:(1:Nat).testBit k=false:=Nat.testBit_lt_two_pow (Nat.lt_of_lt_of_le (by decide:1<2^1) (Nat.pow_le_pow_right (by decide) z))
     rw[e] at hk;cases hk
   rw[this];exact h2
  ·rw[Nat.zero_testBit] at hk;cases hk
theorem zp9{ms:List Int}{L M:List Nat}(p:ms.Perm (L.map fun k:Nat=>(k:Int)))(so:ms.Pairwise (·≤·))(q:L.Perm M)(pw:M.Pairwise (·<·)):ms=M.map fun k:Nat=>(k:Int):=by
 refine List.Perm.eq_of_pairwise (le:=(·≤·)) (fun a b _ _ h1 h2=>Int.le_antisymm h1 h2) so ?_ (p.trans (q.map _))
 rw[List.pairwise_map]
 exact pw.imp fun h=>by omega
def zx0:Sp:=fun vs H Q _=>∃(wd:Addr)(m:Nat)(ts:List Tie),vs=[.ref wd]∧WoodT H wd m ts∧1≤m∧m≤9∧∀(l:Addr)(H':Hp),Same H H'→H l=none→H' l=some (.lst (zaj (zaz m ts)))→Q (.ref l) H'
end Wd
namespace Srt
open PySem PyProof PyProof.Rows
def zx4:Bool→Keyed→Array Keyed→Nat→Nat→Nat→StateT SortSt Sem (Option Nat):=sortPriv% PySem.Builtin.gallop
def zvm:Array Keyed→Array Keyed→StateT SortSt Sem (Array Keyed):=sortPriv% PySem.Builtin.mergeLo
def zv8:Array Keyed→Array Keyed→StateT SortSt Sem (Array Keyed):=sortPriv% PySem.Builtin.mergeHi
def kn(p:Keyed):Int:=numOf p.1
def zhq(p:Keyed):Prop:=∃n t,p.1=.int n t
theorem zc5{arr:Array Keyed}{i:Nat}{p:Keyed}(h:arr[i]?=some p):K arr i=kn p:=by unfold K;rw[h];rfl
def gp(left:Bool)(key:Keyed)(arr:Array Keyed)(base i:Nat):Bool:=if left then decide (K arr (base+i)<kn key) else !decide (kn key<K arr (base+i))
section
variable {prog : Program} {w : World} {A : Around} {E : Value → Shared → Prop} {s : Shared}
theorem zll{st:SortSt}{x y:Keyed}{Q:Option Bool→SortSt→Prop}(hk:kindOf st=oneType')(hx:zhq x)(hy:zhq y)(h:Q (some (decide (kn x<kn y))) st):
  wpS (model prog w) A E s (lt' x y) Q st:=by
 obtain⟨a,t,e1⟩:=hx
 obtain⟨b,u,e2⟩:=hy
 obtain⟨x1,x2⟩:=x
 obtain⟨y1,y2⟩:=y
 cases e1;cases e2
 rw[lt'_eq]
 refine wpS_bind (wpS_get ?_)
 rw[hk,keyLt'_oneType]
 refine wpS_bind (wpS_lift (wpAny_attempt (oneLt_int ⟨rfl,?_⟩)))
 exact wpS_pure h
theorem zbe{st:SortSt}{arr:Array Keyed}{i:Nat}{p:Keyed}{Q:Keyed→SortSt→Prop}(hp:arr[i]?=some p)(h:Q p st):wpS (model prog w) A E s (elem' arr i) Q st:=by
 rw[elem'_eq,hp];exact wpS_pure h
theorem zdk{st:SortSt}{left:Bool}{key:Keyed}{arr:Array Keyed}{base n hint:Nat}{Q:Option Nat→SortSt→Prop}(hk:kindOf st=oneType')(hkey:zhq key)
  (hall:∀i,i<n→∃p,arr[base+i]?=some p∧zhq p) (hs:∀i j,i≤j→j<n→K arr (base+i)≤K arr (base+j)) (hn:hint<n)
  (h:∀k,k≤n→(∀i,i<k→gp left key arr base i=true)→(∀i,k≤i→i<n→gp left key arr base i=false)→Q (some k) st):
  wpS (model prog w) A E s (zx4 left key arr base n hint) Q st:=by
 have hb:∀(i:Nat)(R:Option Bool→SortSt→Prop),i<n→R (some (gp left key arr base i)) st →
   wpS (model prog w) A E s (elem' arr (base+i)>>=fun x=>if left=true then lt' x key else lt' key x>>=fun b=>pure (b.map (!·))) R st:=by
  intro i R hi hR
  obtain⟨p,hp,ip⟩:=hall i hi
  refine wpS_bind (zbe hp ?_)
  unfold gp at hR
  rw[zc5 hp] at hR
  cases left with
  |true=>exact zll hk ip hkey hR
  |false=>exact wpS_bind (zll hk hkey ip (wpS_pure hR))
 have mono:∀i j,i≤j→j<n→gp left key arr base j=true→gp left key arr base i=true:=by
  intro i j ah hj hg
  have:=hs i j ah hj
  unfold gp at hg ⊢
  cases left<;>simp at hg ⊢ <;> omega
 have af:∀i j,i≤j→j<n→gp left key arr base i=false→gp left key arr base j=false:=by
  intro i j ah hj hg
  cases ai:gp left key arr base j with
  |false=>rfl
  |true=>rw[mono i j ah hj ai] at hg;cases hg
 refine wpS_bind (hb hint _ hn ?_)
 dsimp only
 cases hr:gp left key arr base hint with
 |true=>
  rw[if_pos rfl]
  refine wpS_bind (wpS_mono (wpS_forRange
   (I:=fun x c ad=>st=ad∧∃la of,c=(none,la,of)∧la<of∧hint+la<n∧x+1≤of∧gp left key arr base (hint+la)=true)
   (Q:=fun c ad=>st=ad∧∃la of,c=(none,la,of)∧la<of∧hint+la<n∧gp left key arr base (hint+la)=true∧(of≥n-hint∨(hint+of<n∧gp left key arr base (hint+of)=false)))
   ?_ ?_ ⟨rfl,0,1,rfl,by omega,by omega,by omega,hr⟩) ?_)
  ·rintro x c ad _ hx ⟨rfl,la,of,rfl,k1,k2,k3,k4⟩
   dsimp only
   by_cases ae:of≥n-hint
   ·rw[if_pos ae]
    exact wpS_pure ⟨rfl,la,of,rfl,k1,k2,k4,.inl ae⟩
   ·rw[if_neg ae]
    refine wpS_bind (hb _ _ (by omega) ?_)
    dsimp only
    cases hm:gp left key arr base (hint+of) with
    |true=>exact wpS_pure ⟨rfl,of,2*of+1,rfl,by omega,by omega,by omega,hm⟩
    |false=>exact wpS_pure ⟨rfl,la,of,rfl,k1,k2,k4,.inr ⟨by omega,hm⟩⟩
  ·rintro c ad ⟨rfl,la,of,rfl,k1,k2,k3,k4⟩
   exact⟨rfl,la,of,rfl,k1,k2,k4,.inl (by omega)⟩
  ·rintro c ad ⟨rfl,la,of,rfl,k1,k2,k4,k5⟩
   dsimp only
   have g1:hint+la+1≤hint+min of (n-hint):=by omega
   have g2:hint+min of (n-hint)≤n:=by omega
   have g3:∀i,i<hint+la+1→gp left key arr base i=true:=fun i hi=>mono i _ (by omega) k2 k4
   have g4:∀i,hint+min of (n-hint)≤i→i<n→gp left key arr base i=false:=fun i h1 h2=>by
    rcases k5 with z|⟨z,hz⟩
    ·omega
    ·exact af _ i (by omega) h2 hz
   refine wpS_bind (wpS_mono (wpS_forRange
    (I:=fun x c ad=>st=ad∧∃lo hi,c=(none,lo,hi)∧lo≤hi∧hi≤n∧hi-lo≤n-x∧(∀i,i<lo→gp left key arr base i=true)∧(∀i,hi≤i→i<n→gp left key arr base i=false))
    (Q:=fun c ad=>st=ad∧∃hi,c=(none,hi,hi)∧hi≤n∧(∀i,i<hi→gp left key arr base i=true)∧(∀i,hi≤i→i<n→gp left key arr base i=false))
    ?_ ?_ ⟨rfl,_,_,rfl,g1,g2,by omega,g3,g4⟩) ?_)
   ·rintro x c ad _ hx ⟨rfl,lo,hi,rfl,k1,k2,k3,k4,k5⟩
    dsimp only
    by_cases ae:lo≥hi
    ·rw[if_pos ae]
     have:lo=hi:=by omega
     subst this
     exact wpS_pure ⟨rfl,lo,rfl,k2,k4,k5⟩
    ·rw[if_neg ae]
     refine wpS_bind (hb _ _ (by omega) ?_)
     dsimp only
     by_cases hm:gp left key arr base (lo+(hi-lo)/2)=true
     ·rw[if_pos hm]
      exact wpS_pure ⟨rfl,_,_,rfl,by omega,k2,by omega,fun i aj=>mono i _ (by omega) (by omega) hm,k5⟩
     ·rw[if_neg hm]
      exact wpS_pure ⟨rfl,_,_,rfl,by omega,by omega,by omega,k4,fun i h1 h2=>af _ i h1 h2 (by simpa using hm)⟩
   ·rintro c ad ⟨rfl,lo,hi,rfl,k1,k2,k3,k4,k5⟩
    have:lo=hi:=by omega
    subst this
    exact⟨rfl,lo,rfl,k2,k4,k5⟩
   ·rintro c ad ⟨rfl,hi,rfl,k2,k4,k5⟩
    exact wpS_pure (h hi k2 k4 k5)
 |false=>
  rw[if_neg (by decide)]
  refine wpS_bind (wpS_mono (wpS_forRange
   (I:=fun x c ad=>st=ad∧∃la of,c=(none,la,of)∧la<of∧la≤hint∧x+1≤of∧gp left key arr base (hint-la)=false)
   (Q:=fun c ad=>st=ad∧∃la of,c=(none,la,of)∧la<of∧la≤hint∧gp left key arr base (hint-la)=false∧(of≥hint+1∨(of≤hint∧gp left key arr base (hint-of)=true)))
   ?_ ?_ ⟨rfl,0,1,rfl,by omega,by omega,by omega,hr⟩) ?_)
  ·rintro x c ad _ hx ⟨rfl,la,of,rfl,k1,k2,k3,k4⟩
   dsimp only
   by_cases ae:of≥hint+1
   ·rw[if_pos ae]
    exact wpS_pure ⟨rfl,la,of,rfl,k1,k2,k4,.inl ae⟩
   ·rw[if_neg ae]
    refine wpS_bind (hb _ _ (by omega) ?_)
    dsimp only
    cases hm:gp left key arr base (hint-of) with
    |false=>exact wpS_pure ⟨rfl,of,2*of+1,rfl,by omega,by omega,by omega,hm⟩
    |true=>exact wpS_pure ⟨rfl,la,of,rfl,k1,k2,k4,.inr ⟨by omega,hm⟩⟩
  ·rintro c ad ⟨rfl,la,of,rfl,k1,k2,k3,k4⟩
   exact⟨rfl,la,of,rfl,k1,k2,k4,.inl (by omega)⟩
  ·rintro c ad ⟨rfl,la,of,rfl,k1,k2,k4,k5⟩
   dsimp only
   have g1:hint+1-min of (hint+1)≤hint-la:=by omega
   have g2:hint-la≤n:=by omega
   have g3:∀i,i<hint+1-min of (hint+1)→gp left key arr base i=true:=fun i hi=>by
    rcases k5 with z|⟨z,hz⟩
    ·omega
    ·exact mono i _ (by omega) (by omega) hz
   have g4:∀i,hint-la≤i→i<n→gp left key arr base i=false:=fun i h1 h2=>af _ i h1 h2 k4
   refine wpS_bind (wpS_mono (wpS_forRange
    (I:=fun x c ad=>st=ad∧∃lo hi,c=(none,lo,hi)∧lo≤hi∧hi≤n∧hi-lo≤n-x∧(∀i,i<lo→gp left key arr base i=true)∧(∀i,hi≤i→i<n→gp left key arr base i=false))
    (Q:=fun c ad=>st=ad∧∃hi,c=(none,hi,hi)∧hi≤n∧(∀i,i<hi→gp left key arr base i=true)∧(∀i,hi≤i→i<n→gp left key arr base i=false))
    ?_ ?_ ⟨rfl,_,_,rfl,g1,g2,by omega,g3,g4⟩) ?_)
   ·rintro x c ad _ hx ⟨rfl,lo,hi,rfl,k1,k2,k3,k4,k5⟩
    dsimp only
    by_cases ae:lo≥hi
    ·rw[if_pos ae]
     have:lo=hi:=by omega
     subst this
     exact wpS_pure ⟨rfl,lo,rfl,k2,k4,k5⟩
    ·rw[if_neg ae]
     refine wpS_bind (hb _ _ (by omega) ?_)
     dsimp only
     by_cases hm:gp left key arr base (lo+(hi-lo)/2)=true
     ·rw[if_pos hm]
      exact wpS_pure ⟨rfl,_,_,rfl,by omega,k2,by omega,fun i aj=>mono i _ (by omega) (by omega) hm,k5⟩
     ·rw[if_neg hm]
      exact wpS_pure ⟨rfl,_,_,rfl,by omega,by omega,by omega,k4,fun i h1 h2=>af _ i h1 h2 (by simpa using hm)⟩
   ·rintro c ad ⟨rfl,lo,hi,rfl,k1,k2,k3,k4,k5⟩
    have:lo=hi:=by omega
    subst this
    exact⟨rfl,lo,rfl,k2,k4,k5⟩
   ·rintro c ad ⟨rfl,hi,rfl,k2,k4,k5⟩
    exact wpS_pure (h hi k2 k4 k5)
end
def kle(x y:Keyed):Prop:=kn x≤kn y
theorem zm0{x y z:Keyed}(h:kle x y)(g:kle y z):kle x z:=Int.le_trans h g
structure MI(A B out:List Keyed)(ia ib:Nat):Prop where
 perm:out.Perm (A.take ia++B.take ib)
 srt:out.Pairwise kle
 la:∀x∈out,∀y∈A.drop ia,kle x y
 lb:∀x∈out,∀y∈B.drop ib,kle x y
def SP(A B R:List Keyed):Prop:=R.Perm (A++B)∧R.Pairwise kle
theorem MI.swap{A B out:List Keyed}{ia ib:Nat}(m:MI A B out ia ib):MI B A out ib ia:=
 ⟨m.perm.trans List.perm_append_comm,m.srt,m.lb,m.la⟩
theorem MI.more{A B out:List Keyed}{ia ib:Nat}(hA:A.Pairwise kle)(m:MI A B out ia ib)(k:Nat)(hx:∀x∈(A.drop ia).take k,∀y∈B.drop ib,kle x y):
  MI A B (out++(A.drop ia).take k) (ia+k) ib:=by
 have hd:(A.drop ia).Pairwise kle:=hA.sublist (List.drop_sublist _ _)
 have hs:((A.drop ia).take k++(A.drop ia).drop k).Pairwise kle:=by rw[List.take_append_drop];exact hd
 obtain⟨p1,p2,p3⟩:=List.pairwise_append.mp hs
 refine⟨?_,List.pairwise_append.mpr ⟨m.srt,p1,fun x h y g=>m.la x h y (List.mem_of_mem_take g)⟩,fun x h y g=>?_,fun x h y g=>?_⟩
 ·rw[List.take_add]
  refine(List.Perm.append_right _ m.perm).trans ?_
  rw[List.append_assoc,List.append_assoc]
  exact List.Perm.append_left _ List.perm_append_comm
 ·rw[←List.drop_drop] at g
  rcases List.mem_append.mp h with z|z
  ·exact m.la x z y (List.mem_of_mem_drop g)
  ·exact p3 x z y g
 ·rcases List.mem_append.mp h with z|z
  ·exact m.lb x z y g
  ·exact hx x z y g
theorem MI.fin{A B out:List Keyed}{ia ib:Nat}(m:MI A B out ia ib)(ha:A.length≤ia)(hb:B.length≤ib):SP A B out:=by
 have:=m.perm
 rw[List.take_of_length_le ha,List.take_of_length_le hb] at this
 exact⟨this,m.srt⟩
theorem MI.done{A B out:List Keyed}{ia ib:Nat}(hA:A.Pairwise kle)(m:MI A B out ia ib)(hb:B.length≤ib):SP A B (out++A.drop ia++B.drop ib):=by
 have h:=m.more hA A.length (fun x _ y g=>by rw[List.drop_of_length_le hb] at g;cases g)
 rw[List.take_of_length_le (by rw[List.length_drop];omega)] at h
 rw[List.drop_of_length_le hb,List.append_nil]
 exact h.fin (by omega) hb
theorem MI.last{A B out:List Keyed}{ia ib:Nat}(hA:A.Pairwise kle)(hB:B.Pairwise kle)(m:MI A B out ia ib)(hx:∀x∈B.drop ib,∀y∈A.drop ia,kle x y):
  SP A B (out++B.drop ib++A.drop ia):=by
 have h:=(m.swap.more hB B.length (fun x g y g2=>hx x (List.mem_of_mem_take g) y g2)).swap
 rw[List.take_of_length_le (by rw[List.length_drop];omega)] at h
 have:=h.done hA (Nat.le_add_left _ _)
 rwa [List.drop_of_length_le (l:=B) (Nat.le_add_left _ _),List.append_nil] at this
theorem zhk{a:Array Keyed}{i:Nat}:(a.extract i a.size).toList=a.toList.drop i:=by
 rw[Array.toList_extract,List.extract_eq_drop_take]
 rw[List.take_of_length_le]
 rw[List.length_drop,Array.length_toList]
 exact Nat.le_refl _
theorem zAq{a:Array Keyed}{i k:Nat}:(a.extract i (i+k)).toList=(a.toList.drop i).take k:=by
 rw[Array.toList_extract,List.extract_eq_drop_take,Nat.add_sub_cancel_left]
theorem zfh{a:Array Keyed}{i:Nat}{p:Keyed}(h:a[i]?=some p):(a.toList.drop i).take 1=[p]:=by
 have hi:i<a.toList.length:=by
  rw[Array.length_toList];exact(Array.getElem?_eq_some_iff.mp h).1
 have e:a.toList[i]=p:=by
  obtain⟨h1,h2⟩:=Array.getElem?_eq_some_iff.mp h
  rw[←h2];exact Array.getElem_toList h1
 rw[List.drop_eq_getElem_cons hi,e];rfl
theorem zux{a:Array Keyed}{i:Nat}{p:Keyed}(h:a[i]?=some p):p∈a.toList:=by
 obtain⟨h1,h2⟩:=Array.getElem?_eq_some_iff.mp h
 rw[←h2];exact Array.getElem_mem_toList h1
theorem MI.one{a b out:Array Keyed}{ia ib:Nat}{p:Keyed}(hA:a.toList.Pairwise kle)(m:MI a.toList b.toList out.toList ia ib)(hp:a[ia]?=some p)(hx:∀y∈b.toList.drop ib,kle p y):
  MI a.toList b.toList (out.push p).toList (ia+1) ib:=by
 have:=m.more hA 1 (by rw[zfh hp];intro x ad y hy;rw[List.mem_singleton.mp ad];exact hx y hy)
 rw[zfh hp] at this
 rwa [Array.toList_push]
theorem MI.blk{a b out:Array Keyed}{ia ib k:Nat}(hA:a.toList.Pairwise kle)(m:MI a.toList b.toList out.toList ia ib)(hx:∀x∈(a.toList.drop ia).take k,∀y∈b.toList.drop ib,kle x y):
  MI a.toList b.toList (out++a.extract ia (ia+k)).toList (ia+k) ib:=by
 rw[Array.toList_append,zAq]
 exact m.more hA k hx
theorem MI.doneA{a b out:Array Keyed}{ia ib:Nat}(hA:a.toList.Pairwise kle)(m:MI a.toList b.toList out.toList ia ib)(hb:b.size≤ib):
  SP a.toList b.toList (out++a.extract ia a.size++b.extract ib b.size).toList:=by
 rw[Array.toList_append,Array.toList_append,zhk,zhk]
 exact m.done hA hb
theorem MI.doneB{a b out:Array Keyed}{ia ib:Nat}(hB:b.toList.Pairwise kle)(m:MI a.toList b.toList out.toList ia ib)(ha:a.size≤ia):
  SP a.toList b.toList (out++a.extract ia a.size++b.extract ib b.size).toList:=by
 rw[Array.toList_append,Array.toList_append,zhk,zhk,List.drop_of_length_le (l:=a.toList) (by rw[Array.length_toList];exact ha),List.append_nil]
 have h:=m.swap.done hB (by rw[Array.length_toList];exact ha)
 rw[List.drop_of_length_le (l:=a.toList) (by rw[Array.length_toList];exact ha),List.append_nil] at h
 exact⟨h.1.trans List.perm_append_comm,h.2⟩
theorem MI.lastA{a b out:Array Keyed}{ia ib:Nat}(hA:a.toList.Pairwise kle)(hB:b.toList.Pairwise kle)(m:MI a.toList b.toList out.toList ia ib)(hx:∀x∈b.toList,∀y∈a.toList.drop ia,kle x y):
  SP a.toList b.toList (out++b.extract ib b.size++a.extract ia a.size).toList:=by
 rw[Array.toList_append,Array.toList_append,zhk,zhk]
 exact m.last hA hB fun x h=>hx x (List.mem_of_mem_drop h)
theorem MI.lastE{a b out:Array Keyed}{ia ib:Nat}(hA:a.toList.Pairwise kle)(hB:b.toList.Pairwise kle)(m:MI a.toList b.toList out.toList ia ib)(e:ia+1=a.size)
  (hx:∀x∈b.toList,∀y∈a.toList.drop (a.size-1),kle x y):SP a.toList b.toList (out++b.extract ib b.size++a.extract ia a.size).toList:=
 m.lastA hA hB (by rw[show ia=a.size-1 by omega];exact hx)
section
variable {prog : Program} {w : World} {A : Around} {E : Value → Shared → Prop} {s : Shared}
theorem zau{α:Type}{c:Prop}[Decidable c]{t e:StateT SortSt Sem α}{Q:α→SortSt→Prop}{st:SortSt}(h1:c→wpS (model prog w) A E s t Q st)(h2:¬c→wpS (model prog w) A E s e Q st):
  wpS (model prog w) A E s (if c then t else e) Q st:=by
 by_cases hc:c
 ·rw[if_pos hc];exact h1 hc
 ·rw[if_neg hc];exact h2 hc
abbrev zff(st:SortSt)(g:Nat):SortSt:=SortSt.mk' (kindOf st) (arrOf st) (pendingOf st) g (failedOf st)
theorem zni{a b:Array Keyed}{i j:Nat}{p q:Keyed}(hB:b.toList.Pairwise kle)(hq:b[j]?=some q)(h:kle p q):∀y∈b.toList.drop j,kle p y:=by
 intro y hy
 obtain⟨h1,h2⟩:=Array.getElem?_eq_some_iff.mp hq
 have hi:j<b.toList.length:=by rw[Array.length_toList];exact h1
 have e:b.toList[j]=q:=by rw[←h2];exact Array.getElem_toList h1
 have hd:=hB.sublist (List.drop_sublist j b.toList)
 rw[List.drop_eq_getElem_cons hi,e] at hy hd
 rcases List.mem_cons.mp hy with z|z
 ·rw[z];exact h
 ·exact zm0 h ((List.pairwise_cons.mp hd).1 y z)
theorem zuz{a:Array Keyed}(hA:a.toList.Pairwise kle){i j:Nat}(hij:i≤j)(hj:j<a.size):K a i≤K a j:=by
 have hi:i<a.size:=by omega
 rw[zc5 (Array.getElem?_eq_getElem hi),zc5 (Array.getElem?_eq_getElem hj)]
 by_cases e:i=j
 ·subst e;exact Int.le_refl _
 ·have:=List.pairwise_iff_getElem.mp hA i j (by rw[Array.length_toList];exact hi) (by rw[Array.length_toList];exact hj) (by omega)
  rw[Array.getElem_toList,Array.getElem_toList] at this
  exact this
theorem zgv{a:Array Keyed}{i:Nat}{x:Keyed}(h:x∈a.toList.drop i):∃j,i≤j∧j<a.size∧a[j]?=some x:=by
 obtain⟨j,hj,e⟩:=List.mem_iff_getElem.mp h
 rw[List.length_drop,Array.length_toList] at hj
 rw[List.getElem_drop,Array.getElem_toList] at e
 exact⟨i+j,by omega,by omega,by rw[Array.getElem?_eq_getElem (by omega),e]⟩
theorem zex{a:Array Keyed}{i k:Nat}{x:Keyed}(h:x∈(a.toList.drop i).take k):∃j,j<k∧i+j<a.size∧a[i+j]?=some x:=by
 obtain⟨j,hj,e⟩:=List.mem_iff_getElem.mp h
 rw[List.length_take,List.length_drop,Array.length_toList] at hj
 rw[List.getElem_take,List.getElem_drop,Array.getElem_toList] at e
 exact⟨j,by omega,by omega,by rw[Array.getElem?_eq_getElem (by omega),e]⟩
theorem zk2{q:Keyed}{a:Array Keyed}{i j:Nat}{x:Keyed}(h:gp false q a i j=true)(hx:a[i+j]?=some x):kle x q:=by
 unfold gp at h;rw[zc5 hx] at h
 simp at h;exact h
theorem zjp{q:Keyed}{a:Array Keyed}{i j:Nat}{x:Keyed}(h:gp false q a i j=false)(hx:a[i+j]?=some x):kle q x:=by
 unfold gp at h;rw[zc5 hx] at h
 simp at h;exact Int.le_of_lt h
theorem znz{q:Keyed}{a:Array Keyed}{i j:Nat}{x:Keyed}(h:gp true q a i j=true)(hx:a[i+j]?=some x):kle x q:=by
 unfold gp at h;rw[zc5 hx] at h
 simp at h;exact Int.le_of_lt h
theorem zky{q:Keyed}{a:Array Keyed}{i j:Nat}{x:Keyed}(h:gp true q a i j=false)(hx:a[i+j]?=some x):kle q x:=by
 unfold gp at h;rw[zc5 hx] at h
 simp at h;exact h
structure MV(a b out:Array Keyed)(ia ib:Nat):Prop where
 m:MI a.toList b.toList out.toList ia ib
 ha:ia+2≤a.size
 hb:ib<b.size
theorem zo4{st:SortSt}{a b:Array Keyed}{Q:Array Keyed→SortSt→Prop}(hk:kindOf st=oneType')(iA:∀x∈a.toList,zhq x)(iB:∀x∈b.toList,zhq x)
  (hA:a.toList.Pairwise kle) (hB:b.toList.Pairwise kle) (na:0<a.size) (nb:0<b.size)
  (hb0:∀x∈b.toList.take 1,∀y∈a.toList,kle x y) (hla:∀x∈b.toList,∀y∈a.toList.drop (a.size-1),kle x y)
  (h:∀r g,SP a.toList b.toList r.toList→Q r (zff st g)):
  wpS (model prog w) A E s (zvm a b) Q st:=by
 refine wpS_bind (wpS_lift (wpAny_rule ⟨rfl,?_⟩))
 refine wpS_bind (zbe (Array.getElem?_eq_getElem nb) ?_)
 have m0:MI a.toList b.toList (#[b[0]]:Array Keyed).toList 0 1:=by
  have z:MI b.toList a.toList (#[]:Array Keyed).toList 0 0:=⟨List.Perm.refl _,List.Pairwise.nil,nofun,nofun⟩
  exact(z.one hB (Array.getElem?_eq_getElem nb) (fun y hy=>hb0 _ (by have:=zfh (Array.getElem?_eq_getElem nb);rw[List.drop_zero] at this;rw[this];exact List.mem_singleton.mpr rfl) y hy)).swap
 have pA:∀{i},i<a.size→∃p,a[i]?=some p∧zhq p:=fun hi=>⟨_,Array.getElem?_eq_getElem hi,iA _ (Array.getElem_mem_toList hi)⟩
 have pB:∀{i},i<b.size→∃p,b[i]?=some p∧zhq p:=fun hi=>⟨_,Array.getElem?_eq_getElem hi,iB _ (Array.getElem_mem_toList hi)⟩
 refine zau (fun c1=>wpS_pure (h _ (gallopOf st) (m0.doneA hA (Nat.le_of_eq (beq_iff_eq.mp c1).symm)))) (fun c1=>?_)
 refine zau (fun c2=>wpS_pure (h _ (gallopOf st) (m0.lastE hA hB (beq_iff_eq.mp c2) hla))) (fun c2=>?_)
 replace c1:1≠b.size:=fun z=>c1 (beq_iff_eq.mpr z)
 replace c2:0+1≠a.size:=fun z=>c2 (beq_iff_eq.mpr z)
 refine wpS_bind (wpS_get ?_)
 refine wpS_bind (wpS_mono (wpS_forRange
  (I:=fun x c ae=>(∃g,zff st g=ae)∧∃ad ia ib mg,c=(none,ad,ia,ib,mg)∧MV a b ad ia ib∧x+1≤ia+ib)
  (Q:=fun c ae=>(∃g,zff st g=ae)∧∃r rest,c=(some r,rest)∧SP a.toList b.toList r.toList)
  ?_ ?_ ⟨⟨gallopOf st,rfl⟩,_,0,1,_,rfl,⟨m0,by omega,by omega⟩,by omega⟩) ?_)
 ·rintro x0 c ae _ az ⟨⟨g,rfl⟩,ad,ia,ib,mg,rfl,v,hx⟩
  refine wpS_bind (wpS_mono (wpS_forRange
   (I:=fun x c ae=>zff st g=ae∧∃ad ia ib ac bc,c=(none,ad,ia,ib,ac,bc)∧MV a b ad ia ib∧x0+1+x≤ia+ib)
   (Q:=fun c ae=>zff st g=ae∧((∃r rest,c=(some r,rest)∧SP a.toList b.toList r.toList)∨∃ad ia ib ac bc,c=(none,ad,ia,ib,ac,bc)∧MV a b ad ia ib∧x0+2≤ia+ib))
   ?_ ?_ ⟨rfl,ad,ia,ib,0,0,rfl,v,by omega⟩) ?_)
  ·rintro x c ae _ av ⟨rfl,ad,ia,ib,ac,bc,rfl,v,hx⟩
   obtain⟨p,hp,ip⟩:=pA (show ia<a.size by have:=v.ha;omega)
   obtain⟨q,hq,iq⟩:=pB v.hb
   refine wpS_bind (zbe hq (wpS_bind (zbe hp (wpS_bind (zll hk iq ip ?_)))))
   dsimp only
   have va:=v.ha
   have vb:=v.hb
   refine zau (fun c3=>?_) (fun c3=>?_)
   ·have ah:kle q p:=Int.le_of_lt (of_decide_eq_true c3)
    have m2:=(v.m.swap.one hB hq (zni (a:=b) (i:=ib) hA hp ah)).swap
    refine wpS_bind (zbe hq ?_)
    refine zau (fun c4=>wpS_pure ⟨rfl,.inl ⟨_,_,rfl,m2.doneA hA (Nat.le_of_eq (beq_iff_eq.mp c4).symm)⟩⟩) (fun c4=>?_)
    have ai:ib+1≠b.size:=fun z=>c4 (beq_iff_eq.mpr z)
    exact zau (fun c5=>wpS_pure ⟨rfl,.inr ⟨_,_,_,_,_,rfl,⟨m2,va,by omega⟩,by omega⟩⟩) (fun c5=>wpS_pure ⟨rfl,_,_,_,_,_,rfl,⟨m2,va,by omega⟩,by omega⟩)
   ·have ah:kle p q:=Int.not_lt.mp (fun z=>c3 (decide_eq_true z))
    have m2:=v.m.one hA hp (zni (a:=a) (i:=ia) hB hq ah)
    refine wpS_bind (zbe hp ?_)
    refine zau (fun c4=>wpS_pure ⟨rfl,.inl ⟨_,_,rfl,m2.lastE hA hB (beq_iff_eq.mp c4) hla⟩⟩) (fun c4=>?_)
    have ai:ia+1+1≠a.size:=fun z=>c4 (beq_iff_eq.mpr z)
    exact zau (fun c5=>wpS_pure ⟨rfl,.inr ⟨_,_,_,_,_,rfl,⟨m2,by omega,vb⟩,by omega⟩⟩) (fun c5=>wpS_pure ⟨rfl,_,_,_,_,_,rfl,⟨m2,by omega,vb⟩,by omega⟩)
  ·rintro c ae ⟨rfl,ad,ia,ib,ac,bc,rfl,v,hx⟩
   have va:=v.ha
   have vb:=v.hb
   omega
  ·rintro c ae ⟨rfl,⟨r,rest,rfl,hr⟩|⟨ad,ia,ib,ac,bc,rfl,v,hx⟩⟩
   ·exact wpS_pure ⟨⟨g,rfl⟩,r,_,rfl,hr⟩
   refine wpS_bind (wpS_lift (wpAny_rule ⟨rfl,?_⟩))
   refine wpS_bind (wpS_mono (wpS_forRange
    (I:=fun x c ae=>(∃g,zff st g=ae)∧∃ad ia ib mg ac bc,c=(none,ad,ia,ib,mg,ac,bc)∧MV a b ad ia ib∧x0+2+x≤ia+ib)
    (Q:=fun c ae=>(∃g,zff st g=ae)∧((∃r rest,c=(some r,rest)∧SP a.toList b.toList r.toList)∨∃ad ia ib mg ac bc,c=(none,ad,ia,ib,mg,ac,bc)∧MV a b ad ia ib∧x0+2≤ia+ib))
    ?_ ?_ ⟨⟨g,rfl⟩,ad,ia,ib,_,ac,bc,rfl,v,by omega⟩) ?_)
   ·rintro x c ae _ av ⟨⟨g,rfl⟩,ad,ia,ib,mg,ac,bc,rfl,v,hx⟩
    have va:=v.ha
    have vb:=v.hb
    obtain⟨q,hq,iq⟩:=pB vb
    dsimp (config:={ zeta:=false,zetaHave:=false,zetaUnused:=false }) only
    extract_lets _ _ _ _ _ _ _ _ _ _ _ _ jp
    suffices hj:∀af,wpS (model prog w) A E s (jp () af) _ (zff st g) from zau (fun _=>hj _) (fun _=>hj _)
    intro af
    refine wpS_bind (wpS_modify ?_)
    refine wpS_bind (zbe hq ?_)
    refine wpS_bind (zdk (left:=false) (arr:=a) (base:=ia) (n:=a.size-ia) (hint:=0) hk iq (fun i hi=>pA (i:=ia+i) (by omega)) (fun i j ar hj=>zuz hA (by omega) (by omega)) (by omega) fun k k1 k2 k3=>?_)
    have ax:∀x∈(a.toList.drop ia).take k,∀y∈b.toList.drop ib,kle x y:=fun x hx y hy=>by
     obtain⟨j,h1,h2,h3⟩:=zex hx
     exact zni (a:=a) (i:=0) hB hq (zk2 (k2 j h1) h3) y hy
    have aj:∀y∈a.toList.drop (ia+k),kle q y:=fun y hy=>by
     obtain⟨j,h1,h2,h3⟩:=zgv hy
     exact zjp (k3 (j-ia) (by omega) (by omega)) (by rw[show ia+(j-ia)=j by omega];exact h3)
    dsimp (config:={ zeta:=false,zetaHave:=false,zetaUnused:=false }) only
    extract_lets _ jp2
    suffices am:∀(o2:Array Keyed)(i2:Nat),MI a.toList b.toList o2.toList i2 ib→i2+2≤a.size→ia≤i2→(∀y∈a.toList.drop i2,kle q y)→wpS (model prog w) A E s (jp2 () o2 i2) _ (zff st af) by
     refine zau (fun c3=>?_) (fun c3=>am ad ia v.m va (Nat.le_refl _) (by rw[show ia=ia+k by omega];exact aj))
     have m2:=v.m.blk hA ax
     refine zau (fun c4=>wpS_pure ⟨⟨af,rfl⟩,.inl ⟨_,_,rfl,m2.lastE hA hB (beq_iff_eq.mp c4) hla⟩⟩) (fun c4=>?_)
     refine zau (fun c5=>wpS_pure ⟨⟨af,rfl⟩,.inl ⟨_,_,rfl,m2.doneB hB (Nat.le_of_eq (beq_iff_eq.mp c5).symm)⟩⟩) (fun c5=>?_)
     have ai:ia+k+1≠a.size:=fun z=>c4 (beq_iff_eq.mpr z)
     have ao:ia+k≠a.size:=fun z=>c5 (beq_iff_eq.mpr z)
     exact am _ (ia+k) m2 (by omega) (by omega) aj
    intro o2 i2 m2 aB aA ay
    obtain⟨p,hp,ip⟩:=pA (show i2<a.size by omega)
    refine wpS_bind (zbe hq ?_)
    have m3:=(m2.swap.one hB hq ay).swap
    refine zau (fun c4=>wpS_pure ⟨⟨af,rfl⟩,.inl ⟨_,_,rfl,m3.doneA hA (Nat.le_of_eq (beq_iff_eq.mp c4).symm)⟩⟩) (fun c4=>?_)
    have ai:ib+1≠b.size:=fun z=>c4 (beq_iff_eq.mpr z)
    refine wpS_bind (zbe hp ?_)
    refine wpS_bind (zdk (left:=true) (arr:=b) (base:=ib+1) (n:=b.size-(ib+1)) (hint:=0) hk ip (fun i hi=>pB (i:=ib+1+i) (by omega)) (fun i j ar hj=>zuz hB (by omega) (by omega)) (by omega) fun k' l1 l2 l3=>?_)
    have aw:∀x∈(b.toList.drop (ib+1)).take k',∀y∈a.toList.drop i2,kle x y:=fun x hx y hy=>by
     obtain⟨j,h1,h2,h3⟩:=zex hx
     exact zni (a:=a) (i:=0) hA hp (znz (l2 j h1) h3) y hy
    have al:∀y∈b.toList.drop (ib+1+k'),kle p y:=fun y hy=>by
     obtain⟨j,h1,h2,h3⟩:=zgv hy
     exact zky (l3 (j-(ib+1)) (by omega) (by omega)) (by rw[show ib+1+(j-(ib+1))=j by omega];exact h3)
    dsimp (config:={ zeta:=false,zetaHave:=false,zetaUnused:=false }) only
    extract_lets _ _ jp3
    suffices ap:∀(o3:Array Keyed)(i3:Nat),MI a.toList b.toList o3.toList i2 i3→i3<b.size→ib+1≤i3→(∀y∈b.toList.drop i3,kle p y)→wpS (model prog w) A E s (jp3 () o3 i3) _ (zff st af) by
     refine zau (fun c3=>?_) (fun c3=>ap _ (ib+1) m3 (by omega) (Nat.le_refl _) (by rw[show ib+1=ib+1+k' by omega];exact al))
     have m4:=(m3.swap.blk hB aw).swap
     refine zau (fun c5=>wpS_pure ⟨⟨af,rfl⟩,.inl ⟨_,_,rfl,m4.doneA hA (Nat.le_of_eq (beq_iff_eq.mp c5).symm)⟩⟩) (fun c5=>?_)
     have ao:ib+1+k'≠b.size:=fun z=>c5 (beq_iff_eq.mpr z)
     exact ap _ (ib+1+k') m4 (by omega) (by omega) al
    intro o3 i3 m4 ak au aq
    refine wpS_bind (zbe hp ?_)
    have m5:=m4.one hA hp aq
    refine zau (fun c5=>wpS_pure ⟨⟨af,rfl⟩,.inl ⟨_,_,rfl,m5.lastE hA hB (beq_iff_eq.mp c5) hla⟩⟩) (fun c5=>?_)
    have ao:i2+1+1≠a.size:=fun z=>c5 (beq_iff_eq.mpr z)
    exact zau (fun c6=>wpS_pure ⟨⟨af,rfl⟩,.inr ⟨_,_,_,_,_,_,rfl,⟨m5,by omega,ak⟩,by omega⟩⟩) (fun c6=>wpS_pure ⟨⟨af,rfl⟩,_,_,_,_,_,_,rfl,⟨m5,by omega,ak⟩,by omega⟩)
   ·rintro c ae ⟨⟨g,rfl⟩,ad,ia,ib,mg,ac,bc,rfl,v,hx⟩
    have va:=v.ha
    have vb:=v.hb
    omega
   ·rintro c ae ⟨⟨g,rfl⟩,⟨r,rest,rfl,hr⟩|⟨ad,ia,ib,mg,ac,bc,rfl,v,hx⟩⟩
    ·exact wpS_pure ⟨⟨g,rfl⟩,r,_,rfl,hr⟩
    ·exact wpS_bind (wpS_modify (wpS_pure ⟨⟨_,rfl⟩,_,_,_,_,rfl,v,by omega⟩))
 ·rintro c ae ⟨⟨g,rfl⟩,ad,ia,ib,mg,rfl,v,hx⟩
  have va:=v.ha
  have vb:=v.hb
  omega
 ·rintro c ae ⟨⟨g,rfl⟩,r,rest,rfl,hr⟩
  exact wpS_pure (h r g hr)
end
structure MH(A B out:List Keyed)(na nb:Nat):Prop where
 perm:out.Perm (A.drop na++B.drop nb)
 srt:out.Pairwise fun x y=>kle y x
 la:∀x∈out,∀y∈A.take na,kle y x
 lb:∀x∈out,∀y∈B.take nb,kle y x
theorem MH.swap{A B out:List Keyed}{na nb:Nat}(m:MH A B out na nb):MH B A out nb na:=
 ⟨m.perm.trans List.perm_append_comm,m.srt,m.lb,m.la⟩
theorem MH.more{A B out:List Keyed}{na nb:Nat}(hA:A.Pairwise kle)(m:MH A B out na nb){k:Nat}(hk:k≤na)(hn:na≤A.length)(hx:∀x∈(A.take na).drop k,∀y∈B.take nb,kle y x):
    MH A B (out++((A.take na).drop k).reverse) k nb:=by
  have hd:(A.take na).Pairwise kle:=hA.sublist (List.take_sublist _ _)
  have hs:((A.take na).take k++(A.take na).drop k).Pairwise kle:=by rw[List.take_append_drop];exact hd
  obtain⟨p1,p2,p3⟩:=List.pairwise_append.mp hs
  rw[List.take_take,Nat.min_eq_left hk] at p3
  have ed:A.drop k=(A.take na).drop k++A.drop na:=by
    conv=>lhs;rw[←List.take_append_drop na A]
    rw[List.drop_append_of_le_length (by rw[List.length_take];omega)]
  refine⟨?_,List.pairwise_append.mpr ⟨m.srt,List.pairwise_reverse.mpr p2,fun x h y g=>m.la x h y (List.mem_of_mem_drop (List.mem_reverse.mp g))⟩,fun x h y g=>?_,fun x h y g=>?_⟩
  · rw[ed]
    refine(List.Perm.append m.perm (List.reverse_perm _)).trans ?_
    refine List.perm_append_comm.trans ?_
    rw[List.append_assoc]
  · rcases List.mem_append.mp h with z|z
    · exact m.la x z y (by have:A.take k=(A.take na).take k:=by rw[List.take_take,Nat.min_eq_left hk]
                           rw[this] at g;exact List.mem_of_mem_take g)
    · exact p3 y g x (List.mem_reverse.mp z)
  · rcases List.mem_append.mp h with z|z
    · exact m.lb x z y g
    · exact hx x (List.mem_reverse.mp z) y g
theorem MH.fin{A B out:List Keyed}(m:MH A B out 0 0):SP A B out.reverse:=
 ⟨(List.reverse_perm _).trans m.perm,List.pairwise_reverse.mpr m.srt⟩
theorem MH.allA{A B out:List Keyed}{na:Nat}(hA:A.Pairwise kle)(m:MH A B out na 0)(hn:na≤A.length):SP A B (A.take na++out.reverse):=by
 have h:=(m.more hA (Nat.zero_le _) hn (fun x _ y g=>by rw[List.take_zero] at g;cases g)).fin
 rwa [List.drop_zero,List.reverse_append,List.reverse_reverse] at h
theorem MH.allB{A B out:List Keyed}{nb:Nat}(hB:B.Pairwise kle)(m:MH A B out 0 nb)(hn:nb≤B.length):SP A B (B.take nb++out.reverse):=by
 have h:=m.swap.allA hB hn
 exact⟨h.1.trans List.perm_append_comm,h.2⟩
theorem MH.first{A B out:List Keyed}{na nb:Nat}(hA:A.Pairwise kle)(hB:B.Pairwise kle)(m:MH A B out na nb)(ha:na≤A.length)(hb:nb≤B.length)(hx:∀x∈B.take nb,∀y∈A.take na,kle x y):
  SP A B (B.take nb++A.take na++out.reverse):=by
 have h:=(m.more hA (Nat.zero_le _) ha (fun x g y g2=>hx y g2 x (by rwa [List.drop_zero] at g))).allB hB hb
 rwa [List.drop_zero,List.reverse_append,List.reverse_reverse,←List.append_assoc] at h
theorem zt1{a:Array Keyed}{k:Nat}:(a.extract 0 k).toList=a.toList.take k:=by
 rw[Array.toList_extract,List.extract_eq_drop_take,List.drop_zero,Nat.sub_zero]
theorem zoe{a:Array Keyed}{i k:Nat}:(a.extract i k).toList=(a.toList.take k).drop i:=by
 rw[Array.toList_extract,List.extract_eq_drop_take,List.drop_take]
theorem zmy{a:Array Keyed}{n:Nat}{p:Keyed}(h:a[n-1]?=some p)(hn:0<n)(hs:n≤a.size):(a.toList.take n).drop (n-1)=[p]:=by
 have:=zfh h
 rw[List.drop_take,show n-(n-1)=1 by omega]
 exact this
theorem MH.one{a b out:Array Keyed}{na nb:Nat}{p:Keyed}(hA:a.toList.Pairwise kle)(m:MH a.toList b.toList out.toList na nb)(hp:a[na-1]?=some p)(hn:0<na)(hs:na≤a.size)(hx:∀y∈b.toList.take nb,kle y p):
  MH a.toList b.toList (out.push p).toList (na-1) nb:=by
 have:=m.more hA (k:=na-1) (by omega) (by rw[Array.length_toList];exact hs) (by rw[zmy hp hn hs];intro x ad y hy;rw[List.mem_singleton.mp ad];exact hx y hy)
 rw[zmy hp hn hs] at this
 rwa [Array.toList_push]
theorem MH.blk{a b out:Array Keyed}{na nb k:Nat}(hA:a.toList.Pairwise kle)(m:MH a.toList b.toList out.toList na nb)(hk:k≤na)(hs:na≤a.size)(hx:∀x∈(a.toList.take na).drop k,∀y∈b.toList.take nb,kle y x):
  MH a.toList b.toList (out++(a.extract k na).reverse).toList k nb:=by
 rw[Array.toList_append,Array.toList_reverse,zoe]
 exact m.more hA hk (by rw[Array.length_toList];exact hs) hx
theorem MH.done0{a b out:Array Keyed}{na nb:Nat}(hA:a.toList.Pairwise kle)(m:MH a.toList b.toList out.toList na nb)(e:nb=0)(hs:na≤a.size):
  SP a.toList b.toList (a.extract 0 na++b.extract 0 nb++out.reverse).toList:=by
 subst e
 rw[Array.toList_append,Array.toList_append,Array.toList_reverse,zt1,zt1,List.take_zero,List.append_nil]
 exact m.allA hA (by rw[Array.length_toList];exact hs)
theorem MH.doneZ{a b out:Array Keyed}{na nb:Nat}(hB:b.toList.Pairwise kle)(m:MH a.toList b.toList out.toList na nb)(e:na=0)(hs:nb≤b.size):
  SP a.toList b.toList (a.extract 0 na++b.extract 0 nb++out.reverse).toList:=by
 subst e
 rw[Array.toList_append,Array.toList_append,Array.toList_reverse,zt1,zt1,List.take_zero,List.nil_append]
 exact m.allB hB (by rw[Array.length_toList];exact hs)
theorem MH.firstB{a b out:Array Keyed}{na nb:Nat}(hA:a.toList.Pairwise kle)(hB:b.toList.Pairwise kle)(m:MH a.toList b.toList out.toList na nb)(e:nb=1)(ha:na≤a.size)(hb:0<b.size)
  (hx:∀x∈b.toList.take 1,∀y∈a.toList,kle x y):SP a.toList b.toList (b.extract 0 nb++a.extract 0 na++out.reverse).toList:=by
 subst e
 rw[Array.toList_append,Array.toList_append,Array.toList_reverse,zt1,zt1]
 exact m.first hA hB (by rw[Array.length_toList];exact ha) (by rw[Array.length_toList];exact hb) fun x h y g=>hx x h y (List.mem_of_mem_take g)
theorem zfo{a:Array Keyed}{n:Nat}{x:Keyed}(h:x∈a.toList.take n):∃j,j<n∧j<a.size∧a[j]?=some x:=by
 obtain⟨j,h1,h2,h3⟩:=zex (i:=0) (k:=n) (by rw[List.drop_zero];exact h)
 rw[Nat.zero_add] at h2 h3
 exact⟨j,h1,h2,h3⟩
theorem zf6{a:Array Keyed}{n k:Nat}{x:Keyed}(h:x∈(a.toList.take n).drop k):∃j,k≤j∧j<n∧j<a.size∧a[j]?=some x:=by
 rw[List.drop_take] at h
 obtain⟨j,h1,h2,h3⟩:=zex h
 exact⟨k+j,by omega,by omega,h2,h3⟩
theorem zn8{b:Array Keyed}{n:Nat}{p q:Keyed}(hB:b.toList.Pairwise kle)(hq:b[n-1]?=some q)(h:kle q p)(hn:n≤b.size)(h0:0<n):∀y∈b.toList.take n,kle y p:=by
 intro y hy
 obtain⟨j,h1,h2,h3⟩:=zfo hy
 have:=zuz hB (i:=j) (j:=n-1) (by omega) (by omega)
 rw[zc5 h3,zc5 hq] at this
 exact zm0 this h
structure MW(a b out:Array Keyed)(na nb:Nat):Prop where
 m:MH a.toList b.toList out.toList na nb
 a1:1≤na
 a2:na≤a.size
 b1:2≤nb
 b2:nb≤b.size
section
variable {prog : Program} {w : World} {A : Around} {E : Value → Shared → Prop} {s : Shared}
theorem zpg{st:SortSt}{a b:Array Keyed}{Q:Array Keyed→SortSt→Prop}(hk:kindOf st=oneType')(iA:∀x∈a.toList,zhq x)(iB:∀x∈b.toList,zhq x)
  (hA:a.toList.Pairwise kle) (hB:b.toList.Pairwise kle) (na0:0<a.size) (nb0:0<b.size)
  (hb0:∀x∈b.toList.take 1,∀y∈a.toList,kle x y) (hla:∀x∈b.toList,∀y∈a.toList.drop (a.size-1),kle x y)
  (h:∀r g,SP a.toList b.toList r.toList→Q r (zff st g)):
  wpS (model prog w) A E s (zv8 a b) Q st:=by
 have pA:∀{i},i<a.size→∃p,a[i]?=some p∧zhq p:=fun hi=>⟨_,Array.getElem?_eq_getElem hi,iA _ (Array.getElem_mem_toList hi)⟩
 have pB:∀{i},i<b.size→∃p,b[i]?=some p∧zhq p:=fun hi=>⟨_,Array.getElem?_eq_getElem hi,iB _ (Array.getElem_mem_toList hi)⟩
 obtain⟨z,hz,iz⟩:=pA (show a.size-1<a.size by omega)
 refine wpS_bind (wpS_lift (wpAny_rule ⟨rfl,?_⟩))
 refine wpS_bind (zbe hz ?_)
 have m0:MH a.toList b.toList (#[z]:Array Keyed).toList (a.size-1) b.size:=by
  have e:MH a.toList b.toList (#[]:Array Keyed).toList a.size b.size:=⟨by rw[List.drop_of_length_le (Nat.le_of_eq Array.length_toList),List.drop_of_length_le (Nat.le_of_eq Array.length_toList)];exact List.Perm.refl _,List.Pairwise.nil,nofun,nofun⟩
  exact e.one hA hz na0 (Nat.le_refl _) fun y hy=>hla y (List.mem_of_mem_take hy) z (List.mem_of_mem_take (i:=1) (by rw[zfh hz];exact List.mem_singleton.mpr rfl))
 refine zau (fun c1=>wpS_pure (h _ (gallopOf st) (m0.doneZ hB (beq_iff_eq.mp c1) (Nat.le_refl _)))) (fun c1=>?_)
 refine zau (fun c2=>wpS_pure (h _ (gallopOf st) (m0.firstB hA hB (beq_iff_eq.mp c2) (by omega) nb0 hb0))) (fun c2=>?_)
 replace c1:a.size-1≠0:=fun z=>c1 (beq_iff_eq.mpr z)
 replace c2:b.size≠1:=fun z=>c2 (beq_iff_eq.mpr z)
 refine wpS_bind (wpS_get ?_)
 refine wpS_bind (wpS_mono (wpS_forRange
  (I:=fun x c ae=>(∃g,zff st g=ae)∧∃na nb ad mg,c=(none,na,nb,ad,mg)∧MW a b ad na nb∧x+1+na+nb≤a.size+b.size)
  (Q:=fun c ae=>(∃g,zff st g=ae)∧∃r rest,c=(some r,rest)∧SP a.toList b.toList r.toList)
  ?_ ?_ ⟨⟨gallopOf st,rfl⟩,_,_,_,_,rfl,⟨m0,by omega,by omega,by omega,by omega⟩,by omega⟩) ?_)
 ·rintro x0 c ae _ aA ⟨⟨g,rfl⟩,na,nb,ad,mg,rfl,v,hx⟩
  refine wpS_bind (wpS_mono (wpS_forRange
   (I:=fun x c ae=>zff st g=ae∧∃na nb ad ac bc,c=(none,na,nb,ad,ac,bc)∧MW a b ad na nb∧x0+1+x+na+nb≤a.size+b.size)
   (Q:=fun c ae=>zff st g=ae∧((∃r rest,c=(some r,rest)∧SP a.toList b.toList r.toList)∨∃na nb ad ac bc,c=(none,na,nb,ad,ac,bc)∧MW a b ad na nb∧x0+2+na+nb≤a.size+b.size))
   ?_ ?_ ⟨rfl,na,nb,ad,0,0,rfl,v,by omega⟩) ?_)
  ·rintro x c ae _ av ⟨rfl,na,nb,ad,ac,bc,rfl,v,hx⟩
   obtain⟨vm,a1,a2,b1,b2⟩:=v
   obtain⟨p,hp,ip⟩:=pA (show na-1<a.size by omega)
   obtain⟨q,hq,iq⟩:=pB (show nb-1<b.size by omega)
   refine wpS_bind (zbe hq (wpS_bind (zbe hp (wpS_bind (zll hk iq ip ?_)))))
   dsimp only
   refine zau (fun c3=>?_) (fun c3=>?_)
   ·have ah:kle q p:=Int.le_of_lt (of_decide_eq_true c3)
    have m2:=vm.one hA hp a1 a2 (zn8 hB hq ah b2 (by omega))
    refine wpS_bind (zbe hp ?_)
    refine zau (fun c4=>wpS_pure ⟨rfl,.inl ⟨_,_,rfl,m2.doneZ hB (beq_iff_eq.mp c4) b2⟩⟩) (fun c4=>?_)
    have aj:na-1≠0:=fun z=>c4 (beq_iff_eq.mpr z)
    exact zau (fun c5=>wpS_pure ⟨rfl,.inr ⟨_,_,_,_,_,rfl,⟨m2,by omega,by omega,b1,b2⟩,by omega⟩⟩) (fun c5=>wpS_pure ⟨rfl,_,_,_,_,_,rfl,⟨m2,by omega,by omega,b1,b2⟩,by omega⟩)
   ·have ah:kle p q:=Int.not_lt.mp (fun z=>c3 (decide_eq_true z))
    have m2:=(vm.swap.one hB hq (by omega) b2 (zn8 hA hp ah a2 a1)).swap
    refine wpS_bind (zbe hq ?_)
    refine zau (fun c4=>wpS_pure ⟨rfl,.inl ⟨_,_,rfl,m2.firstB hA hB (beq_iff_eq.mp c4) a2 nb0 hb0⟩⟩) (fun c4=>?_)
    have aj:nb-1≠1:=fun z=>c4 (beq_iff_eq.mpr z)
    exact zau (fun c5=>wpS_pure ⟨rfl,.inr ⟨_,_,_,_,_,rfl,⟨m2,a1,a2,by omega,by omega⟩,by omega⟩⟩) (fun c5=>wpS_pure ⟨rfl,_,_,_,_,_,rfl,⟨m2,a1,a2,by omega,by omega⟩,by omega⟩)
  ·rintro c ae ⟨rfl,na,nb,ad,ac,bc,rfl,⟨vm,a1,a2,b1,b2⟩,hx⟩
   omega
  ·rintro c ae ⟨rfl,⟨r,rest,rfl,hr⟩|⟨na,nb,ad,ac,bc,rfl,v,hx⟩⟩
   ·exact wpS_pure ⟨⟨g,rfl⟩,r,_,rfl,hr⟩
   refine wpS_bind (wpS_lift (wpAny_rule ⟨rfl,?_⟩))
   refine wpS_bind (wpS_mono (wpS_forRange
    (I:=fun x c ae=>(∃g,zff st g=ae)∧∃na nb ad mg ac bc,c=(none,na,nb,ad,mg,ac,bc)∧MW a b ad na nb∧x0+2+x+na+nb≤a.size+b.size)
    (Q:=fun c ae=>(∃g,zff st g=ae)∧((∃r rest,c=(some r,rest)∧SP a.toList b.toList r.toList)∨∃na nb ad mg ac bc,c=(none,na,nb,ad,mg,ac,bc)∧MW a b ad na nb∧x0+2+na+nb≤a.size+b.size))
    ?_ ?_ ⟨⟨g,rfl⟩,na,nb,ad,_,ac,bc,rfl,v,by omega⟩) ?_)
   ·rintro x c ae _ av ⟨⟨g,rfl⟩,na,nb,ad,mg,ac,bc,rfl,⟨vm,a1,a2,b1,b2⟩,hx⟩
    obtain⟨q,hq,iq⟩:=pB (show nb-1<b.size by omega)
    dsimp (config:={ zeta:=false,zetaHave:=false,zetaUnused:=false }) only
    extract_lets _ _ _ _ _ _ _ _ _ _ _ _ jp
    suffices hj:∀af,wpS (model prog w) A E s (jp () af) _ (zff st g) from zau (fun _=>hj _) (fun _=>hj _)
    intro af
    refine wpS_bind (wpS_modify ?_)
    refine wpS_bind (zbe hq ?_)
    refine wpS_bind (zdk (left:=false) (arr:=a) (base:=0) (n:=na) (hint:=na-1) hk iq (fun i hi=>by rw[Nat.zero_add];exact pA (i:=i) (by omega)) (fun i j ai hj=>by rw[Nat.zero_add,Nat.zero_add];exact zuz hA ai (by omega)) (by omega) fun k k1 k2 k3=>?_)
    have ax:∀x∈(a.toList.take na).drop k,∀y∈b.toList.take nb,kle y x:=fun x hx y hy=>by
     obtain⟨j,h1,h2,h3,h4⟩:=zf6 hx
     exact zn8 hB hq (zjp (k3 j h1 h2) (by rw[Nat.zero_add];exact h4)) b2 (by omega) y hy
    have al:∀y∈a.toList.take k,kle y q:=fun y hy=>by
     obtain⟨j,h1,h2,h3⟩:=zfo hy
     exact zk2 (k2 j h1) (by rw[Nat.zero_add];exact h3)
    dsimp (config:={ zeta:=false,zetaHave:=false,zetaUnused:=false }) only
    extract_lets _ _ jp2
    suffices ap:∀(n2:Nat)(o2:Array Keyed),MH a.toList b.toList o2.toList n2 nb→1≤n2→n2≤na→(∀y∈a.toList.take n2,kle y q)→wpS (model prog w) A E s (jp2 () n2 o2) _ (zff st af) by
     refine zau (fun c3=>?_) (fun c3=>ap na ad vm a1 (Nat.le_refl _) (by have ah:¬(na-k>0):=c3;rw[show na=k by omega];exact al))
     have m2:=vm.blk hA k1 a2 ax
     refine zau (fun c4=>wpS_pure ⟨⟨af,rfl⟩,.inl ⟨_,_,rfl,m2.doneZ hB (beq_iff_eq.mp c4) b2⟩⟩) (fun c4=>?_)
     have aj:k≠0:=fun z=>c4 (beq_iff_eq.mpr z)
     exact ap k _ m2 (by omega) k1 al
    intro n2 o2 m2 ak aB az
    obtain⟨p,hp,ip⟩:=pA (show n2-1<a.size by omega)
    refine wpS_bind (zbe hq ?_)
    have m3:=(m2.swap.one hB hq (by omega) b2 az).swap
    refine zau (fun c4=>wpS_pure ⟨⟨af,rfl⟩,.inl ⟨_,_,rfl,m3.firstB hA hB (beq_iff_eq.mp c4) (by omega) nb0 hb0⟩⟩) (fun c4=>?_)
    have aj:nb-1≠1:=fun z=>c4 (beq_iff_eq.mpr z)
    refine wpS_bind (zbe hp ?_)
    refine wpS_bind (zdk (left:=true) (arr:=b) (base:=0) (n:=nb-1) (hint:=nb-1-1) hk ip (fun i hi=>by rw[Nat.zero_add];exact pB (i:=i) (by omega)) (fun i j ai hj=>by rw[Nat.zero_add,Nat.zero_add];exact zuz hB ai (by omega)) (by omega) fun k' l1 l2 l3=>?_)
    have aw:∀x∈(b.toList.take (nb-1)).drop k',∀y∈a.toList.take n2,kle y x:=fun x hx y hy=>by
     obtain⟨j,h1,h2,h3,h4⟩:=zf6 hx
     exact zn8 hA hp (zky (l3 j h1 h2) (by rw[Nat.zero_add];exact h4)) (by omega) ak y hy
    have ao:∀y∈b.toList.take k',kle y p:=fun y hy=>by
     obtain⟨j,h1,h2,h3⟩:=zfo hy
     exact znz (l2 j h1) (by rw[Nat.zero_add];exact h3)
    dsimp (config:={ zeta:=false,zetaHave:=false,zetaUnused:=false }) only
    extract_lets _ _ _ jp3
    suffices aq:∀(n3:Nat)(o3:Array Keyed),MH a.toList b.toList o3.toList n2 n3→2≤n3→n3≤nb-1→(∀y∈b.toList.take n3,kle y p)→wpS (model prog w) A E s (jp3 () n3 o3) _ (zff st af) by
     refine zau (fun c3=>?_) (fun c3=>aq (nb-1) _ m3 (by omega) (Nat.le_refl _) (by have ah:¬(nb-1-k'>0):=c3;rw[show nb-1=k' by omega];exact ao))
     have m4:=(m3.swap.blk hB l1 (by omega) aw).swap
     refine zau (fun c5=>wpS_pure ⟨⟨af,rfl⟩,.inl ⟨_,_,rfl,m4.firstB hA hB (beq_iff_eq.mp c5) (by omega) nb0 hb0⟩⟩) (fun c5=>?_)
     refine zau (fun c6=>wpS_pure ⟨⟨af,rfl⟩,.inl ⟨_,_,rfl,m4.done0 hA (beq_iff_eq.mp c6) (by omega)⟩⟩) (fun c6=>?_)
     have ay:k'≠1:=fun z=>c5 (beq_iff_eq.mpr z)
     have aC:k'≠0:=fun z=>c6 (beq_iff_eq.mpr z)
     exact aq k' _ m4 (by omega) l1 ao
    intro n3 o3 m4 am au ar
    refine wpS_bind (zbe hp ?_)
    have m5:=m4.one hA hp ak (by omega) ar
    refine zau (fun c5=>wpS_pure ⟨⟨af,rfl⟩,.inl ⟨_,_,rfl,m5.doneZ hB (beq_iff_eq.mp c5) (by omega)⟩⟩) (fun c5=>?_)
    have ay:n2-1≠0:=fun z=>c5 (beq_iff_eq.mpr z)
    exact zau (fun c6=>wpS_pure ⟨⟨af,rfl⟩,.inr ⟨_,_,_,_,_,_,rfl,⟨m5,by omega,by omega,am,by omega⟩,by omega⟩⟩) (fun c6=>wpS_pure ⟨⟨af,rfl⟩,_,_,_,_,_,_,rfl,⟨m5,by omega,by omega,am,by omega⟩,by omega⟩)
   ·rintro c ae ⟨⟨g,rfl⟩,na,nb,ad,mg,ac,bc,rfl,⟨vm,a1,a2,b1,b2⟩,hx⟩
    omega
   ·rintro c ae ⟨⟨g,rfl⟩,⟨r,rest,rfl,hr⟩|⟨na,nb,ad,mg,ac,bc,rfl,v,hx⟩⟩
    ·exact wpS_pure ⟨⟨g,rfl⟩,r,_,rfl,hr⟩
    ·exact wpS_bind (wpS_modify (wpS_pure ⟨⟨_,rfl⟩,_,_,_,_,rfl,v,by omega⟩))
 ·rintro c ae ⟨⟨g,rfl⟩,na,nb,ad,mg,rfl,⟨vm,a1,a2,b1,b2⟩,hx⟩
  omega
 ·rintro c ae ⟨⟨g,rfl⟩,r,rest,rfl,hr⟩
  exact wpS_pure (h r g hr)
end
def AllI(xs:Array Keyed):Prop:=∀p∈xs.toList,zhq p
theorem AllI.perm{xs ys:Array Keyed}(h:AllI xs)(hp:ys.Perm xs):AllI ys:=fun p hm=>h p ((Array.perm_iff_toList_perm.mp hp).mem_iff.mp hm)
def zbc(xs:Array Keyed)(i j:Nat):Prop:=∀p q,i≤p→p≤q→q<j→K xs p≤K xs q
def zgn(xs:Array Keyed)(at' n:Nat)(l:List Keyed):Array Keyed:=(l.zipIdx n).foldl (fun a (p:Keyed×Nat)=>a.setIfInBounds (at'+p.2) p.1) xs
theorem zic:∀(l:List Keyed)(xs:Array Keyed)(at' n:Nat),at'+n+l.length≤xs.size→∀k:Nat,
  (zgn xs at' n l)[k]?=if at'+n≤k∧k<at'+n+l.length then l[k-(at'+n)]? else xs[k]?
 |[],xs,at',n,_,k=>by
  show xs[k]?=_
  rw[if_neg (by rw[List.length_nil];omega)]
 |p::l,xs,at',n,h,k=>by
  rw[List.length_cons] at h ⊢
  show(zgn (xs.setIfInBounds (at'+n) p) at' (n+1) l)[k]?=_
  rw[zic l _ at' (n+1) (by rw[Array.size_setIfInBounds];omega) k]
  by_cases e:k=at'+n
  ·subst e
   rw[if_neg (by omega),if_pos (by omega),Nat.sub_self,List.getElem?_cons_zero,Array.getElem?_setIfInBounds_self_of_lt (by omega)]
  ·by_cases g:at'+n≤k∧k<at'+n+(l.length+1)
   ·rw[if_pos g,if_pos (by omega),show k-(at'+n)=(k-(at'+(n+1)))+1 by omega,List.getElem?_cons_succ]
   ·rw[if_neg g,if_neg (by omega),Array.getElem?_setIfInBounds_ne (by omega)]
theorem zqx{xs:Array Keyed}{at':Nat}{l:List Keyed}(h:at'+l.length≤xs.size):
  (zgn xs at' 0 l).toList=xs.toList.take at'++(l++xs.toList.drop (at'+l.length)):=by
 have ad:(xs.toList.take at').length=at':=by rw[List.length_take,Array.length_toList];omega
 apply List.ext_getElem?
 intro k
 have e:=zic l xs at' 0 (by omega) k
 rw[Nat.add_zero] at e
 rw[Array.getElem?_toList,e]
 by_cases h1:k<at'
 ·rw[if_neg (by omega),List.getElem?_append_left (by omega),List.getElem?_take,if_pos h1,Array.getElem?_toList]
 ·rw[List.getElem?_append_right (by omega),ad]
  by_cases h2:k<at'+l.length
  ·rw[if_pos (by omega),List.getElem?_append_left (by omega)]
  ·rw[if_neg (by omega),List.getElem?_append_right (by omega),List.getElem?_drop,Array.getElem?_toList,show at'+l.length+(k-at'-l.length)=k by omega]
theorem zvn{xs:Array Keyed}{i j:Nat}(h:i≤j):xs.toList=xs.toList.take i++((xs.extract i j).toList++xs.toList.drop j):=by
 rw[zoe,←List.append_assoc]
 have:xs.toList.take i++(xs.toList.take j).drop i=xs.toList.take j:=by
  conv=>rhs;rw[←List.take_append_drop i (xs.toList.take j)]
  rw[List.take_take,Nat.min_eq_left h]
 rw[this,List.take_append_drop]
theorem zye{xs:Array Keyed}{i j:Nat}(h:zbc xs i j)(hj:j≤xs.size):(xs.extract i j).toList.Pairwise kle:=by
 rw[List.pairwise_iff_getElem]
 intro p q hp hq ad
 rw[zoe,List.length_drop,List.length_take,Array.length_toList] at hp hq
 simp only[zoe,List.getElem_drop,List.getElem_take,Array.getElem_toList]
 have:=h (i+p) (i+q) (by omega) (by omega) (by omega)
 rw[zc5 (Array.getElem?_eq_getElem (by omega)),zc5 (Array.getElem?_eq_getElem (by omega))] at this
 exact this
section
variable {prog : Program} {w : World} {A : Around} {E : Value → Shared → Prop} {s : Shared}
theorem zqk{st:SortSt}{i sa na sb nb pw pw2:Nat}{Q:Bool→SortSt→Prop}(hk:kindOf st=oneType')(hf:failedOf st=none)(hI:AllI (arrOf st))
  (h1:(pendingOf st)[i]?=some (sa,na,pw)) (h2:(pendingOf st)[i+1]?=some (sb,nb,pw2)) (hsb:sb=sa+na) (hna:1≤na) (hnb:1≤nb) (hsz:sb+nb≤(arrOf st).size)
  (s1:zbc (arrOf st) sa sb) (s2:zbc (arrOf st) sb (sb+nb))
  (h:∀xs g,xs.Perm (arrOf st)→zbc xs sa (sb+nb)→(∀k,k<sa∨sb+nb≤k→K xs k=K (arrOf st) k) →
   Q true (SortSt.mk' oneType' xs (((pendingOf st).setIfInBounds i (sa,na+nb,pw)).eraseIdxIfInBounds (i+1)) g none)):
  wpS (model prog w) A E s (mergeAt' i) Q st:=by
 obtain⟨kd,xs,pd,g0,fl⟩:=st
 cases hk
 cases hf
 refine wpS_bind (wpS_get ?_)
 have aq:pd[i]?=some (sa,na,pw):=h1
 have ap:pd[i+1]?=some (sb,nb,pw2):=h2
 replace hI:AllI xs:=hI
 replace hsz:sb+nb≤xs.size:=hsz
 replace s1:zbc xs sa sb:=s1
 replace s2:zbc xs sb (sb+nb):=s2
 replace h:∀ys g,ys.Perm xs→zbc ys sa (sb+nb)→(∀k,k<sa∨sb+nb≤k→K ys k=K xs k) →
   Q true (SortSt.mk' oneType' ys ((pd.setIfInBounds i (sa,na+nb,pw)).eraseIdxIfInBounds (i+1)) g none):=h
 dsimp only
 rw[aq,ap]
 dsimp only
 have pX:∀{i},i<xs.size→∃p,xs[i]?=some p∧zhq p:=fun hi=>⟨_,Array.getElem?_eq_getElem hi,hI _ (Array.getElem_mem_toList hi)⟩
 refine wpS_bind (wpS_modify ?_)
 obtain⟨q,hq,iq⟩:=pX (show sb<xs.size by omega)
 refine wpS_bind (zbe hq ?_)
 refine wpS_bind (zdk (left:=false) (arr:=xs) (base:=sa) (n:=na) (hint:=0) rfl iq (fun i hi=>pX (i:=sa+i) (by omega)) (fun i j am hj=>s1 _ _ (by omega) (by omega) (by omega)) (by omega) fun k k1 k2 k3=>?_)
 have f1:∀p,sa≤p→p<sa+k→K xs p≤K xs sb:=fun p p1 p2=>by
  obtain⟨u,hu,_⟩:=pX (show p<xs.size by omega)
  rw[zc5 hu,zc5 hq]
  exact zk2 (k2 (p-sa) (by omega)) (by rw[show sa+(p-sa)=p by omega];exact hu)
 have f2:∀p,sa+k≤p→p<sb→K xs sb≤K xs p:=fun p p1 p2=>by
  obtain⟨u,hu,_⟩:=pX (show p<xs.size by omega)
  rw[zc5 hu,zc5 hq]
  exact zjp (k3 (p-sa) (by omega) (by omega)) (by rw[show sa+(p-sa)=p by omega];exact hu)
 refine zau (fun c1=>wpS_pure ?_) (fun c1=>?_)
 ·have ar:na-k=0:=beq_iff_eq.mp c1
  refine h xs g0 (Array.Perm.refl _) (fun p q' p1 p2 p3=>?_) (fun _ _=>rfl)
  by_cases hp:q'<sb
  ·exact s1 _ _ p1 p2 hp
  ·by_cases av:p<sb
   ·exact Int.le_trans (f1 p p1 (by omega)) (s2 _ _ (Nat.le_refl _) (by omega) p3)
   ·exact s2 _ _ (by omega) p2 p3
 have ar:na-k≠0:=fun z=>c1 (beq_iff_eq.mpr z)
 obtain⟨u,hu,iu⟩:=pX (show sb-1<xs.size by omega)
 have eu:sa+k+(na-k)-1=sb-1:=by omega
 refine wpS_bind (zbe (p:=u) (by rw[eu];exact hu) ?_)
 refine wpS_bind (zdk (left:=true) (arr:=xs) (base:=sb) (n:=nb) (hint:=nb-1) rfl iu (fun i hi=>pX (i:=sb+i) (by omega)) (fun i j am hj=>s2 _ _ (by omega) (by omega) (by omega)) (by omega) fun n' n1 n2 n3=>?_)
 have f3:∀p,sb≤p→p<sb+n'→K xs p≤K xs (sb-1):=fun p p1 p2=>by
  obtain⟨v,hv,_⟩:=pX (show p<xs.size by omega)
  rw[zc5 hv,zc5 hu]
  exact znz (n2 (p-sb) (by omega)) (by rw[show sb+(p-sb)=p by omega];exact hv)
 have f4:∀p,sb+n'≤p→p<sb+nb→K xs (sb-1)≤K xs p:=fun p p1 p2=>by
  obtain⟨v,hv,_⟩:=pX (show p<xs.size by omega)
  rw[zc5 hv,zc5 hu]
  exact zky (n3 (p-sb) (by omega) (by omega)) (by rw[show sb+(p-sb)=p by omega];exact hv)
 refine zau (fun c2=>wpS_pure ?_) (fun c2=>?_)
 ·have au:n'=0:=beq_iff_eq.mp c2
  refine h xs g0 (Array.Perm.refl _) (fun p q' p1 p2 p3=>?_) (fun _ _=>rfl)
  by_cases hp:q'<sb
  ·exact s1 _ _ p1 p2 hp
  ·by_cases av:p<sb
   ·exact Int.le_trans (s1 p (sb-1) p1 (by omega) (by omega)) (f4 _ (by omega) p3)
   ·exact s2 _ _ (by omega) p2 p3
 have au:n'≠0:=fun z=>c2 (beq_iff_eq.mpr z)
 have zX:(xs.extract (sa+k) sb).size=sb-(sa+k):=by rw[Array.size_extract];omega
 have zY:(xs.extract sb (sb+n')).size=n':=by rw[Array.size_extract];omega
 have gX:∀x∈(xs.extract (sa+k) sb).toList,∃j,sa+k≤j∧j<sb∧xs[j]?=some x:=fun x hx=>by
  rw[zoe] at hx
  obtain⟨j,j1,j2,j3,j4⟩:=zf6 hx
  exact⟨j,j1,j2,j4⟩
 have gY:∀x∈(xs.extract sb (sb+n')).toList,∃j,sb≤j∧j<sb+n'∧xs[j]?=some x:=fun x hx=>by
  rw[zoe] at hx
  obtain⟨j,j1,j2,j3,j4⟩:=zf6 hx
  exact⟨j,j1,j2,j4⟩
 have iX:∀x∈(xs.extract (sa+k) sb).toList,zhq x:=fun x hx=>by
  obtain⟨j,_,_,hj⟩:=gX x hx
  exact hI x (zux hj)
 have iY:∀x∈(xs.extract sb (sb+n')).toList,zhq x:=fun x hx=>by
  obtain⟨j,_,_,hj⟩:=gY x hx
  exact hI x (zux hj)
 have aj:(xs.extract (sa+k) sb).toList.Pairwise kle:=zye (fun p q p1 p2 p3=>s1 p q (by omega) p2 p3) (by omega)
 have al:(xs.extract sb (sb+n')).toList.Pairwise kle:=zye (fun p q p1 p2 p3=>s2 p q p1 p2 (by omega)) (by omega)
 have ai:∀x∈(xs.extract sb (sb+n')).toList.take 1,∀y∈(xs.extract (sa+k) sb).toList,kle x y:=fun x hx y hy=>by
  have e0:(xs.extract sb (sb+n'))[0]?=some q:=by
   rw[Array.getElem?_extract,if_pos (by omega),Nat.add_zero];exact hq
  have:=zfh e0
  rw[List.drop_zero] at this
  rw[this] at hx
  rw[List.mem_singleton.mp hx]
  obtain⟨j,j1,j2,j3⟩:=gX y hy
  have:=f2 j j1 j2
  rwa [zc5 hq,zc5 j3] at this
 have ak:∀x∈(xs.extract sb (sb+n')).toList,∀y∈(xs.extract (sa+k) sb).toList.drop ((xs.extract (sa+k) sb).size-1),kle x y:=fun x hx y hy=>by
  have e0:(xs.extract (sa+k) sb)[(xs.extract (sa+k) sb).size-1]?=some u:=by
   rw[zX,Array.getElem?_extract,if_pos (by omega),show sa+k+(sb-(sa+k)-1)=sb-1 by omega];exact hu
  have aw:y=u:=by
   obtain⟨j,j1,j2,j3⟩:=zgv hy
   have:j=(xs.extract (sa+k) sb).size-1:=by omega
   rw[this,e0] at j3
   exact(Option.some.inj j3).symm
  rw[aw]
  obtain⟨j,j1,j2,j3⟩:=gY x hx
  have:=f3 j j1 j2
  rwa [zc5 hu,zc5 j3] at this
 have fin:∀(r:Array Keyed)(g:Nat),SP (xs.extract (sa+k) sb).toList (xs.extract sb (sb+n')).toList r.toList →
   Q true (SortSt.mk' oneType' (zgn xs (sa+k) 0 r.toList) ((pd.setIfInBounds i (sa,na+nb,pw)).eraseIdxIfInBounds (i+1)) g none):=by
  intro r g hr
  have hl:r.toList.length=sb-(sa+k)+n':=by
   rw[hr.1.length_eq,List.length_append,Array.length_toList,Array.length_toList,zX,zY]
  have af:=zic r.toList xs (sa+k) 0 (by omega)
  have ae:∀p,sa+k≤p→p<sb+n'→∃x,(zgn xs (sa+k) 0 r.toList)[p]?=some x∧r.toList[p-(sa+k)]?=some x∧x∈r.toList:=fun p p1 p2=>by
   have e:=af p
   rw[if_pos (by omega),Nat.add_zero] at e
   have hp:p-(sa+k)<r.toList.length:=by omega
   rw[List.getElem?_eq_getElem hp] at e ⊢
   exact⟨_,e,rfl,List.getElem_mem hp⟩
  have ad:∀p,p<sa+k∨sb+n'≤p→K (zgn xs (sa+k) 0 r.toList) p=K xs p:=fun p hp=>by
   have e:=af p
   rw[if_neg (by omega)] at e
   exact K_congr e
  have ao:∀x∈r.toList,K xs sb≤kn x∧kn x≤K xs (sb-1):=fun x hx=>by
   rcases List.mem_append.mp (hr.1.mem_iff.mp hx) with z|z
   ·obtain⟨j,j1,j2,j3⟩:=gX x z
    rw[←zc5 j3]
    exact⟨f2 j j1 j2,s1 _ _ (by omega) (by omega) (by omega)⟩
   ·obtain⟨j,j1,j2,j3⟩:=gY x z
    rw[←zc5 j3]
    exact⟨s2 _ _ (Nat.le_refl _) j1 (by omega),f3 j j1 j2⟩
  have ah:∀p,sa+k≤p→p<sb+n'→K xs sb≤K (zgn xs (sa+k) 0 r.toList) p∧K (zgn xs (sa+k) 0 r.toList) p≤K xs (sb-1):=fun p p1 p2=>by
   obtain⟨x,x1,x2,x3⟩:=ae p p1 p2
   rw[zc5 x1]
   exact ao x x3
  refine h _ g ?_ ?_ (fun p hp=>ad p (by omega))
  ·refine Array.perm_iff_toList_perm.mpr ?_
   rw[zqx (by omega),hl,show sa+k+(sb-(sa+k)+n')=sb+n' by omega]
   conv=>rhs;rw[zvn (xs:=xs) (i:=sa+k) (j:=sb+n') (by omega)]
   refine List.Perm.append_left _ (List.Perm.append_right _ (hr.1.trans ?_))
   rw[zoe,zoe,zoe]
   have e1:(xs.toList.take (sb+n')).drop (sa+k)=(xs.toList.take sb).drop (sa+k)++(xs.toList.take (sb+n')).drop sb:=by
    conv=>lhs;rw[←List.take_append_drop sb (xs.toList.take (sb+n'))]
    rw[List.take_take,Nat.min_eq_left (by omega),List.drop_append_of_le_length (by rw[List.length_take,Array.length_toList];omega)]
   rw[e1]
  ·intro p q' p1 p2 p3
   by_cases a1:q'<sa+k
   ·rw[ad p (.inl (by omega)),ad q' (.inl a1)]
    exact s1 _ _ p1 p2 (by omega)
   ·by_cases a2:q'<sb+n'
    ·by_cases a3:p<sa+k
     ·rw[ad p (.inl a3)]
      exact Int.le_trans (f1 p p1 a3) (ah q' (by omega) a2).1
     ·obtain⟨x,x1,x2,_⟩:=ae p (by omega) (by omega)
      obtain⟨y,y1,y2,_⟩:=ae q' (by omega) a2
      rw[zc5 x1,zc5 y1]
      by_cases a4:p=q'
      ·subst a4
       rw[x1] at y1
       rw[Option.some.inj y1]
       exact Int.le_refl _
      ·obtain⟨i1,e1⟩:=List.getElem?_eq_some_iff.mp x2
       obtain⟨i2,e2⟩:=List.getElem?_eq_some_iff.mp y2
       have:=List.pairwise_iff_getElem.mp hr.2 _ _ i1 i2 (by omega)
       rwa [e1,e2] at this
    ·rw[ad q' (.inr (by omega))]
     by_cases a3:p<sa+k
     ·rw[ad p (.inl a3)]
      exact Int.le_trans (f1 p p1 a3) (s2 _ _ (Nat.le_refl _) (by omega) p3)
     ·by_cases a4:p<sb+n'
      ·exact Int.le_trans (ah p (by omega) a4).2 (f4 q' (by omega) p3)
      ·rw[ad p (.inr (by omega))]
       exact s2 _ _ (by omega) p2 p3
 refine zau (fun c3=>?_) (fun c3=>?_)
 ·refine wpS_bind (zo4 rfl iX iY aj al (by omega) (by omega) ai ak fun r g hr=>?_)
  exact wpS_bind (wpS_modify (wpS_bind (wpS_get (wpS_pure (fin r g hr)))))
 ·refine wpS_bind (zpg rfl iX iY aj al (by omega) (by omega) ai ak fun r g hr=>?_)
  exact wpS_bind (wpS_modify (wpS_bind (wpS_get (wpS_pure (fin r g hr)))))
end
theorem zyk{xs:Array Keyed}{i:Nat}:zbc xs i (i+1):=fun p q p1 p2 p3=>by
 have:p=q:=by omega
 subst this;exact Int.le_refl _
def zp1(xs:Array Keyed)(i j:Nat):Prop:=∀p q,i≤p→p≤q→q<j→K xs q≤K xs p
section
variable {prog : Program} {w : World} {A : Around} {E : Value → Shared → Prop} {s : Shared}
theorem zhl{st:SortSt}{xs:Array Keyed}{i j:Nat}{Q:Option Bool→SortSt→Prop}(hk:kindOf st=oneType')(hI:AllI xs)(hi:i<xs.size)(hj:j<xs.size)
  (h:Q (some (decide (K xs i<K xs j))) (setArr st xs)):wpS (model prog w) A E s (ltAt' i j) Q (setArr st xs):=by
 have e1:=Array.getElem?_eq_getElem hi
 have e2:=Array.getElem?_eq_getElem hj
 rw[ltAt'_eq]
 refine wpS_bind (wpS_get ?_)
 refine wpS_bind (zbe e1 (wpS_bind (zbe e2 (zll hk (hI _ (Array.getElem_mem_toList hi)) (hI _ (Array.getElem_mem_toList hj)) ?_))))
 rw[zc5 e1,zc5 e2] at h
 exact h
theorem zmk{st:SortSt}{xs:Array Keyed}{lo nrem:Nat}{Q:Option Nat→SortSt→Prop}(hk:kindOf st=oneType')(hI:AllI xs)(hn:lo+nrem≤xs.size)(h1:1≤nrem)
  (h:∀m ys,ys.Perm xs→(∀k,k<lo→K ys k=K xs k)→1≤m→m≤nrem→zbc ys lo (lo+m)→Q (some m) (setArr st ys)):
  wpS (model prog w) A E s (countRun' lo nrem) Q (setArr st xs):=by
 refine wpS_bind (wpS_mono (wpS_forRange
  (I:=fun x c ad=>setArr st xs=ad∧c=(none,x)∧x≤nrem∧zbc xs lo (lo+x))
  (Q:=fun c ad=>setArr st xs=ad∧∃n,c=(none,n)∧1≤n∧n≤nrem∧zbc xs lo (lo+n)∧(n=nrem∨K xs (lo+n)<K xs (lo+n-1)))
  ?_ ?_ ⟨rfl,rfl,h1,zyk⟩) ?_)
 ·rintro x c ad ak aq ⟨rfl,rfl,hx,hs⟩
  dsimp only
  refine wpS_bind (zhl hk hI (by omega) (by omega) ?_)
  dsimp only
  refine zau (fun c1=>wpS_pure ⟨rfl,x,rfl,ak,by omega,hs,.inr (of_decide_eq_true c1)⟩) (fun c1=>wpS_pure ⟨rfl,rfl,by omega,fun p q p1 p2 p3=>?_⟩)
  have aj:K xs (lo+x-1)≤K xs (lo+x):=Int.not_lt.mp fun z=>c1 (decide_eq_true z)
  by_cases hq:q<lo+x
  ·exact hs p q p1 p2 hq
  ·have:q=lo+x:=by omega
   subst this
   by_cases hp:p=lo+x
   ·subst hp;exact Int.le_refl _
   ·exact Int.le_trans (hs p (lo+x-1) p1 (by omega) (by omega)) aj
 ·rintro c ad ⟨rfl,rfl,hx,hs⟩
  rw[show max 1 nrem=nrem by omega] at hs ⊢
  exact⟨rfl,_,rfl,h1,Nat.le_refl _,hs,.inl rfl⟩
 rintro c ad ⟨rfl,n,rfl,n1,n2,hs,au⟩
 refine zau (c:=(n==nrem)=true) (fun c1=>wpS_pure (h n xs (Array.Perm.refl _) (fun _ _=>rfl) n1 n2 hs)) (fun c1=>?_)
 have aj:n≠nrem:=fun z=>c1 (beq_iff_eq.mpr z)
 have ao:=au.resolve_left aj
 extract_lets _ _ jp
 suffices hj:∀ys,ys.Perm xs→(∀k,k<lo→K ys k=K xs k)→zp1 ys lo (lo+(n+1))→wpS (model prog w) A E s (jp ()) Q (setArr st ys) by
  refine zau (fun c2=>?_) (fun c2=>?_)
  ·refine wpS_bind (zhl hk hI (by omega) (by omega) ?_)
   refine zau (c:=decide (K xs lo<K xs (lo+n-1))=true) (fun c3=>wpS_pure (h n xs (Array.Perm.refl _) (fun _ _=>rfl) n1 n2 hs)) (fun c3=>?_)
   have al:K xs (lo+n-1)≤K xs lo:=Int.not_lt.mp fun z=>c3 (decide_eq_true z)
   have all:∀k,lo≤k→k<lo+n→K xs k=K xs (lo+n-1):=fun k k1 k2=>by
    have a1:=hs lo k (Nat.le_refl _) k1 k2
    have a2:=hs k (lo+n-1) k1 (by omega) (by omega)
    omega
   refine wpS_bind (wpS_modify ?_)
   have e:=K_mirror_equal (i:=lo) (j:=lo+n) (xs:=xs) (by omega) all
   refine hj (mirror xs lo (lo+n) ((lo+n-lo)/2)) (mirror_perm _ _ _ _) (fun k _=>e k) (fun p q p1 p2 p3=>?_)
   rw[e,e]
   by_cases hq:q<lo+n
   ·rw[all q (by omega) hq,all p p1 (by omega)];exact Int.le_refl _
   ·have:q=lo+n:=by omega
    subst this
    by_cases hp:p=lo+n
    ·subst hp;exact Int.le_refl _
    ·rw[all p p1 (by omega)];exact Int.le_of_lt ao
  ·refine hj xs (Array.Perm.refl _) (fun _ _=>rfl) (fun p q p1 p2 p3=>?_)
   have az:¬n>1:=c2
   have:n=1:=by omega
   subst this
   by_cases hp:p=q
   ·subst hp;exact Int.le_refl _
   ·have:p=lo:=by omega
    have:q=lo+1:=by omega
    subst p q
    exact Int.le_of_lt ao
 intro ys yp yl yd
 have yz:ys.size=xs.size:=yp.size_eq
 refine wpS_bind (wpS_lift (wpAny_rule ⟨rfl,?_⟩))
 refine wpS_bind (wpS_mono (wpS_forRange
  (I:=fun x c ad=>∃zs ae,setArr st zs=ad∧c=(none,x,ae)∧zs.Perm xs∧(∀k,k<lo→K zs k=K xs k)∧zp1 zs lo (lo+x)∧x≤nrem∧ae+1≤x∧(∀i,lo+x-(ae+1)≤i→i<lo+x→K zs i=K zs (lo+x-1)))
  (Q:=fun c ad=>∃zs m ae,setArr st zs=ad∧c=(none,m,ae)∧zs.Perm xs∧(∀k,k<lo→K zs k=K xs k)∧zp1 zs lo (lo+m)∧1≤m∧m≤nrem∧ae+1≤m∧(∀i,lo+m-(ae+1)≤i→i<lo+m→K zs i=K zs (lo+m-1)))
  ?_ ?_ ⟨ys,0,rfl,rfl,yp,yl,yd,by omega,by omega,fun i i1 i2=>by rw[show i=lo+(n+1)-1 by omega]⟩) ?_)
 ·rintro x c ad ak aq ⟨zs,ae,rfl,rfl,zp,zl,zd,z1,z2,z3⟩
  have zz:zs.size=xs.size:=zp.size_eq
  have am:n+1≤x:=ak
  refine wpS_bind (zhl hk (hI.perm zp) (by show lo+x<zs.size;omega) (by show lo+x-1<zs.size;omega) ?_)
  have ah:∀us:Array Keyed,(∀k,K us k=K zs k)→K zs (lo+x)≤K zs (lo+x-1)→zp1 us lo (lo+(x+1)):=fun us hu av p q p1 p2 p3=>by
   rw[hu,hu]
   by_cases hq:q<lo+x
   ·exact zd p q p1 p2 hq
   ·have:q=lo+x:=by omega
    subst this
    by_cases hp:p=lo+x
    ·subst hp;exact Int.le_refl _
    ·exact Int.le_trans av (zd p (lo+x-1) p1 (by omega) (by omega))
  refine zau (c:=decide (K zs (lo+x)<K zs (lo+x-1))=true) (fun c3=>?_) (fun c3=>?_)
  ·have al:=of_decide_eq_true c3
   have e:=K_mirror_equal (i:=lo+x-(ae+1)) (j:=lo+x) (xs:=zs) (by omega) z3
   refine zau (c:=ae>0) (fun c4=>?_) (fun c4=>?_)
   ·exact wpS_bind (wpS_modify (wpS_pure ⟨mirror zs (lo+x-(ae+1)) (lo+x) ((lo+x-(lo+x-(ae+1)))/2),0,rfl,rfl,(mirror_perm _ _ _ _).trans zp,fun k ai=>by rw[e];exact zl k ai,ah _ e (Int.le_of_lt al),by omega,by omega,fun i i1 i2=>by rw[show i=lo+(x+1)-1 by omega]⟩))
   ·exact wpS_pure ⟨zs,0,rfl,rfl,zp,zl,ah _ (fun _=>rfl) (Int.le_of_lt al),by omega,by omega,fun i i1 i2=>by rw[show i=lo+(x+1)-1 by omega]⟩
  ·have al:=Int.not_lt.mp fun z=>c3 (decide_eq_true z)
   refine wpS_bind (zhl hk (hI.perm zp) (by show lo+x-1<zs.size;omega) (by show lo+x<zs.size;omega) ?_)
   refine zau (c:=decide (K zs (lo+x-1)<K zs (lo+x))=true) (fun c4=>wpS_pure ⟨zs,x,ae,rfl,rfl,zp,zl,zd,by omega,z1,z2,z3⟩) (fun c4=>?_)
   have aw:=Int.not_lt.mp fun z=>c4 (decide_eq_true z)
   have ex:K zs (lo+x)=K zs (lo+x-1):=by omega
   refine wpS_pure ⟨zs,ae+1,rfl,rfl,zp,zl,ah _ (fun _=>rfl) aw,by omega,by omega,fun i i1 i2=>?_⟩
   rw[show lo+(x+1)-1=lo+x by omega]
   by_cases hi:i=lo+x
   ·rw[hi]
   ·rw[ex];exact z3 i (by omega) (by omega)
 ·rintro c ad ⟨zs,ae,rfl,rfl,zp,zl,zd,z1,z2,z3⟩
  have e:max (n+1) nrem=nrem:=by omega
  rw[e] at zd z2 z3
  exact⟨zs,nrem,ae,rfl,by rw[e],zp,zl,zd,h1,Nat.le_refl _,z2,z3⟩
 rintro c ad ⟨zs,m,ae,rfl,rfl,zp,zl,zd,m1,z1,z2,z3⟩
 have zz:zs.size=xs.size:=zp.size_eq
 dsimp (config:={ zeta:=false,zetaHave:=false,zetaUnused:=false }) only
 extract_lets
 rename_i ax
 suffices ap:∀us,us.Perm xs→(∀k,k<lo→K us k=K xs k)→zp1 us lo (lo+m)→wpS (model prog w) A E s (ax ()) Q (setArr st us) by
  have e:=K_mirror_equal (i:=lo+m-(ae+1)) (j:=lo+m) (xs:=zs) (by omega) z3
  refine zau (fun c4=>?_) (fun c4=>ap zs zp zl zd)
  exact wpS_bind (wpS_modify (ap (mirror zs (lo+m-(ae+1)) (lo+m) ((lo+m-(lo+m-(ae+1)))/2)) ((mirror_perm _ _ _ _).trans zp) (fun k ai=>by rw[e];exact zl k ai) (fun p q p1 p2 p3=>by rw[e,e];exact zd p q p1 p2 p3)))
 intro us up ul ud
 have uz:us.size=xs.size:=up.size_eq
 refine wpS_bind (wpS_modify ?_)
 have hm:=K_mirror (xs:=us) (i:=lo) (j:=lo+m) (by omega)
 have vs:zbc (mirror us lo (lo+m) ((lo+m-lo)/2)) lo (lo+m):=fun p q p1 p2 p3=>by
  rw[hm,hm,if_pos ⟨p1,by omega⟩,if_pos ⟨by omega,p3⟩]
  exact ud _ _ (by omega) (by omega) (by omega)
 have vl:∀k,k<lo→K (mirror us lo (lo+m) ((lo+m-lo)/2)) k=K xs k:=fun k ai=>by
  rw[hm,if_neg (by omega)];exact ul k ai
 have vp:(mirror us lo (lo+m) ((lo+m-lo)/2)).Perm xs:=(mirror_perm _ _ _ _).trans up
 show wpS _ _ _ _ _ _ (setArr st (mirror us lo (lo+m) ((lo+m-lo)/2)))
 generalize mirror us lo (lo+m) ((lo+m-lo)/2)=vv at vs vl vp
 have vz:vv.size=xs.size:=vp.size_eq
 refine wpS_bind (wpS_mono (wpS_forRange
  (I:=fun x c ad=>setArr st vv=ad∧c=(none,x)∧x≤nrem∧zbc vv lo (lo+x))
  (Q:=fun c ad=>setArr st vv=ad∧∃n,c=(none,n)∧1≤n∧n≤nrem∧zbc vv lo (lo+n))
  ?_ ?_ ⟨rfl,rfl,z1,vs⟩) ?_)
 ·rintro x c ad ak aq ⟨rfl,rfl,hx,af⟩
  have am:m≤x:=ak
  refine wpS_bind (zhl hk (hI.perm vp) (by show lo+x<vv.size;omega) (by show lo+x-1<vv.size;omega) ?_)
  refine zau (c:=decide (K vv (lo+x)<K vv (lo+x-1))=true) (fun c1=>wpS_pure ⟨rfl,x,rfl,by omega,by omega,af⟩) (fun c1=>wpS_pure ⟨rfl,rfl,by omega,fun p q p1 p2 p3=>?_⟩)
  have aj:K vv (lo+x-1)≤K vv (lo+x):=Int.not_lt.mp fun z=>c1 (decide_eq_true z)
  by_cases hq:q<lo+x
  ·exact af p q p1 p2 hq
  ·have:q=lo+x:=by omega
   subst this
   by_cases hp:p=lo+x
   ·subst hp;exact Int.le_refl _
   ·exact Int.le_trans (af p (lo+x-1) p1 (by omega) (by omega)) aj
 ·rintro c ad ⟨rfl,rfl,hx,af⟩
  have e:max m nrem=nrem:=by omega
  rw[e] at af
  exact⟨rfl,nrem,by rw[e],h1,Nat.le_refl _,af⟩
 ·rintro c ad ⟨rfl,n',rfl,ay,ar,af⟩
  exact wpS_pure (h n' vv vp vl ay ar af)
end
def Chain(xs:Array Keyed):Nat→List (Nat×Nat×Nat)→Nat→Prop
 |a,[],b=>a=b
 |a,p::l,b=>p.1=a∧1≤p.2.1∧zbc xs a (a+p.2.1)∧Chain xs (a+p.2.1) l b
theorem Chain.len{xs:Array Keyed}:∀{l:List (Nat×Nat×Nat)} {a b:Nat},Chain xs a l b→a+l.length≤b
 |[],a,b,h=>by cases h;exact Nat.le_refl _
 |p::l,a,b,h=>by
  have:=Chain.len h.2.2.2
  have:=h.2.1
  rw[List.length_cons];omega
theorem Chain.congr{xs ys:Array Keyed}:∀{l:List (Nat×Nat×Nat)} {a b:Nat},Chain xs a l b→(∀k,a≤k→k<b→K ys k=K xs k)→Chain ys a l b
 |[],a,b,h,_=>h
 |p::l,a,b,h,e=>by
  have hl:=Chain.len h.2.2.2
  exact⟨h.1,h.2.1,fun i j i1 i2 i3=>by rw[e i (by omega) (by omega),e j (by omega) (by omega)];exact h.2.2.1 i j i1 i2 i3,Chain.congr h.2.2.2 fun k k1 k2=>e k (by omega) k2⟩
theorem Chain.app{xs:Array Keyed}:∀{l m:List (Nat×Nat×Nat)} {a b c:Nat},Chain xs a l b→Chain xs b m c→Chain xs a (l++m) c
 |[],m,a,b,c,h,g=>by cases h;exact g
 |p::l,m,a,b,c,h,g=>⟨h.1,h.2.1,h.2.2.1,Chain.app h.2.2.2 g⟩
theorem Chain.split{xs:Array Keyed}:∀{l m:List (Nat×Nat×Nat)} {a c:Nat},Chain xs a (l++m) c→∃b,Chain xs a l b∧Chain xs b m c
 |[],m,a,c,h=>⟨a,rfl,h⟩
 |p::l,m,a,c,h=>by
  obtain⟨b,h1,h2⟩:=Chain.split h.2.2.2
  exact⟨b,⟨h.1,h.2.1,h.2.2.1,h1⟩,h2⟩
theorem Chain.pw{xs:Array Keyed}:∀{l m:List (Nat×Nat×Nat)} {a b:Nat},l.map (fun p=>(p.1,p.2.1))=m.map (fun p=>(p.1,p.2.1))→Chain xs a l b→Chain xs a m b
 |[],[],a,b,_,h=>h
 |[],q::m,a,b,e,h=>by cases e
 |p::l,[],a,b,e,h=>by cases e
 |p::l,q::m,a,b,e,h=>by
  rw[List.map_cons,List.map_cons] at e
  obtain⟨e1,e2⟩:=List.cons.inj e
  have e3:=(Prod.mk.inj e1)
  refine⟨e3.1▸h.1,e3.2▸h.2.1,e3.2▸h.2.2.1,?_⟩
  rw[←e3.2]
  exact Chain.pw e2 h.2.2.2
theorem zs5{α:Type}{l:List α}{i:Nat}(h:i+1<l.length):∃l1 x y l2,l=l1++x::y::l2∧l1.length=i:=by
 refine⟨l.take i,l[i],l[i+1],l.drop (i+2),?_,by rw[List.length_take];omega⟩
 rw[←List.drop_eq_getElem_cons,←List.drop_eq_getElem_cons,List.take_append_drop]
theorem zp6{α:Type}{pd:Array α}{l1 l2:List α}{x y z:α}(h:pd.toList=l1++x::y::l2):
  ((pd.setIfInBounds l1.length z).eraseIdxIfInBounds (l1.length+1)).toList=l1++z::l2:=by
 have hz:pd.size=l1.length+(l2.length+2):=by rw[←Array.length_toList,h,List.length_append];rfl
 rw[Array.eraseIdxIfInBounds,dif_pos (by rw[Array.size_setIfInBounds];omega),Array.toList_eraseIdx,Array.toList_setIfInBounds,h]
 rw[List.set_append_right _ _ (Nat.le_refl _),Nat.sub_self,List.set_cons_zero,List.eraseIdx_append_of_length_le (by omega)]
 rw[show l1.length+1-l1.length=1 by omega]
 rfl
structure SB(a₀:Array Keyed)(st:SortSt)(lo:Nat):Prop where
 perm:(arrOf st).Perm a₀
 kind:kindOf st=oneType'
 failed:failedOf st=none
 chain:Chain (arrOf st) 0 (pendingOf st).toList lo
 le:lo≤a₀.size
section
variable {prog : Program} {w : World} {A : Around} {E : Value → Shared → Prop} {s : Shared} {a₀ : Array Keyed}
theorem zlr{st:SortSt}{i lo:Nat}{Q:Bool→SortSt→Prop}(h0:AllI a₀)(hB:SB a₀ st lo)(hi:i+1<(pendingOf st).size)
  (h:∀st',SB a₀ st' lo→(pendingOf st').size+1=(pendingOf st).size→(∀k,lo≤k→K (arrOf st') k=K (arrOf st) k)→Q true st'):
  wpS (model prog w) A E s (mergeAt' i) Q st:=by
 obtain⟨l1,⟨sa,na,pw⟩,⟨sb,nb,pw2⟩,l2,hl,rfl⟩:=zs5 (l:=(pendingOf st).toList) (by rw[Array.length_toList];exact hi)
 have hc:=hB.chain
 rw[hl] at hc
 obtain⟨b,c1,e1,n1,s1,e2,n2,s2,c2⟩:=hc.split
 dsimp only at e1 n1 s1 e2 n2 s2 c2
 subst e1
 subst e2
 have af:=c2.len
 have hsz:(arrOf st).size=a₀.size:=hB.perm.size_eq
 have ad:=hB.le
 refine zqk (sa:=sa) (na:=na) (sb:=sa+na) (nb:=nb) (pw:=pw) (pw2:=pw2) hB.kind hB.failed (h0.perm hB.perm) ?_ ?_ rfl n1 n2 (by omega) s1 s2 fun xs g xp ae xk=>?_
 ·rw[←Array.getElem?_toList,hl,List.getElem?_append_right (Nat.le_refl _),Nat.sub_self];rfl
 ·rw[←Array.getElem?_toList,hl,List.getElem?_append_right (by omega),show l1.length+1-l1.length=1 by omega];rfl
 have hm:=zp6 (z:=(sa,na+nb,pw)) hl
 refine h _ ⟨xp.trans hB.perm,rfl,rfl,?_,ad⟩ ?_ fun k hk=>xk k (.inr (by omega))
 ·show Chain xs 0 (((pendingOf st).setIfInBounds l1.length (sa,na+nb,pw)).eraseIdxIfInBounds (l1.length+1)).toList lo
  rw[hm]
  refine(c1.congr fun k _ k2=>xk k (.inl k2)).app ⟨rfl,by dsimp only;omega,?_,?_⟩
  ·dsimp only
   rw[←Nat.add_assoc];exact ae
  ·dsimp only
   rw[←Nat.add_assoc];exact c2.congr fun k k1 _=>xk k (.inr k1)
 ·show(((pendingOf st).setIfInBounds l1.length (sa,na+nb,pw)).eraseIdxIfInBounds (l1.length+1)).size+1=_
  rw[←Array.length_toList,hm,←Array.length_toList,hl,List.length_append,List.length_append]
  rfl
theorem zkb{st:SortSt}{xs:Array Keyed}{lo n ok:Nat}{Q:Bool→SortSt→Prop}(hk:kindOf st=oneType')(hI:AllI xs)(hn:lo+n≤xs.size)(hok:ok≤n)(h1:1≤ok)(hs:zbc xs lo (lo+ok))
  (h:∀ys,ys.Perm xs→(∀k,k<lo→K ys k=K xs k)→zbc ys lo (lo+n)→Q true (setArr st ys)):wpS (model prog w) A E s (binarySort' lo n ok) Q (setArr st xs):=by
 rw[binarySort'_eq]
 refine wpS_bind (wpS_mono (wpS_forRange (I:=fun k c ah=>∃ys,c=(none,())∧setArr st ys=ah∧ys.Perm xs∧(∀k,k<lo→K ys k=K xs k)∧zbc ys lo (lo+min k n))
  (Q:=fun c ah=>∃ys,c=(none,())∧setArr st ys=ah∧ys.Perm xs∧(∀k,k<lo→K ys k=K xs k)∧zbc ys lo (lo+n)) ?step ?fin ?init) ?post)
 case post=>
  rintro c ah ⟨ys,rfl,rfl,yp,yl,al⟩
  exact wpS_pure (h ys yp yl al)
 case init=>exact⟨xs,rfl,rfl,Array.Perm.refl _,fun _ _=>rfl,by rw[show min (max ok 1) n=ok by omega];exact hs⟩
 case fin=>
  rintro c ah ⟨ys,hc,he,yp,yl,al⟩
  refine⟨ys,hc,he,yp,yl,?_⟩
  rwa [show min (max (max ok 1) n) n=n by omega] at al
 case step=>
  rintro k c ah ay au ⟨ys,rfl,rfl,yp,yl,ak⟩
  rw[show min k n=k by omega] at ak
  have yz:ys.size=xs.size:=yp.size_eq
  have aj:lo+k<ys.size:=by omega
  refine wpS_bind (wpS_mono (wpS_forRange (I:=fun x c ad=>setArr st ys=ad∧∃l r,c=(none,l,r)∧l≤r∧r≤k∧r-l≤k-x ∧
    (∀i,i<l→K ys (lo+i)≤K ys (lo+k))∧(∀i,r≤i→i<k→K ys (lo+k)<K ys (lo+i)))
   (Q:=fun c ad=>setArr st ys=ad∧∃l r,c=(none,l,r)∧l≤k ∧
    (∀i,i<l→K ys (lo+i)≤K ys (lo+k))∧(∀i,l≤i→i<k→K ys (lo+k)<K ys (lo+i))) ?istep ?ifin ?iinit) ?ipost)
  case iinit=>exact⟨rfl,0,k,rfl,by omega,by omega,by omega,fun i hi=>by omega,fun i h1 h2=>by omega⟩
  case ifin=>
   rintro c ad ⟨rfl,l,r,rfl,ar,am,hm,ai,af⟩
   have:l=r:=by omega
   subst this
   exact⟨rfl,l,l,rfl,am,ai,af⟩
  case istep=>
   rintro x c ad _ av ⟨rfl,l,r,rfl,ar,am,hm,ai,af⟩
   refine zau (c:=l≥r) (fun ap=>?_) (fun ap=>?_)
   ·have:l=r:=by omega
    subst this
    exact wpS_pure ⟨rfl,l,l,rfl,am,ai,af⟩
   ·refine wpS_bind (zhl hk (hI.perm yp) aj (by show lo+(l+r)/2<ys.size;omega) ?_)
    refine zau (c:=decide (K ys (lo+k)<K ys (lo+(l+r)/2))=true) (fun c1=>?_) (fun c1=>?_)
    ·have ae:=of_decide_eq_true c1
     refine wpS_pure ⟨rfl,l,(l+r)/2,rfl,by omega,by omega,by omega,ai,fun i h1 h2=>?_⟩
     exact Int.lt_of_lt_of_le ae (ak _ _ (by omega) (by omega) (by omega))
    ·have ae:=Int.not_lt.mp fun z=>c1 (decide_eq_true z)
     refine wpS_pure ⟨rfl,(l+r)/2+1,r,rfl,by omega,by omega,by omega,fun i h1=>?_,af⟩
     exact Int.le_trans (ak (lo+i) (lo+(l+r)/2) (by omega) (by omega) (by omega)) ae
  case ipost=>
   rintro c ad ⟨rfl,l,r,rfl,ax,ai,af⟩
   refine wpS_bind (wpS_modify (wpS_pure ⟨bubble ys (lo+k) (lo+k-(lo+l)),rfl,rfl,(bubble_perm _ _ _).trans yp,fun i hi=>?_,?_⟩))
   ·rw[K_bubble aj (by omega),if_neg (by omega),if_neg (by omega)];exact yl i hi
   rw[show min (k+1) n=k+1 by omega]
   intro i j i1 aw hj
   rw[K_bubble aj (by omega),K_bubble aj (by omega),show lo+k-(lo+k-(lo+l))=lo+l by omega]
   have ao:∀i,lo≤i→i<lo+l→K ys i≤K ys (lo+k):=fun i a b=>by
    have:=ai (i-lo) (by omega)
    rwa [show lo+(i-lo)=i by omega] at this
   have aq:∀i,lo+l≤i→i<lo+k→K ys (lo+k)≤K ys i:=fun i a b=>by
    have:=af (i-lo) (by omega) (by omega)
    rw[show lo+(i-lo)=i by omega] at this
    exact Int.le_of_lt this
   repeat' split
   all_goals first
    |(exfalso;omega)
    |exact Int.le_refl _
    |exact ao _ (by omega) (by omega)
    |exact aq _ (by omega) (by omega)
    |exact ak _ _ (by omega) (by omega) (by omega)
end
section
variable {prog : Program} {w : World} {A : Around} {E : Value → Shared → Prop} {s : Shared} {a₀ : Array Keyed}
theorem zl4{st:SortSt}{Q:Unit→SortSt→Prop}(h0:AllI a₀)(hB:SBase a₀ st)
  (h:∀st',(arrOf st').Perm a₀→failedOf st'=none→SortedTo (arrOf st') a₀.size→Q () st'):wpS (model prog w) A E s sortRuns' Q st:=by
 rw[sortRuns'_eq]
 refine wpS_bind (wpS_get ?_)
 have hz:=hB.size
 extract_lets size mr
 have av:size=a₀.size:=hz
 clear_value size mr
 subst av
 have ax:SB a₀ st 0:=⟨hB.perm,hB.kind,hB.failed,by rw[hB.pend];rfl,Nat.zero_le _⟩
 refine wpS_bind (wpS_mono (wpS_forRange
  (I:=fun x c st'=>∃lo,c=(none,lo)∧x≤lo∧SB a₀ st' lo)
  (Q:=fun c st'=>c=(none,a₀.size)∧SB a₀ st' a₀.size) ?step ?fin ⟨0,rfl,Nat.le_refl _,ax⟩) ?post)
 case fin=>
  rintro c st' ⟨lo,rfl,h1,h2⟩
  have:=h2.le
  have:lo=a₀.size:=by omega
  subst this
  exact⟨rfl,h2⟩
 case step=>
  rintro x c st' _ hx ⟨lo,rfl,aB,hS⟩
  have ao:=hS.le
  dsimp (config:={ zeta:=false,zetaHave:=false,zetaUnused:=false }) only
  refine zau (c:=lo≥a₀.size) (fun c1=>?_) (fun c1=>?_)
  ·have:lo=a₀.size:=by omega
   subst this
   exact wpS_pure ⟨rfl,hS⟩
  have hsz:(arrOf st').size=a₀.size:=hS.perm.size_eq
  obtain⟨R,hR⟩:∃R:ForInStep (Option Unit×Nat)→SortSt→Prop,R=fun r ad=>∃lo,r=ForInStep.yield (none,lo)∧x+1≤lo∧SB a₀ ad lo:=⟨_,rfl⟩
  refine wpS_mono (Q:=R) ?_ (by rw[hR];rintro r ad ⟨lo,rfl,h1,h2⟩;exact⟨lo,rfl,h1,h2⟩)
  refine wpS_bind (zmk (st:=st') (xs:=arrOf st') hS.kind (h0.perm hS.perm) (by omega) (by omega) fun m ys yp yl m1 m2 am=>?_)
  dsimp (config:={ zeta:=false,zetaHave:=false,zetaUnused:=false }) only
  extract_lets n jp force nf
  have hn:n=m:=rfl
  clear_value n
  subst hn
  suffices hj:∀(n':Nat)(zs:Array Keyed),zs.Perm (arrOf st')→(∀k,k<lo→K zs k=K (arrOf st') k)→zbc zs lo (lo+n')→1≤n'→lo+n'≤a₀.size →
    wpS (model prog w) A E s (jp () n') R (setArr st' zs) by
   refine zau (fun c2=>?_) (fun c2=>hj n ys yp yl am m1 (by omega))
   refine wpS_bind (wpS_lift (wpAny_rule ⟨rfl,?_⟩))
   have hf:force=min (a₀.size-lo) mr:=rfl
   have yz:ys.size=(arrOf st').size:=yp.size_eq
   refine wpS_bind (zkb hS.kind ((h0.perm hS.perm).perm yp) (by omega) (by omega) m1 am fun zs zp zl aj=>?_)
   exact hj force zs (zp.trans yp) (fun k hk=>(zl k hk).trans (yl k hk)) aj (by omega) (by omega)
  clear ys yp yl am m1 m2
  intro n' zs zp zl aj n1 n2
  have al:SB a₀ (setArr st' zs) lo:=⟨zp.trans hS.perm,hS.kind,hS.failed,hS.chain.congr fun k _ hk=>zl k hk,ao⟩
  have ak:zbc (arrOf (setArr st' zs)) lo (lo+n'):=aj
  generalize setArr st' zs=ar at al ak
  clear zs zp zl aj
  refine wpS_bind (wpS_get ?_)
  extract_lets lo2 jp2
  suffices aq:∀af,SB a₀ af lo→zbc (arrOf af) lo (lo+n')→wpS (model prog w) A E s (jp2 ()) R af by
   cases hb:(pendingOf ar).back? with
   |none=>exact aq ar al ak
   |some p=>
    obtain⟨p1,p2,p3⟩:=p
    dsimp (config:={ zeta:=false,zetaHave:=false,zetaUnused:=false }) only
    extract_lets pw
    clear_value pw
    refine wpS_bind (wpS_mono (wpS_forRange (I:=fun x c ad=>c=(none,())∧SB a₀ ad lo∧zbc (arrOf ad) lo (lo+n')) (Q:=fun c ad=>c=(none,())∧SB a₀ ad lo∧zbc (arrOf ad) lo (lo+n')) ?_ (fun _ _ hh=>hh) ⟨rfl,al,ak⟩) ?_)
    ·rintro y c af _ hy ⟨rfl,ae,ai⟩
     refine wpS_bind (wpS_get ?_)
     extract_lets p
     by_cases hp:p.size>1
     ·have hl:p.size-2<p.size:=by omega
      rw[if_pos hp,Array.getElem?_eq_getElem hl]
      dsimp (config:={ zeta:=false,zetaHave:=false,zetaUnused:=false }) only
      refine zau (fun c3=>wpS_pure ⟨rfl,ae,ai⟩) (fun c3=>?_)
      refine wpS_bind (zlr h0 ae (show p.size-2+1<p.size by omega) fun aA ay aC ap=>?_)
      exact wpS_pure ⟨rfl,ay,fun i j i1 i2 i3=>by rw[ap i i1,ap j (by omega)];exact ai i j i1 i2 i3⟩
     ·rw[if_neg hp]
      exact wpS_pure ⟨rfl,ae,ai⟩
    ·rintro c af ⟨rfl,ae,ai⟩
     refine wpS_bind (wpS_modify (aq _ ⟨ae.perm,ae.kind,ae.failed,?_,ao⟩ ai))
     refine ae.chain.pw ?_
     show _=((pendingOf af).modify _ _).toList.map _
     rw[Array.toList_modify]
     generalize (pendingOf af).toList=l
     generalize (pendingOf af).size-1=i
     apply List.ext_getElem?
     intro k
     rw[List.getElem?_map,List.getElem?_map,List.getElem?_modify]
     cases l[k]? with
     |none=>rfl
     |some q=>
      by_cases e:i=k
      ·simp[e]
      ·simp[e]
  intro af ae ai
  refine wpS_bind (wpS_modify (wpS_pure ?_))
  rw[hR]
  refine⟨lo+n',rfl,by omega,ae.perm,ae.kind,ae.failed,?_,n2⟩
  show Chain (arrOf af) 0 ((pendingOf af).push (lo,n',0)).toList (lo+n')
  rw[Array.toList_push]
  exact ae.chain.app ⟨rfl,n1,ai,rfl⟩
 case post=>
  rintro c st' ⟨rfl,hS⟩
  dsimp (config:={ zeta:=false,zetaHave:=false,zetaUnused:=false }) only
  refine wpS_bind (wpS_mono (wpS_forRange (I:=fun x c ad=>c=(none,())∧SB a₀ ad a₀.size∧(pendingOf ad).size+x≤a₀.size) (Q:=fun c ad=>c=(none,())∧SB a₀ ad a₀.size∧(pendingOf ad).size≤1) ?_ ?_ ?_) ?_)
  ·rintro x c ad _ hx ⟨rfl,ah,hp⟩
   refine wpS_bind (wpS_get ?_)
   refine zau (c:=(pendingOf ad).size≤1) (fun c1=>wpS_pure ⟨rfl,ah,c1⟩) (fun c1=>?_)
   extract_lets i before i'
   have au:i'+1<(pendingOf ad).size:=by
    have:i'=i-1∨i'=i:=by
     show(if _ then i-1 else i)=i-1∨(if _ then i-1 else i)=i
     split
     ·exact .inl rfl
     ·exact .inr rfl
    have hi:i=(pendingOf ad).size-2:=rfl
    omega
   clear_value i'
   refine wpS_bind (zlr h0 ah au fun af ae az _=>?_)
   exact wpS_pure ⟨rfl,ae,by omega⟩
  ·rintro c ad ⟨hc,ah,hp⟩
   have:max 0 a₀.size=a₀.size:=by omega
   rw[this] at hp
   exact⟨hc,ah,by omega⟩
  ·have:=hS.chain.len
   rw[Array.length_toList] at this
   exact⟨rfl,hS,by omega⟩
  ·rintro c ad ⟨rfl,ah,hp⟩
   refine wpS_pure (h _ ah.perm ah.failed ?_)
   have hc:=ah.chain
   have hl:(pendingOf ad).toList.length≤1:=by rw[Array.length_toList];exact hp
   generalize (pendingOf ad).toList=l at hc hl
   match l,hc,hl with
   |[],hc,_=>
    have:a₀.size=0:=hc.symm
    intro i j _ hj;omega
   |[p],hc,_=>
    obtain⟨_,_,hs,e⟩:=hc
    have e':0+p.2.1=a₀.size:=e
    intro i j aw hj
    exact hs i j (Nat.zero_le _) aw (by omega)
end
section
variable {prog : Program} {w : World} {A : Around} {E : Value → Shared → Prop} {s : Shared}
theorem zwl{a:Addr}{vs:List Value}{ns:List Int}{n:Nat}{P:Fin→Shared→Prop}(o0:s.heap.get? a=some (seqObj "list" vs.toArray n))(hI:IntsAre vs ns)(hz:vs.length≤sizeLine)
  (h:∀(out:Array Value)(ns':List Int),IntsAre out.toList ns'→ns'.Perm ns→ns'.Pairwise (·≤·)→P (.done (.ret .none)) { s with heap:=sortedHeap s.heap a vs out }):
  wpAny (model prog w) A (Builtin.«list.sort» ⟨[.ref a],[]⟩) P E s:=by
 rw[list_sort_plain]
 have la:a<s.heap.objs.size:=Heap.lt_size o0
 obtain⟨e1,o1⟩:∃e,(s.heap.update a (Obj.mapSeq fun _=>#[])).get? a=some (seqObj "list" #[] e):=⟨_,get?_update_seq o0 _⟩
 have o6:(((s.heap.update a (Obj.mapSeq fun _=>#[])).push (seqObj "tuple" vs.toArray 0)).push (seqObj "list" #[] 0)).get? a=some (seqObj "list" #[] e1):=by
  rwa [Heap.get?_push_ne _ _ _ (by rw[size_push',Heap.size_update];exact Nat.ne_of_lt (Nat.lt_succ_of_lt la)),Heap.get?_push_ne _ _ _ (by rw[Heap.size_update];exact Nat.ne_of_lt la)]
 refine wpAny_bind (listItems_at o0 rfl (wpAny_bind (listUpdate_at o0 rfl ?_ (by simpa using hz) (Nat.zero_le _))))
 refine wpAny_bind (seqEpoch_at o1 rfl (wpAny_bind (wpAny_newTuple (wpAny_bind (wpAny_newList (wpAny_holding ?_))))))
 have ae:∀xs:Array Keyed,xs.Perm (pairsOf vs)→(xs.map (·.2)).size≤sizeLine:=fun xs p=>Nat.le_trans (Nat.le_of_eq ((Array.size_map ..).trans (p.size_eq.trans (pairsOf_size vs)))) hz
 have fin:∀xs:Array Keyed,xs.Perm (pairsOf vs)→SortedTo xs (pairsOf vs).size→P (.done (.ret .none)) { s with heap:=sortedHeap s.heap a vs (xs.map (·.2)) }:=fun xs p so=>by
  obtain⟨ms,m1,m2,m3⟩:=sorted_out hI p so
  exact h _ ms m1 m2 m3
 by_cases c:vs.toArray.size<2
 ·rw[if_pos c,if_pos c]
  refine wpAny_bind (wpAny_pure (wpAny_bind (wpAny_pure ?_)))
  refine wpAny_bind (seqEpoch_at o6 rfl (wpAny_bind (listUpdate_at o6 rfl ?_ (Nat.zero_le _) (Nat.le_succ_of_le (ae _ (Array.Perm.refl _))))))
  simp only[bne_self_eq_false,Bool.false_eq_true,if_false]
  refine wpAny_pure (fin (pairsOf vs) (Array.Perm.refl _) fun i j i1 i2=>?_)
  have hl:vs.length<2:=by simpa using c
  have:i=j:=by rw[pairsOf_size] at i2;omega
  subst this
  exact Int.le_refl _
 ·rw[if_neg c,if_neg c]
  obtain⟨x,y,r,rfl⟩:∃x y r,vs=x::y::r:=by
   cases vs with
   |nil=>exact absurd (show 0<2 by decide) c
   |cons x r=>cases r with
    |nil=>exact absurd (show 1<2 by decide) c
    |cons y r=>exact⟨x,y,r,rfl⟩
  rw[keyKind_ints hI]
  refine wpAny_bind (wpAny_pure (wpAny_bind (wpAny_mono (zl4 (a₀:=pairsOf (x::y::r)) (st:=SortSt.mk' oneType' (pairsOf (x::y::r)) #[] 7 none)
   (Q:=fun _ ad=>(arrOf ad).Perm (pairsOf (x::y::r))∧failedOf ad=none∧SortedTo (arrOf ad) (pairsOf (x::y::r)).size) hI.intKeys ⟨Array.Perm.refl _,rfl,rfl,rfl⟩ fun _ b1 b2 b3=>⟨b1,b2,b3⟩) ?_ fun _ _ e=>e)))
  rintro⟨u,ad⟩ s' ⟨rfl,b1,b2,b3⟩
  refine wpAny_bind (seqEpoch_at o6 rfl (wpAny_bind (listUpdate_at o6 rfl ?_ (Nat.zero_le _) (Nat.le_succ_of_le (ae _ b1)))))
  rw[b2]
  simp only[bne_self_eq_false,Bool.false_eq_true,if_false]
  exact wpAny_pure (fin _ b1 b3)
theorem sorted_any{l:Addr}{vs:List Value}{ns:List Int}{Q:Value→Shared→Prop}(hl:s.heap.IsList l vs.toArray)(hI:IntsAre vs ns)(hz:vs.length≤sizeLine)
  (h:∀(out:Array Value)(ns':List Int),IntsAre out.toList ns'→ns'.Perm ns→ns'.Pairwise (·≤·)→Q (.ref (s.heap.objs.size+1)) { s with heap:=sortedAll s.heap vs out }):
  wpAny (model prog w) A (call (.builtin "sorted") [.ref l]) Q E s:=by
 have ez:((s.heap.push (seqObj "list" #[] 0)).update s.heap.objs.size (Obj.mapSeq (·++vs.toArray))).objs.size=s.heap.objs.size+1:=by rw[Heap.size_update,size_push']
 have oL:(((s.heap.push (seqObj "list" #[] 0)).update s.heap.objs.size (Obj.mapSeq (·++vs.toArray))).push (seqObj "list" vs.toArray 0)).get? (s.heap.objs.size+1)=some (seqObj "list" vs.toArray 0):=by
  rw[←ez];exact Heap.get?_push_size _ rfl
 refine Calls.call_function_entry kind_sorted plain_sorted entry_sorted (args_sorted1 _) (wpAny_bind (m:=checkCount "sorted" 1 1 _) (wpAny_pure (wpAny_bind (collect_list hl ?_ hz))))
 refine wpAny_bind (wpAny_newList ?_)
 rw[ez]
 refine wpAny_bind (wpAny_holding (wpAny_call_entry slot_list_sort ⟨_,oL,rfl⟩ entry_list_sort (zwl oL hI hz fun out ns' a1 a2 a3=>⟨_,rfl,?_⟩) (args_list_sort _)))
 exact wpAny_pure ⟨_,rfl,h out ns' a1 a2 a3⟩
end
end Srt
namespace L2
open PySem PySem.Spec PyProof.Rows
variable {X : Cx}
theorem zoj:zdf X (.builtin "sorted") (fun xs H Q=>∃(p:Addr)(ns:List Int),xs=[.ref p]∧SqL X.K H p (ns.map V.int)∧∀ms:List Int,ms.Perm ns→ms.Pairwise (·≤·)→∀l,H l=none→Q (.ref l) (upd H l (.lst (ms.map V.int)))):=by
 intro pins s σ H xs us Q I r h
 obtain⟨p,ns,rfl,hq,q⟩:=h
 obtain⟨u,rfl,rx⟩:=zfb r
 cases rx
 obtain⟨ah,rv,pl,af⟩:=I.list hq
 have ad:=rv.length
 rw[List.length_map] at ad af
 refine Srt.sorted_any pl.isList (zgb rv) (by omega) fun ae ms a1 a2 a3=>?_
 obtain⟨e,he⟩:=sortedAll_at s.heap ah ae
 have hm:ms.length=ns.length:=a2.length_eq
 refine⟨.ref (s.heap.objs.size+1),_,I.laid (t':=s.toks) (fun b o=>sortedAll_old) (Nat.le_succ _) (show ObjOk X.prog X.w _ _ _ (.lst (ms.map V.int)) from⟨by rw[List.length_map,hm];exact af,ae.toList,e,zi9 a1,he⟩),rfl,q ms a2 a3 _ (I.hok.fresh (Nat.le_succ _))⟩
end L2
namespace Wd
open PySem L2 Ow
structure Bg where
 u:Nat
 lo:Int
 hi:Int
 ks:List Nat
def Bg.tie(b:Bg):Tie:=.bough b.u b.lo b.hi b.ks
theorem zuk{m:Nat}:∀{bs:List PyData},(∀b∈bs,zf9 m b=true)→∃L:List Bg,bs=L.map (fun b=>b.tie.toD)∧∀b∈L,Tie.BoughOk m b.u b.lo b.hi b.ks
 |[],_=>⟨[],rfl,fun _ h=>nomatch h⟩
 |b::bs,h=>by
  obtain⟨u,lo,hi,ks,e,ok⟩:=zow (h b List.mem_cons_self)
  obtain⟨L,e2,ok2⟩:=zuk fun x hx=>h x (List.mem_cons_of_mem _ hx)
  refine⟨⟨u,lo,hi,ks⟩::L,?_,fun x hx=>?_⟩
  ·rw[e,e2];rfl
  ·rcases List.mem_cons.mp hx with rfl|hx
   ·exact ok
   ·exact ok2 x hx
theorem ze8{α β:Type}{g:α→β}{l:List α}{i:Nat}{x:α}(h:l[i]?=some x):(l.take (i+1)).map g=(l.take i).map g++[g x]:=by
 rw[List.take_add_one,h,Option.toList_some,List.map_append]
 rfl
theorem zdj(A B:List Nat):zaj (A++B)=zaj A++zaj B:=List.map_append
end Wd
namespace L2
open PySem PySem.Spec PyProof.Rows
section
variable {X : Cx}
def zxz:V→List V→Hp→VK→Prop:=fun x vs H Q=>∃(l:Addr)(xs:List V)(i:Int)(y:V),x=.ref l∧vs=[.int i,y]∧H l=some (.lst xs)∧0≤i∧i≤xs.length∧xs.length<sizeLine∧Q .non (upd H l (.lst (xs.take i.toNat++y::xs.drop i.toNat)))
theorem zte:MtM X "list.insert" zxz:=by
 intro pins s σ H x vs v us Q I rx rv h
 obtain⟨l,xs,i,y,rfl,rfl,hH,h0,hk,hz,q⟩:=h
 cases rx
 obtain⟨u1,ae,rfl,r1,rr⟩:∃u1 ae,us=u1::ae∧RelV (.int i) u1∧Vals [y] ae:=by
  cases rv with
  |cons a b=>exact⟨_,_,rfl,a,b⟩
 obtain⟨u2,rfl,ru⟩:=rr.one
 obtain⟨t,rfl⟩:=r1
 obtain⟨z,ad,n,r,hl,e⟩:=I.lstM hH
 have hsz:ad.toArray.size≤sizeLine:=by rw[List.size_toArray,←hl];exact z
 have b1 : -(2^63)≤i:=Int.le_trans (by decide) h0
 have b2:i<2^63:=by
  have af:((xs.length:Nat):Int)<((2^63:Nat):Int):=Int.ofNat_lt.mpr (Nat.lt_of_le_of_lt z zjc)
  exact Int.lt_of_le_of_lt hk af
 have ah:¬(!Builtin.List.listFitsIndex i)=true:=by
  rw[fitsIndex_both b1 b2]
  exact Bool.false_ne_true
 refine call_meets F.slot_list_insert ⟨_,e,rfl⟩ F.entry_list_insert (F.args_list_insert_3 _ _ _) (AutoListH.list_insert_list_int_val_1 l ad.toArray n i t u2 ah hsz) ⟨e,?_⟩
 have r2:Vals (xs.take i.toNat++y::xs.drop i.toNat) (ad.take i.toNat++u2::ad.drop i.toNat):=(r.take i.toNat).append (.cons ru (r.drop i.toNat))
 refine⟨.non,_,I.lset (its':=ad.take i.toNat++u2::ad.drop i.toNat) hH e ?_ r2 ?_,rfl,q⟩
 ·have hn:¬(i<0):=Int.not_lt.mpr h0
  have hm:i.toNat≤ad.length:=by omega
  simp[hn,Nat.min_eq_left hm]
  exact List.take_of_length_le (by rw[List.length_drop];exact Nat.le_refl _)
 ·rw[List.length_append,List.length_cons,List.length_take,List.length_drop]
  omega
end
end L2
namespace Wd
open PySem L2 Ow
def ztk(K:PySem.W.Frag):Sp:=fun vs H Q _=>∃(pen sp:Addr)(ns:List Int)(m:Nat)(k:Int),vs=[.ref pen,.int (m:Int)]∧Pen K H pen sp ns k∧0≤k∧k≤900000∧1≤m∧m≤9 ∧
 ∀(l:Addr)(bs:List PyData)(xs:List V)(k':Int)(H':Hp),SameX pen H H'→H' pen=some (.lst [.ref sp,.int k'])→k≤k'→k'≤k+80→H' l=some (.lst xs)→H l=none→DnL H' bs xs→zug m bs→bs.length≤8→bs.all (zbd 3)=true→Q (.ref l) H'
theorem _root_.Ow.GAt.ins{H0 H:Hp}{g l t:Addr}{pre post:List Grp}{u k:Int}(G:GAt H0 H g (pre++post))(hf:H0 l=none)(hl:H l=none)(ht:upd H l (.lst [.int k]) t=none):
  GAt H0 (upd (upd (upd H l (.lst [.int k])) t (.tup [.int u,.ref l])) g (.lst ((pre.map fun x=>V.ref x.t)++V.ref t::(post.map fun x=>V.ref x.t)))) g (pre++⟨t,u,l,[k]⟩::post):=by
 have A:=GAt.add2 (u:=u) (k:=k) G hf hl ht
 have mem:∀x,x∈pre++⟨t,u,l,[k]⟩::post↔x∈(pre++post)++[⟨t,u,l,[k]⟩]:=fun x=>by
  simp only[List.mem_append,List.mem_cons,List.not_mem_nil,or_false]
  constructor
  ·rintro(h|h|h)
   ·exact .inl (.inl h)
   ·exact .inr h
   ·exact .inl (.inr h)
  ·rintro((h|h)|h)
   ·exact .inl h
   ·exact .inr (.inr h)
   ·exact .inr (.inl h)
 have other:∀(o o':HO)(b:Addr),b≠g→(upd (upd (upd H l (.lst [.int k])) t (.tup [.int u,.ref l])) g o) b=(upd (upd (upd H l (.lst [.int k])) t (.tup [.int u,.ref l])) g o') b:=fun o o' b n=>by rw[zaq n,zaq n]
 refine⟨?_,A.new,fun x hx=>?_,fun x hx=>?_,?_⟩
 ·rw[zaf,List.map_append]
  rfl
 ·have h:=A.tup x ((mem x).mp hx)
  have n:x.t≠g:=fun z=>by rw[z,zaf] at h;cases h
  rw[other _ _ _ n]
  exact h
 ·have h:=A.lst x ((mem x).mp hx)
  refine⟨?_,h.2⟩
  rw[other _ _ _ (Ne.symm h.2.2)]
  exact h.1
 ·have p:(pre++(⟨t,u,l,[k]⟩:Grp)::post).Perm ((pre++post)++[⟨t,u,l,[k]⟩]):=by
   rw[List.append_assoc]
   exact List.Perm.append_left _ (List.perm_append_singleton _ _).symm
  exact((p.map (·.l)).nodup_iff).mpr A.nd
theorem _root_.Ow.GOk.ins{k:Nat}{pre post:List Grp}{t l:Addr}{u:Int}(G:GOk ((k:Int)+1) (pre++post))(u0:0≤u)(u1:u<(k:Int)+1):GOk ((k:Int)+2) (pre++⟨t,u,l,[(k:Int)+1]⟩::post):=by
 have A:=GOk.new (t:=t) (l:=l) G u0 u1
 have p:(pre++(⟨t,u,l,[(k:Int)+1]⟩:Grp)::post).Perm ((pre++post)++[⟨t,u,l,[(k:Int)+1]⟩]):=by
  rw[List.append_assoc]
  exact List.Perm.append_left _ (List.perm_append_singleton _ _).symm
 exact⟨fun x hx=>A.each x (p.mem_iff.mp hx),(List.Perm.flatMap_right _ p).trans A.perm⟩
theorem zlw:SeqAt.shaped (.list [])=true:=by decide
theorem zw2:∀ds:List PyData,PyData.eqv (.list ds) (.list [])=decide (ds=[])
 |[]=>by simp[PyData.eqv,PyData.eqvAll]
 |d::ds=>by simp[PyData.eqv,PyData.eqvAll]
end Wd
namespace HT
open PySem PySem.Spec PyProof.Rows
section
variable {prog : Program} {w : World} {A : Around} {E : Value → Shared → Prop} {s : Shared}
theorem tup_whole{t sl:Addr}{items:Array Value}{vl vu:Value}{lo hi:Option Int}{Q:Value→Shared→Prop}(ht:IsTup s.heap t items)(hs:s.heap.IsSliceOf sl vl vu .none)(pl:IsPart vl lo)(pu:IsPart vu hi)
  (h0:sIx items.size 0 lo=0) (h1:sIx items.size items.size hi=items.size) (h:Q (.ref t) s):wpAny (model prog w) A (getItem (.ref t) (.ref sl)) Q E s:=by
 obtain⟨os,ae,af,ai⟩:=id hs
 have ah:s.TypeIs (.ref sl) "slice" := ⟨os,ae,af⟩
 unfold getItem
 refine wpAny_holding ?_
 refine wpAny_bind (wpAny_sequenceKey ht.typeIs (by decide) ?_)
 refine wpAny_bind (wpAny_callSpecial?_slot (name:=Str.ofString "__getitem__") ht.typeIs PyProof.Rows.slot_tuple_getitem (wpAny_call_entry PyProof.Rows.slot_tuple_getitem ht.typeIs entry_tuple_getitem ?_ (args_tuple_getitem _ _)))
 show wpAny _ _ (Builtin.Tuple.tupleItemsOf (.ref t)>>=_) _ _ s
 refine wpAny_bind (tupleItemsOf_ ht ?_)
 refine wpAny_bind (wpAny_typeOf ah ?_)
 rw[if_pos (by decide)]
 refine wpAny_bind (zfg hs pl pu ?_)
 have ad:(((sIx items.size 0 lo:Nat):Int)==0&&(1:Int)==1&&(sIx items.size items.size hi-sIx items.size 0 lo)==items.size)=true:=by
  rw[h0,h1,Nat.sub_zero]
  simp
 show wpAny _ _ (if (((sIx items.size 0 lo:Nat):Int)==0&&(1:Int)==1&&(sIx items.size items.size hi-sIx items.size 0 lo)==items.size)=true then _ else _) _ _ s
 rw[if_pos ad]
 refine wpAny_bind (wpAny_bind (wpAny_typeOf ht.typeIs (wpAny_pure ?_)))
 show wpAny _ _ (if (Value.type "tuple" == Value.type "tuple")=true then _ else _) _ _ s
 rw[if_pos (by decide)]
 refine wpAny_bind (wpAny_rule ?_)
 exact wpAny_pure ⟨_,rfl,wpAny_pure h⟩
end
end HT
namespace L2
open PySem PySem.Spec PyProof.Rows
section
variable {X : Cx} {e st : Expr} {te tst : TE} {pos p2 : Pos}
theorem zol:SlR X (fun x lo hi H Q=>∃a xs,x=.ref a∧H a=some (.tup xs)∧∀p H',Same H H'→H' p=some (.tup (zkd xs lo hi))→Q (.ref p) H'):=by
 intro pins s σ H x v vl vu lo hi sl Q I rx hs pl pu h
 obtain⟨a,xs,rfl,hx,q⟩:=h
 by_cases hw:HT.sIx xs.length 0 lo=0∧HT.sIx xs.length xs.length hi=xs.length
 ·cases rx
  obtain⟨ae,r,ht,hz⟩:=I.tuple (.inl (.inl hx))
  have ad:ae.toArray.size=xs.length:=by rw[List.size_toArray];exact r.length.symm
  refine⟨"tuple",_,PyProof.Rows.slot_tuple_getitem.lookup,ht.typeIs,?_⟩
  refine HT.tup_whole ht hs pl pu (by rw[ad];exact hw.1) (by rw[ad];exact hw.2) ⟨.ref a,H,I,rfl,q a H (Same.refl H) ?_⟩
  rw[hx]
  unfold zkd
  rw[hw.1,hw.2,List.drop_zero,Nat.sub_zero,List.take_length]
 ·exact zy1 pins s σ H _ v vl vu lo hi sl Q I rx hs pl pu ⟨a,xs,rfl,.inl (.inl hx),hw,fun p hp=>q p _ (zir fun b o e=>by rw[zaq (zax e hp)];exact e) zaf⟩
theorem zrk(hu:X.A.units+64<cLine):OpR X (compareOp .Eq) (fun x y H Q=>∃d e:PyData,Dn H d x∧Dn H e y∧SeqAt.shaped d=true∧SeqAt.shaped e=true∧Q (.bl (PyData.eqv d e)) H):=by
 intro pins s σ H x y v u Q I rx ry h
 obtain⟨d,e,hd,he,sd,se,q⟩:=h
 obtain⟨as,ra⟩:=Dn.reads I d x v hd (SeqAt.canLay_of_shaped sd) rx
 obtain⟨bs,rb⟩:=Dn.reads I e y u he (SeqAt.canLay_of_shaped se) ry
 exact SeqAt.compareEq_shaped ra rb sd se hu ⟨.bl _,H,I,rfl,q⟩
end
end L2
namespace Wd
open PySem L2 Ow
mutual
theorem zum:∀(n:Nat)(d:PyData),zbd n d=true→PyData.canLay0 d=true∧PyData.depth d≤n+1
 |_,.int i,_=>⟨by simp[PyData.canLay0],by simp only[PyData.depth];omega⟩
 |n,.str s,h=>⟨by cases n<;>simpa [PyData.canLay0] using (show PyData.strOk s=true from h),by simp only[PyData.depth];omega⟩
 |n+1,.tuple ds,h=>by
  have z:(decide (ds.length≤1000)&&ds.all (zbd n))=true:=h
  rw[Bool.and_eq_true] at z
  obtain⟨a,b⟩:=zeu n ds z.2
  exact⟨by simpa [PyData.canLay0] using a,by simp only[PyData.depth];omega⟩
 |0,.tuple _,h=>by cases h
 |0,.none,h=>by cases h
 |n+1,.none,h=>by cases h
 |0,.bool _,h=>by cases h
 |n+1,.bool _,h=>by cases h
 |0,.list _,h=>by cases h
 |n+1,.list _,h=>by cases h
 |0,.dict _,h=>by cases h
 |n+1,.dict _,h=>by cases h
theorem zeu:∀(n:Nat)(ds:List PyData),ds.all (zbd n)=true→PyData.canLayAll0 ds=true∧PyData.depthAll ds≤n+1
 |_,[],_=>⟨by simp[PyData.canLayAll0],by simp only[PyData.depthAll];omega⟩
 |n,d::ds,h=>by
  rw[List.all_cons,Bool.and_eq_true] at h
  obtain⟨a1,b1⟩:=zum n d h.1
  obtain⟨a2,b2⟩:=zeu n ds h.2
  exact⟨by simp[PyData.canLayAll0,a1,a2],by simp only[PyData.depthAll];omega⟩
end
theorem zr3{n:Nat}{ds:List PyData}(hn:n≤60)(h:ds.all (zbd n)=true):SeqAt.shaped (.tuple ds)=true:=by
 obtain⟨a,b⟩:=zeu n ds h
 unfold SeqAt.shaped
 rw[Bool.and_eq_true]
 refine⟨by simp[PyData.canLay0,a],decide_eq_true ?_⟩
 simp only[PyData.depth]
 omega
theorem zqz(xs:List V)(t:Nat)(h:t≤xs.length):zkd xs none (some (t:Int))=xs.take t:=by
 unfold zkd
 rw[HT.sIx_nat,HT.sIx_none,Nat.min_eq_left h,List.drop_zero,Nat.sub_zero]
theorem zwp(xs:List V)(t:Nat)(h:t≤xs.length):zkd xs (some (t:Int)) none=xs.drop t:=by
 unfold zkd
 rw[HT.sIx_nat,HT.sIx_none,Nat.min_eq_left h,List.take_of_length_le]
 rw[List.length_drop]
 exact Nat.le_refl _
def zbu(ts:List Tie)(y n:Nat):Option PyData:=if (ts.all fun t=>t.sk y n)=true then some (.tuple [.str ("kept" : Str)]) else none
def zyy:Sp:=fun vs H Q _=>∃(wd:Addr)(m:Nat)(ts:List Tie)(y n:Nat),vs=[.ref wd,.int y,.int n]∧WoodT H wd m ts∧∀H',Same H H'→Q (.bl (ts.all fun t=>t.sk y n)) H'
def zxw:Sp:=fun vs H Q _=>∃(wd:Addr)(m:Nat)(ts:List Tie)(y n:Nat),vs=[.ref wd,.int y,.int n]∧WoodT H wd m ts∧∀(v:V)(H':Hp),Same H H'→zi0 (zbu ts) y n H' v→Q v H'
def zuu:Sp:=fun vs H Q _=>∃(w1 w2:Addr)(m:Nat)(t1 t2:List Tie),vs=[.ref w1,.ref w2]∧WoodT H w1 m t1∧WoodT H w2 m t2∧Q .non H
def outside(m:Nat)(t1 t2:List Tie):List Nat:=(zaz m t1).filter fun s=>!za0 t2 s
def zio(m:Nat)(t1 t2:List Tie):PyData:=match outside m t1 t2 with
 |s::_=>.tuple [.str ("out" : Str),.int (s:Int)]
 |[]=>.tuple [.str ("in" : Str),zdz t1 (zbk t1) m (zbu t2) 9 1 0]
def zth:Sp:=fun vs H Q _=>∃(w1 w2:Addr)(m:Nat)(t1 t2:List Tie),vs=[.ref w1,.ref w2]∧WoodT H w1 m t1∧WoodT H w2 m t2∧1≤m∧m≤9∧∀(v:V)(H':Hp),Same H H'→Dn H' (zio m t1 t2) v→Q v H'
def zAk:Expr→Expr
 |.Tuple (_::e::_) _ _=>e
 |e=>e
theorem zpk{m:Nat}{t1 t2:List Tie}(ok1:∀t∈t1,t.Ok m)(ok2:∀t∈t2,t.Ok m)(ho:outside m t1 t2=[])(m1:1≤m):EndsR t1 (zbk t1) m (zbu t2) 1 0:=by
 refine⟨fun y n=>Stand m y n∧y.testBit 0=true,⟨zkv m1,rfl⟩,fun y n k r hk=>⟨⟨r.1.one hk,by rw[Nat.testBit_or,r.2,Bool.true_or]⟩,r.1.other hk,r.2⟩,fun y n r hb hn=>?_⟩
 obtain⟨S,r0⟩:=r
 have ad:∀k,k<m→(y|||n).testBit k=true:=fun k hk=>by
  cases hy:(y|||n).testBit k with
  |true=>rfl
  |false=>
   rw[Nat.testBit_or,Bool.or_eq_false_iff] at hy
   have:k∈zay m y n:=mem_open.mpr ⟨hk,hy.1,hy.2⟩
   rw[hn] at this
   cases this
 have k1:∀t∈t1,t.keep y=true:=fun t ht=>by
  obtain⟨i,hi,e⟩:=List.getElem_of_mem ht
  have z:=zd6 hb i (List.mem_range.mpr hi)
  unfold zh8 at z
  rw[List.getElem?_eq_getElem hi,e] at z
  have z':t.sb y n=false:=z
  rw[zno (ok1 t ht) S.dj ad] at z'
  simpa using z'
 have mw:y∈zaz m t1:=mem_wareL.mpr ⟨S.ym,by
  unfold za0
  rw[r0,Bool.true_and,List.all_eq_true]
  exact k1⟩
 have w2:za0 t2 y=true:=by
  cases h:za0 t2 y with
  |true=>rfl
  |false=>
   have:y∈outside m t1 t2:=List.mem_filter.mpr ⟨mw,by rw[h];rfl⟩
   rw[ho] at this
   cases this
 unfold za0 at w2
 rw[Bool.and_eq_true,List.all_eq_true] at w2
 unfold zbu
 rw[if_pos (List.all_eq_true.mpr fun t ht=>by rw[zsx (ok2 t ht) S.dj ad];exact w2.2 t ht)]
 simp
theorem zt4{m y n:Nat}{t1 t2:List Tie}(ok1:∀t∈t1,t.Ok m)(ok2:∀t∈t2,t.Ok m)(ho:outside m t1 t2=[])(S:Stand m y n)(r0:y.testBit 0=true)(hb:za5 t1 (zbk t1) y n=none)(hn:zay m y n=[]):(t2.all fun t=>t.sk y n)=true:=by
 have ad:∀k,k<m→(y|||n).testBit k=true:=fun k hk=>by
  cases hy:(y|||n).testBit k with
  |true=>rfl
  |false=>
   rw[Nat.testBit_or,Bool.or_eq_false_iff] at hy
   have:k∈zay m y n:=mem_open.mpr ⟨hk,hy.1,hy.2⟩
   rw[hn] at this
   cases this
 have k1:∀t∈t1,t.keep y=true:=fun t ht=>by
  obtain⟨i,hi,e⟩:=List.getElem_of_mem ht
  have z:=zd6 hb i (List.mem_range.mpr hi)
  unfold zh8 at z
  rw[List.getElem?_eq_getElem hi,e] at z
  have z':t.sb y n=false:=z
  rw[zno (ok1 t ht) S.dj ad] at z'
  simpa using z'
 have mw:y∈zaz m t1:=mem_wareL.mpr ⟨S.ym,by
  unfold za0
  rw[r0,Bool.true_and,List.all_eq_true]
  exact k1⟩
 have w2:za0 t2 y=true:=by
  cases h:za0 t2 y with
  |true=>rfl
  |false=>
   have:y∈outside m t1 t2:=List.mem_filter.mpr ⟨mw,by rw[h];rfl⟩
   rw[ho] at this
   cases this
 unfold za0 at w2
 rw[Bool.and_eq_true,List.all_eq_true] at w2
 exact List.all_eq_true.mpr fun t ht=>by rw[zsx (ok2 t ht) S.dj ad];exact w2.2 t ht
end Wd
namespace L2
open PySem PySem.Spec
@[irreducible] def PEi(X:Cx)(e:Expr)(t:TE):Prop:=PE X e t
@[irreducible] def PSi(X:Cx)(e:Stmt)(t:TS):Prop:=PS X e t
@[irreducible] def PLi(X:Cx)(l:List Stmt)(t:TS):Prop:=PSs X l t
end L2
namespace Wd
open PySem L2 Ow
def zii(m:Nat)(t1 t2:List Tie):PyData:=match outside m t1 t2 with
 |s::_=>.int (s:Int)
 |[]=>zdz t1 (zbk t1) m (zbu t2) 9 1 0
def wIn(m:Nat)(t1 t2:List Tie):Bool:=(outside m t1 t2).isEmpty
def zA3(b:Bool):Str:=match b with|true => "in" | false => "out"
theorem zre(m:Nat)(t1 t2:List Tie):zio m t1 t2=.tuple [.str (zA3 (wIn m t1 t2)),zii m t1 t2]:=by
 unfold zio wIn zii
 cases outside m t1 t2<;>rfl
def zAi(a b:Bool):Str:=match a,b with|true,true => "same" | true,false => "more" | false,true => "fewer" | false,false => "neither"
def zt7(x:Str)(m:Nat)(t1 t2:List Tie):PyData:=if x=("fewer" : Str) then .tuple [.str x,zii m t2 t1,zii m t1 t2] else .tuple [.str x,zii m t1 t2,zii m t2 t1]
theorem zqf(m:Nat)(t1 t2:List Tie):zt7 "same" m t1 t2=.tuple [.str ("same" : Str),zii m t1 t2,zii m t2 t1]:=if_neg (by decide +kernel)
theorem zv4(m:Nat)(t1 t2:List Tie):zt7 "more" m t1 t2=.tuple [.str ("more" : Str),zii m t1 t2,zii m t2 t1]:=if_neg (by decide +kernel)
theorem zps(m:Nat)(t1 t2:List Tie):zt7 "neither" m t1 t2=.tuple [.str ("neither" : Str),zii m t1 t2,zii m t2 t1]:=if_neg (by decide +kernel)
theorem zt9(m:Nat)(t1 t2:List Tie):zt7 "fewer" m t1 t2=.tuple [.str ("fewer" : Str),zii m t2 t1,zii m t1 t2]:=if_pos rfl
def zuw(m:Nat)(t1 t2:List Tie):PyData:=zt7 (zAi (wIn m t1 t2) (wIn m t2 t1)) m t1 t2
def zrs:Sp:=fun vs H Q _=>∃(w1 w2:Addr)(m:Nat)(t1 t2:List Tie),vs=[.ref w1,.ref w2]∧WoodT H w1 m t1∧WoodT H w2 m t2∧1≤m∧m≤9∧∀(v:V)(H':Hp),Same H H'→Dn H' (zuw m t1 t2) v→Q v H'
theorem zxj(m:Nat)(t1 t2:List Tie):(zaz m t1).filter (fun s=>!decide (s∈zaz m t2))=outside m t1 t2:=by
 unfold outside
 refine List.filter_congr fun s hs=>?_
 have h1:=(mem_wareL.mp hs).1
 have:decide (s∈zaz m t2)=za0 t2 s:=by
  rw[Bool.eq_iff_iff,decide_eq_true_eq,mem_wareL]
  exact⟨fun h=>h.2,fun h=>⟨h1,h⟩⟩
 rw[this]
def FoundF(H0 H:Hp)(fv:V)(ts:List Tie)(m y n:Nat):Prop:=(zd2 ts (zbk ts) m y n=false∧fv=.non)∨(zd2 ts (zbk ts) m y n=true∧∃(p lf ol:Addr)(v:V),fv=.ref p∧H p=some (.tup [.ref lf,v,.ref ol])∧H lf=some (.lst (zaj (zd3 ts m y n)))∧Dn H (zbo ts (zd3 ts m y n) m 9 y n).toD v∧zrz H ol ts m y n (zd3 ts m y n)∧H0 lf=none∧H0 ol=none)
theorem FoundF.same{H0 H H':Hp}{fv:V}{ts:List Tie}{m y n:Nat}(s:Same H H')(h:FoundF H0 H fv ts m y n):FoundF H0 H' fv ts m y n:=by
 rcases h with z|⟨b,p,lf,ol,v,a1,a2,a3,a4,a5,a6,a7⟩
 ·exact .inl z
 ·obtain⟨xs,h1,h2,h3⟩:=a5.ex
  refine .inr ⟨b,p,lf,ol,v,a1,s _ _ a2,s _ _ a3,Dn.same s _ _ a4,⟨xs,s _ _ h1,h2,fun j t ht=>?_⟩,a6,a7⟩
  obtain⟨p',b1,b2⟩:=h3 j t ht
  exact⟨p',b1,s _ _ b2⟩
theorem FoundF.old{H0 H1 H:Hp}{fv:V}{ts:List Tie}{m y n:Nat}(s:Same H0 H1)(h:FoundF H1 H fv ts m y n):FoundF H0 H fv ts m y n:=by
 rcases h with z|⟨b,p,lf,ol,v,a1,a2,a3,a4,a5,a6,a7⟩
 ·exact .inl z
 ·exact .inr ⟨b,p,lf,ol,v,a1,a2,a3,a4,a5,s.free a6,s.free a7⟩
def zuh(H0 H:Hp)(v:V)(ts:List Tie)(m k:Nat):Prop:=∃p,v=.ref p ∧
  ((zd2 ts (zbk ts) m 1 0=true∧∃fv,H p=some (.tup [.str ("void" : Str),fv])∧FoundF H0 H fv ts m 1 0) ∨
   (zd2 ts (zbk ts) m 1 0=false∧k=0∧H p=some (.tup [.str ("always" : Str),.non])) ∨
   (zd2 ts (zbk ts) m 1 0=false∧k≠0∧zd2 ts (zbk ts) m (1|||2^k) 0=true∧∃fv,H p=some (.tup [.str ("never" : Str),fv])∧FoundF H0 H fv ts m (1|||2^k) 0) ∨
   (zd2 ts (zbk ts) m 1 0=false∧k≠0∧zd2 ts (zbk ts) m (1|||2^k) 0=false∧zd2 ts (zbk ts) m 1 (2^k)=true∧∃fv,H p=some (.tup [.str ("always" : Str),fv])∧FoundF H0 H fv ts m 1 (2^k)) ∨
   (zd2 ts (zbk ts) m 1 0=false∧k≠0∧zd2 ts (zbk ts) m (1|||2^k) 0=false∧zd2 ts (zbk ts) m 1 (2^k)=false∧∃s1 s2:Nat,zbt ts (zbk ts) m 9 (1|||2^k) 0=some s1∧zbt ts (zbk ts) m 9 1 (2^k)=some s2∧H p=some (.tup [.str ("either" : Str),.int (s1:Int),.int (s2:Int)])))
theorem zku{ts:List Tie}{il:List Nat}{m y n:Nat}(h:zbt ts il m 9 y n=none):zd2 ts il m y n=true:=by unfold zd2;rw[h];rfl
theorem zlq{ts:List Tie}{il:List Nat}{m y n s:Nat}(h:zbt ts il m 9 y n=some s):zd2 ts il m y n=false:=by unfold zd2;rw[h];rfl
theorem zf4{m:Nat}(m1:1≤m):Stand m 1 0:=⟨fun _ _=>Nat.zero_testBit _,Nat.lt_of_lt_of_le (by decide) (Nat.pow_le_pow_right (by decide) m1:2^1≤2^m),Nat.two_pow_pos m⟩
theorem zle{m k:Nat}(m1:1≤m)(km:k<m):Stand m (1|||2^k) 0:=⟨fun _ _=>Nat.zero_testBit _,Nat.or_lt_two_pow (zf4 m1).ym (Nat.pow_lt_pow_right (by decide) km),Nat.two_pow_pos m⟩
theorem zmm{m k:Nat}(m1:1≤m)(km:k<m)(k0:k≠0):Stand m 1 (2^k):=⟨fun j hj=>by
  have:j=0:=by
   cases j with
   |zero=>rfl
   |succ j=>rw[show(1:Nat)=2^0 from rfl,Nat.testBit_two_pow] at hj;simp at hj
  subst this
  rw[Nat.testBit_two_pow]
  simpa using k0,(zf4 m1).ym,Nat.pow_lt_pow_right (by decide) km⟩
theorem zjh{ts:List Tie}{m y n:Nat}{o:Option Nat}(y0:y.testBit 0=true)(h:ztt ts m y n o):FirstK ts (zbk ts) m y n o:=by
 have e:∀s',InS y n s'→za0 ts s'=zdp ts (zbk ts) s':=fun s' hs=>by
  unfold za0
  rw[hs.1 0 y0,zey,Bool.true_and]
 cases o with
 |none=>exact fun s' a b=>by rw[←e s' b];exact h s' a b
 |some s=>exact⟨h.1,h.2.1,by rw[←e s h.2.1];exact h.2.2.1,fun s' a b c=>h.2.2.2 s' a b (by rw[e s' b];exact c)⟩
inductive WT where
 |leaf (w:Str)
 |broken (t:Int)
 |split (k:Int) (a b:WT)
def WT.toD:WT→PyData
 |.leaf w=>.tuple [.str w]
 |.broken t=>.tuple [.str ("broken" : Str),.int t]
 |.split k a b=>.tuple [.str ("split" : Str),.int k,a.toD,b.toD]
def WT.depth:WT→Nat
 |.leaf _=>0
 |.broken _=>0
 |.split _ a b=>max a.depth b.depth+1
def WT.good:WT→Prop
 |.leaf w=>¬V.str w=V.str ("broken" : Str)∧¬V.str w=V.str ("split" : Str)
 |.broken _=>True
 |.split _ a b=>a.good∧b.good
def brB(ts:List Tie)(t:Int)(y n:Nat):Bool:=decide (0≤t)&&(decide (t<(ts.length:Int))&&zh8 ts t.toNat y n)
def isT(ts:List Tie)(m:Nat)(lf:Str→Nat→Nat→Bool):WT→Nat→Nat→Bool
 |.broken t,y,n=>brB ts t y n
 |.leaf w,y,n=>lf w y n
 |.split k a b,y,n=>if 0≤k∧k.toNat∈zay m y n then isT ts m lf a (y|||2^k.toNat) n&&isT ts m lf b y (n|||2^k.toNat) else false
theorem zst(k:Int)(op:List Nat):inV (.int k) (zaj op)=decide (0≤k∧k.toNat∈op):=by
 by_cases h:0≤k
 ·obtain⟨j,rfl⟩:∃j:Nat,k=(j:Int):=⟨k.toNat,by omega⟩
  rw[zb3,Int.toNat_natCast]
  by_cases c:j∈op
  ·rw[decide_eq_true c,decide_eq_true ⟨h,c⟩]
  ·rw[decide_eq_false c,decide_eq_false fun z=>c z.2]
 ·rw[decide_eq_false fun z=>h z.1]
  cases e:inV (.int k) (zaj op) with
  |false=>rfl
  |true=>
   exfalso
   have:∀l:List Nat,inV (.int k) (zaj l)=false:=by
    intro l
    induction l with
    |nil=>rfl
    |cons a r ih=>
     show(eqV (.int (a:Int)) (.int k)||inV (.int k) (zaj r))=false
     rw[ih,Bool.or_false]
     show((a:Int)==k)=false
     simpa using fun z:(a:Int)=k=>h (by omega)
   rw[this] at e
   cases e
def zur:Sp:=fun vs H Q _=>∃(wd:Addr)(m:Nat)(ts:List Tie)(y n:Nat)(t:Int),vs=[.ref wd,.int y,.int n,.int t]∧WoodT H wd m ts∧∀H',Same H H'→Q (.bl (brB ts t y n)) H'
def zv7(C:Hp→Prop)(lf:Str→Nat→Nat→Bool):Sp:=fun vs H Q _=>∃(w:Str)(y n:Nat),vs=[.str w,.int y,.int n]∧C H∧∀H',Same H H'→Q (.bl (lf w y n)) H'
def zo2(f:Nat)(p:Addr)(C:Hp→Prop)(m:Nat)(ts:List Tie)(lf:Str→Nat→Nat→Bool):Sp:=fun vs H Q _=>∃(wd:Addr)(y n:Nat)(t:WT)(v:V),vs=[.ref wd,.int y,.int n,v,.ref p]∧WoodT H wd m ts∧Dn H t.toD v∧t.good∧t.depth<f∧C H∧∀H',Same H H'→Q (.bl (isT ts m lf t y n)) H'
theorem zx7{P:Program}{w:World}{K:PySem.W.Frag}{mg:Str→Option Value}{base:Heap}{p c:Addr}{qual:Str}{params:Arguments}{body:Expr}{scope:Scope}{cl:List (Str×Addr)}{H1:Hp}{ps fr:List Str}{fv:List V}{k:Nat}{lf:Str→Nat→Nat→Bool}(C0:Hp→Prop)
  (hp:H1 p=some (.ext (zl1 p qual params body scope cl c)))
  (S:zlh ps fr scope) (hcl:∀x cc,cl.lookup x=some cc→∃v,base.IsCell cc v) (inj:∀x y cc,cl.lookup x=some cc→cl.lookup y=some cc→x=y) (has:∀y∈scope.names,y.2=.free→∃cc,cl.lookup y.1=some cc)
  (hfv:∀(i:Nat)(x:Str)(v:V),fr[i]?=some x→fv[i]?=some v→∃cc u,cl.lookup x=some cc∧RelV v u∧base.IsCell cc (some u)) (hlen:fv.length=fr.length)
  (hsame:∀pm ctv args,bindArgs (PySem.W.kla_fn "<lambda>" qual params body scope cl pm (.ref c) ctv) args=bindArgs (PySem.W.kla_fn "<lambda>" qual params body scope cl .none (.ref c) .none) args)
  (len3:ps.length=3)
  (hbody:∀(q:Str)(A:Around)(outer:List Env)(s:Shared)(H:Hp)(wo:Str)(y n:Nat)(Q:VK),Room k (A.deeper (PySem.W.envX q scope s.heap.objs.size p (.ref c) cl))→C0 H→(∀(H':Hp),Same H H'→Q (.bl (lf wo y n)) H') →
   ∃t,PE (zsy P w K mg base (ps++fr) q scope p c cl A outer s H) body t∧t ([some (.str wo),some (.int y),some (.int n)]++fv.map some) H Q):
  FnOk P w K mg base CX0 (k+1) p (PySem.W.kla_fn "<lambda>" qual params body scope cl .none (.ref c) .none) ps (zv7 (fun H=>C0 H∧H p=some (.ext (zl1 p qual params body scope cl c))∧H c=some (.ext (zgw c))) lf):=by
 refine zvc S hcl inj has hfv hlen hsame (fun vs H Q E h=>?_) (fun vs H Q E h=>?_) (fun q A outer s H vs Q E hr h=>?_)
 ·obtain⟨wo,y,n,rfl,_⟩:=h
  exact len3.symm
 ·obtain⟨wo,y,n,rfl,⟨_,h1,h2⟩,_⟩:=h
  exact⟨h1,h2⟩
 ·obtain⟨wo,y,n,rfl,⟨h0,_,_⟩,q'⟩:=h
  exact hbody q A outer s H wo y n Q hr h0 q'
def zig(ts:List Tie)(w:Str)(y n:Nat):Bool:=decide (V.str w=V.str ("kept" : Str))&&(ts.all fun t=>t.sk y n)
def zw8:Sp:=fun vs H Q _=>∃(wd:Addr)(m:Nat)(ts:List Tie)(w:Str)(y n:Nat),vs=[.ref wd,.str w,.int y,.int n]∧WoodT H wd m ts∧∀H',Same H H'→Q (.bl (zig ts w y n)) H'
def zxs(f:Nat):Sp:=fun vs H Q _=>∃(w1 w2:Addr)(m:Nat)(t1 t2:List Tie)(t:WT)(v:V),vs=[.ref w1,.ref w2,v]∧WoodT H w1 m t1∧WoodT H w2 m t2∧Dn H t.toD v∧t.good∧t.depth<f∧∀H',Same H H'→Q (.bl (isT t1 m (zig t2) t 1 0)) H'
def zde(t1 t2:List Tie)(m:Nat):Nat→Nat→Nat→WT
 |f,y,n=>match za5 t1 (zbk t1) y n with
  |some t=>.broken (t:Int)
  |none=>match zbu t2 y n with
   |some _=>.leaf ("kept" : Str)
   |none=>match zay m y n,f with
    |k::_,f+1=>.split (k:Int) (zde t1 t2 m f (y|||2^k) n) (zde t1 t2 m f y (n|||2^k))
    |_,_=>.leaf ("kept" : Str)
section
variable {t1 t2 : List Tie} {m f y n : Nat}
theorem znh{i:Nat}(hb:za5 t1 (zbk t1) y n=some i):zde t1 t2 m f y n=.broken (i:Int):=by
 unfold zde
 simp[hb]
theorem zq7{d:PyData}(hb:za5 t1 (zbk t1) y n=none)(hl:zbu t2 y n=some d):zde t1 t2 m f y n=.leaf ("kept" : Str):=by
 unfold zde
 simp[hb,hl]
theorem zo6{k:Nat}{r:List Nat}(hb:za5 t1 (zbk t1) y n=none)(hl:zbu t2 y n=none)(ho:zay m y n=k::r):zde t1 t2 m (f+1) y n=.split (k:Int) (zde t1 t2 m f (y|||2^k) n) (zde t1 t2 m f y (n|||2^k)):=by
 conv=>lhs;unfold zde
 simp only[hb,hl,ho]
end
theorem zqq:¬V.str ("kept" : Str)=V.str ("broken" : Str):=by decide +kernel
theorem zr9:¬V.str ("kept" : Str)=V.str ("split" : Str):=by decide +kernel
theorem zhd{t1 t2:List Tie}{m:Nat}(ok1:∀t∈t1,t.Ok m)(ok2:∀t∈t2,t.Ok m)(hout:outside m t1 t2=[]):∀(f y n:Nat),(zay m y n).length≤f→Stand m y n→y.testBit 0=true →
  (zde t1 t2 m f y n).toD=zdz t1 (zbk t1) m (zbu t2) f y n∧(zde t1 t2 m f y n).good∧(zde t1 t2 m f y n).depth≤f∧isT t1 m (zig t2) (zde t1 t2 m f y n) y n=true
 |f,y,n,hf,S,y0=>by
  cases hb:za5 t1 (zbk t1) y n with
  |some t=>
   rw[znh hb,zfr hb]
   refine⟨rfl,trivial,Nat.zero_le _,?_⟩
   obtain⟨h1,h2⟩:=zf5 hb
   have tl:=List.mem_range.mp h1
   show brB t1 (t:Int) y n=true
   unfold brB
   rw[decide_eq_true (by omega),decide_eq_true (by omega),Int.toNat_natCast,h2]
   rfl
  |none=>
   cases hl:zbu t2 y n with
   |some d=>
    rw[zq7 hb hl,zh4 hb hl]
    unfold zbu at hl
    split at hl
    ·next h=>
     cases hl
     refine⟨rfl,⟨zqq,zr9⟩,Nat.zero_le _,?_⟩
     show zig t2 ("kept" : Str) y n=true
     unfold zig
     rw[decide_eq_true rfl,h]
     rfl
    ·cases hl
   |none=>
    cases ho:zay m y n with
    |nil=>
     exfalso
     have:=zt4 ok1 ok2 hout S y0 hb ho
     unfold zbu at hl
     rw[if_pos this] at hl
     cases hl
    |cons k r=>
     cases f with
     |zero=>rw[ho] at hf;simp at hf
     |succ f=>
      have hk:k∈zay m y n:=by rw[ho];exact List.mem_cons_self
      have l1:=zc0 hk
      have l2:=zc1 hk
      obtain⟨a1,a2,a3,a4⟩:=zhd ok1 ok2 hout f (y|||2^k) n (by omega) (S.one hk) (by rw[Nat.testBit_or,y0];rfl)
      obtain⟨b1,b2,b3,b4⟩:=zhd ok1 ok2 hout f y (n|||2^k) (by omega) (S.other hk) y0
      rw[zo6 hb hl ho,zgk hb hl ho]
      refine⟨?_,⟨a2,b2⟩,?_,?_⟩
      ·show PyData.tuple [.str ("split" : Str),.int (k:Int),(zde t1 t2 m f (y|||2^k) n).toD,(zde t1 t2 m f y (n|||2^k)).toD]=_
       rw[a1,b1]
      ·show max (zde t1 t2 m f (y|||2^k) n).depth (zde t1 t2 m f y (n|||2^k)).depth+1≤f+1
       omega
      ·unfold isT
       rw[if_pos ⟨by omega,by rw[Int.toNat_natCast];exact hk⟩,Int.toNat_natCast,a4,b4]
       rfl
theorem zc2{H H1 H2:Hp}(a:zmb H H1)(b:zmb H1 H2):zmb H H2:=fun c xs h=>b c xs (a c xs h)
end Wd
namespace L2
open PySem PySem.Spec PyProof.Rows
abbrev zpf:List Value:=[.type "ValueError",.type "Exception",.type "BaseException",.type "object"]
abbrev zod:String := "ValueError.__new__"
structure XCls(h:Heap)(C:Addr)(bm:List Value):Prop where
 ex:∃N nm qn bs hd sn sub ab col dd k0 k1 k2 k3 k5 mN,h.get? C=some (excClassObj nm qn C N bs bm hd sn sub ab col dd k0 k1 k2 k3 k5 zod)∧h.Ns N mN∧mN "__init__" = none∧OwnTail h zpf bm
theorem XCls.mk'{K:PySem.W.Frag}{h:Heap}{C:Addr}(X:K.In h)(q:PySem.W.excIn K C zpf zod=true):∃bm,XCls h C bm:=by
 unfold PySem.W.excIn at q
 split at q
 case h_2=>cases q
 case h_1 od cd sl hl=>
  split at q
  case h_2=>cases q
  case h_1 C2 bm a0 a1 a2 a3 nw a5 hm hs=>
   rw[Bool.and_eq_true,Bool.and_eq_true,Bool.and_eq_true,Bool.and_eq_true,Bool.and_eq_true,beq_iff_eq,beq_iff_eq,beq_iff_eq,Bool.not_eq_true'] at q
   obtain⟨⟨⟨⟨⟨q1,q2⟩,q3⟩,q4⟩,q5⟩,q6⟩:=q
   subst q1 q2
   obtain⟨f1,f2,f3,f4,f5,f6,f7,f8,f9,fa,fb⟩:=cd
   replace hm:f3=.ref C2::bm:=hm
   replace q3:fb=false:=q3
   subst hm q3
   obtain⟨ls⟩:=sl
   replace hs:ls=[a0,a1,a2,a3,some (.builtin zod),a5]:=hs
   subst hs
   exact⟨bm,⟨_,_,_,_,_,_,_,_,_,_,_,_,_,_,_,_,X _ _ hl,.of_isNs (PySem.W.isNs_of_in X q5),PySem.W.nsMap_none_of_in X q5 q6,PySem.W.tail_of_in X q4⟩⟩
theorem zpm{M:Model}{A:Around}{E:Value→Shared→Prop}{s:Shared}{C D e:Addr}{bC bD:List Value}{oe:Obj}{Q:Bool→Shared→Prop}(xC:XCls s.heap C bC)(xD:XCls s.heap D bD)
  (he:s.heap.get? e=some oe) (hcls:oe.cls=.ref D) (hin:(Value.ref D::bD).contains (.ref C)=true) (hq:Q true s):wpAny M A (excMatches (.ref e) (.ref C)) Q E s:=by
 obtain⟨N,nm,qn,bs,hd,sn,sub,ab,col,dd,k0,k1,k2,k3,k5,mN,hC,_,_,tC⟩:=xC.ex
 obtain⟨N',am,ak,aj,al,ah,ae,ai,ad,ar,af,ap,av,aq,ao,au,hD,_,_,tD⟩:=xD.ex
 obtain⟨h,g,d,t,os⟩:=s
 have hB:(Value.ref C::bC).contains (.type "BaseException")=true:=by rw[List.contains_cons,tC.hasType (b:=true) (by decide),Bool.or_true]
 have f:=tc_notTuple
 unfold excMatches
 repeat (first|(with_reducible refine wpAny_loadPart_at he ?_;rw[hcls])|with_reducible refine wpAny_loadPart_at hC ?_|(with_reducible refine wpAny_isSubtype_exc hC ?_;rw[hB])|(with_reducible refine wpAny_isSubtype_exc hD ?_;rw[hin])|wp_step)
 exact hq
section
variable {X : Cx} {pins : List (Addr × Obj)} {σ : St} {H H' : Hp} {s s' : Shared} {h2 : Heap}
theorem zsi{h h':Heap}{c:Addr}{v:Option Value}(u:h.UpToSlots h')(x:h.IsCell c v):h'.IsCell c v:=by
 obtain⟨o,e,d⟩:=x
 obtain⟨sl,e'⟩:=u c o e fun vs q=>by rw[d] at q;cases q
 exact⟨_,e',d⟩
theorem Inv.upto(I0:Inv X pins σ H s)(I1:Inv X pins σ H' s')(k:∀b o,s'.heap.get? b=some o→b∉frs X.stack→(H' b≠none∨∃u,s.heap.get? b=some u)→h2.get? b=some o)(u:s'.heap.UpToSlots h2):Inv X pins σ H' { s' with heap:=h2 } where
 ok:=I1.ok
 os:=I1.os
 bare:=I1.bare
 base:=by
  have ad:∀b o,X.s₀.heap.get? b=some o→b∉X.fs→b∉frs X.stack:=fun b o e n z=>by
   rcases List.mem_cons.mp (I1.stkSub b z) with r|r
   ·have h1:=Heap.lt_size e
    have h2:=I1.ok.above
    rw[r] at h1
    exact absurd (Nat.lt_of_lt_of_le h1 h2) (Nat.lt_irrefl _)
   ·exact n r
  refine⟨fun b o e n hf hx=>?_,fun b o e n hf hx=>?_,I1.base.free,fun b o e hx=>?_,I1.base.tups,I1.base.frzs,I1.base.tbls⟩
  ·exact k b o (I1.base.keep b o e n hf hx) (ad b o e hf) (.inr ⟨_,I0.base.keep b o e n hf hx⟩)
  ·obtain⟨sl,e1⟩:=I1.base.slot b o e n hf hx
   obtain⟨_,o2,e2,d2⟩:=I1.funs.mem hf
   rw[e1] at e2
   cases e2
   obtain⟨ae,e3⟩:=u b _ e1 d2
   exact⟨ae,e3⟩
  ·obtain⟨o1,e1⟩:=I1.base.there b o e hx
   by_cases hb:b∈frs X.stack
   ·obtain⟨_,o2,e2,d2⟩:=I1.stack.mem hb
    obtain⟨sl,e3⟩:=u b o2 e2 d2
    exact⟨_,e3⟩
   ·obtain⟨o0,e0⟩:=I0.base.there b o e hx
    exact⟨o1,k b o1 e1 hb (.inr ⟨_,e0⟩)⟩
 loc:=by
  obtain⟨m,hn,hl⟩:=I1.loc
  refine⟨m,u.ns hn,fun i x v h1 h2 h3=>?_⟩
  obtain⟨w,r,l⟩:=hl i x v h1 h2 h3
  refine⟨w,r,?_⟩
  rcases l with l|⟨l,c,h4,h5⟩
  ·exact .inl l
  ·exact .inr ⟨l,c,h4,zsi u h5⟩
 cell:=fun x c e=>let ⟨v,h⟩:=I1.cell x c e;⟨v,zsi u h⟩
 free:=I1.free
 freeC:=I1.freeC
 pin:=fun p hp=>by
  obtain⟨h1,h2,h3,h4,h5⟩:=I1.pin p hp
  have ad:p.1∉frs X.stack:=fun z=>by
   rcases List.mem_cons.mp (I1.stkSub _ z) with r|r
   ·exact h3 r
   ·exact h4 r
  exact⟨k _ _ h1 ad (.inr ⟨_,(I0.pin p hp).1⟩),h2,h3,h4,h5⟩
 hok:=fun a o e=>by
  refine(I1.hok a o e).stay (fun b w hb q=>?_) (fun _ q=>q) fun _ _ q=>q
  have hn:H' b≠none:=by
   rcases hb with rfl|hb
   ·rw[e];exact Option.some_ne_none _
   ·rw[hb];exact Option.some_ne_none _
  exact k b w q (fun z=>hn (I1.stkFree b z)) (.inl hn)
 len:=I1.len
end
def CXR(P:Program)(w:World):CXT:=fun outer H s E e s'=>∃(ea D:Addr)(a0:Value)(H':Hp)(B:Heap),e=.ref ea∧s'.os=s.os∧AllBare s'.gens∧Un (frs outer) [] H H' s.heap s'.heap∧HOk P w H' s'.heap ∧
 Heap.FlyingW B outer ea (.ref D) a0 s'.heap∧(∀b o,s'.heap.get? b=some o→b∉frs outer→(H' b≠none∨∃u,s.heap.get? b=some u)→B.get? b=some o)∧H' ea=none∧E (.ref D) none H'
theorem zzf{P:Program}{w:World}{H:Hp}{h:Heap}{a:Addr}{o:HO}(x:ObjOk P w H h a o):∃u,h.get? a=some u:=by
 cases o with
 |lst xs=>obtain⟨_,_,_,_,e⟩:=x;exact⟨_,e⟩
 |tup xs=>obtain⟨_,_,_,ob,e,_⟩:=x;exact⟨_,e⟩
 |dK kvs=>obtain⟨_,_,_,_,ob,_,_,e,_⟩:=x;exact⟨_,e⟩
 |dT kvs=>obtain⟨_,_,_,_,ob,_,_,e,_⟩:=x;exact⟨_,e⟩
 |set S n=>obtain⟨ob,_,_,_,e,_⟩:=x;exact⟨_,e⟩
 |ins C dx fs=>obtain⟨_,_,_,e,_⟩:=x;exact⟨_,e⟩
 |own y=>exact x
 |xd fs=>obtain⟨_,⟨_,_,_,e,_⟩,_⟩:=x;exact⟨_,e⟩
 |rng lo hi=>obtain⟨_,_,_,e⟩:=x;exact⟨_,e⟩
 |frz ob u=>obtain⟨e,_⟩:=x;exact⟨_,e⟩
 |tbl ps=>exact⟨_,(show h.get? a=some _ from x)⟩
 |met f y=>exact⟨_,(show h.get? a=some _ from x)⟩
 |ext φ=>obtain⟨_,e,_⟩:=x;exact e
theorem zw9{l:List Env}:∀env∈l,∀b,env.frame=some b→b∈frs l:=fun env he b hb=>List.mem_filterMap.mpr ⟨env,he,hb⟩
theorem zw6{P:Program}{w:World}{K:PySem.W.Frag}{mg:Str→Option Value}{base:Heap}{N:List Str}{qual:Str}{scope:Scope}{f:Addr}{cd:Value}{A:Around}{outer:List Env}{s0:Shared}{H0:Hp}{E:XK}
  {pins:List (Addr×Obj)} {σ:St} {H:Hp} {s:Shared} (I:Inv (zci (CXR P w) P w K mg base N qual scope f cd A outer s0 H0 E) pins σ H s) {h1:Heap} {e D:Addr} {vs:List Value} (hx:Heap.MadeExcOf s.heap h1 e (.ref D) vs) (hE:E (.ref D) none H):
  (zci (CXR P w) P w K mg base N qual scope f cd A outer s0 H0 E).xe (.ref e) { s with heap:=h1 }:=by
 have af:∀b o,s0.heap.get? b=some o→b∉frs outer→b∉frs (envOfC qual scope s0.heap.objs.size f cd::outer):=fun b o e n z=>by
  rcases List.mem_cons.mp (I.stkSub b z) with r|r
  ·have h1:=Heap.lt_size e
   rw[r] at h1
   exact absurd h1 (Nat.lt_irrefl _)
  ·exact n r
 have hB:∀b o,s.heap.get? b=some o→b∉frs (envOfC qual scope s0.heap.objs.size f cd::outer)→(PySem.W.hideAll s.heap (frs (envOfC qual scope s0.heap.objs.size f cd::outer))).get? b=some o:=fun b o e n=>PySem.W.hideAll_get _ e n
 refine wpAny_leaves_madeW (base:=PySem.W.hideAll s.heap (frs (envOfC qual scope s0.heap.objs.size f cd::outer))) (h:=s.heap) (L:=s0.heap.objs.size) I.ok.frames rfl (fun b o q=>PySem.W.of_hideAll _ q) (PySem.W.funFrames_hide I.stack zw9) hx fun h2 t x1 x2 x3 x4=>?_
 have tr:∀b o,H b=some o→∃u,s.heap.get? b=some u∧(PySem.W.hideAll s.heap (frs (envOfC qual scope s0.heap.objs.size f cd::outer))).get? b=some u:=fun b o q=>by
  obtain⟨u,hu⟩:=zzf (I.hok b o q)
  exact⟨u,hu,hB b u hu fun z=>by have:=I.stkFree b z;rw[q] at this;cases this⟩
 refine⟨e,D,.ref t,H,_,rfl,I.os,I.bare,⟨fun b o q n hf hx=>?_,fun b o q n hf ae=>?_,fun b o q n hx=>I.base.free b o q n hx,fun b o q ae=>?_,I.base.tups,I.base.frzs,I.base.tbls⟩,fun a o q=>?_,x1,fun b o q hf hb=>?_,?_,hE⟩
 ·exact x1.1 _ _ (hB b o (I.base.keep b o q n hf hx) (af b o q hf))
 ·obtain⟨sl,e1⟩:=I.base.slot b o q n hf ae
  obtain⟨_,o2,e2,d2⟩:=I.funs.mem hf
  rw[e1] at e2
  cases e2
  obtain⟨ah,e3⟩:=x4 b _ (hx.keeps _ _ e1) d2
  exact⟨ah,e3⟩
 ·obtain⟨o1,e1⟩:=I.base.there b o q ae
  by_cases hb:b∈frs (envOfC qual scope s0.heap.objs.size f cd::outer)
  ·obtain⟨_,o2,e2,d2⟩:=I.stack.mem hb
   obtain⟨sl,e3⟩:=x4 b o2 (hx.keeps _ _ e2) d2
   exact⟨_,e3⟩
  ·exact⟨o1,x1.1 _ _ (hB b o1 e1 hb)⟩
 ·refine(I.hok a o q).stay (fun b u hb r=>?_) (fun _ r=>r) fun _ _ r=>r
  have hn:b∉frs (envOfC qual scope s0.heap.objs.size f cd::outer):=fun z=>by
   have fr:=I.stkFree b z
   rcases hb with rfl|hb
   ·rw[q] at fr;cases fr
   ·rw[hb] at fr;cases fr
  exact x1.1 _ _ (hB b u r hn)
 ·rcases hb with hb|⟨u,hu⟩
  ·cases hq:H b with
   |none=>exact absurd hq hb
   |some ho=>
    obtain⟨u,_,ad⟩:=tr b ho hq
    have:=x1.1 _ _ ad
    rw[q] at this
    cases this
    exact ad
  ·obtain⟨o1,e1⟩:=I.base.there b u hu (by intro z;cases z)
   have ad:=hB b o1 e1 (af b u hu hf)
   have:=x1.1 _ _ ad
   rw[q] at this
   cases this
   exact ad
 ·cases hq:H e with
  |none=>rfl
  |some ho=>
   obtain⟨u,hu,_⟩:=tr e ho hq
   rw[hx.new] at hu
   cases hu
theorem Fun.okR{P:Program}{w:World}{K:PySem.W.Frag}{mg:Str→Option Value}{base:Heap}{x qual:Str}{st:Stmt}{f:Addr}{fd:FuncData}{N ps:List Str}{k:Nat}{sp:Sp}(F:Fun K x qual st f fd)(S:zap N ps (zag st))(len:∀vs H Q E,sp vs H Q E→vs.length=ps.length)
  (hb:∀(cdv:Value)(A:Around)(outer:List Env)(s:Shared)(H:Hp)(vs:List V)(Q:VK)(E:XK),Room k (A.deeper (envOfC qual (zag st) s.heap.objs.size f cdv))→sp vs H Q E →
   ∃t,PSs (zci (CXR P w) P w K mg base N qual (zag st) f cdv A outer s H E) (za8 st) t∧t { nx:=fun _ H'=>Q .non H',rt:=Q } (zhx N vs) H):FnOk P w K mg base (CXR P w) (k+1) f fd ps sp:=by
 obtain⟨_,_,_,_,_,_,cdv,_,_,rfl,lk,ad⟩:=F.ex
 refine zwe lk ad S len fun A outer s H vs Q E hr ae=>?_
 exact hb cdv A outer s H vs Q E hr ae
def zy9(D:Addr)(W:XK)(t:TA):TS:=fun _ σ H=>t σ H fun vs H1=>vs.length≤1000∧W (.ref D) none H1
theorem zud{X:Cx}{x:Str}{D:Addr}{np cpos pos:Pos}{e:Expr}{es:List Expr}{ta:TA}{W:XK}(hc:X.calm=true)(hg:Gl X x)(hm:X.mg x=some (.ref D))(hD:PySem.W.excIn X.K D zpf zod=true)(ha:PA X (e::es) ta)
  (hxe:∀(pins:List (Addr×Obj))(σ:St)(H:Hp)(s:Shared)(h1:Heap)(ea:Addr)(vs:List Value),Inv X pins σ H s→Heap.MadeExcOf s.heap h1 ea (.ref D) vs→W (.ref D) none H→X.xe (.ref ea) { s with heap:=h1 })
  (he:starEach (e::es) X.env=(false,eval e X.env)::starEach es X.env:=by rfl) (hplain:(backTo cpos (starEach es X.env)).any (·.1)=false:=by rfl) (hd:(x==("__debug__" : Str))=false:=by decide):
  PS X (.Raise (some (.Call (.Name x np) (e::es) [] cpos)) none pos) (zy9 D W ta):=by
 intro pins s σ H Dn I h
 obtain⟨bm,xc⟩:=XCls.mk' I.mod.kin hD
 obtain⟨N,nm,qn,bs,ad,sn,sub,ab,col,dd,k0,k1,k2,k3,k5,mN,eC,eN,ei,eT⟩:=xc.ex
 have hs:=ha cpos pins s σ H _ I h
 refine wpAny_Raise_call_subT (C:=D) (nm:=nm) (q:=qn) (N:=N) (bs:=bs) (bm:=bm) (hdct:=ad) (sn:=sn) (sub:=sub) (ab:=ab) (col:=col) (dd:=dd) (k0:=k0) (k1:=k1) (k2:=k2) (k3:=k3) (k5:=k5) PySem.F.excBase_ValueError (mN:=mN) (eT.hasType (b:=true) (by decide)) (I.ok.hd hc)
  (by rw[he];show(false||(backTo cpos (starEach es X.env)).any (·.1))=false;rw[hplain];rfl) ei (zkj I hg hm ⟨rfl,?_⟩ hd)
 rw[he] at hs ⊢
 refine Calls.evalArgs_plain (wpAny_mono hs (fun us s2 ⟨vs,H1,I1,r,q1,q2⟩=>?_) fun _ _ z=>z)
 refine⟨rfl,?_,I1.bk _ _ eC,eN.keeps I1.bk,eT.keeps I1.bk,fun h1 ea hx=>hxe pins σ H1 s2 h1 ea _ I1 hx q2⟩
 rw[←r.length]
 exact Nat.le_of_lt (zb0 q1)
section
variable {X : Cx} {pins : List (Addr × Obj)} {σ : St} {H H' : Hp} {s s' : Shared} {h2 : Heap}
def XE(X:Cx)(pins:List (Addr×Obj))(W:XK):Value→Shared→Prop:=fun e s'=>∃(σ:St)(H:Hp)(s:Shared)(H':Hp)(ea D:Addr)(a0:Value)(B:Heap),e=.ref ea∧Inv X pins σ H s∧Inv X pins σ H' s'∧Heap.FlyingW B X.stack ea (.ref D) a0 s'.heap ∧
 (∀b o,s'.heap.get? b=some o→b∉frs X.stack→(H' b≠none∨∃u,s.heap.get? b=some u)→B.get? b=some o)∧H' ea=none∧W (.ref D) none H'
abbrev Cx.tryX(X:Cx)(pins:List (Addr×Obj))(W:XK):Cx:={ X with pn:=X.pn++pins,xe:=XE X pins W }
abbrev Cx.markX(X:Cx)(ea:Addr):Cx:={ X with A:=X.A.mark (some (.ref ea)),calm:=false,xe:=fun _ _=>False }
theorem Inv.toTry(I:Inv X pins σ H s)(W:XK):Inv (X.tryX pins W) [] σ H s:=
 ⟨⟨I.ok.mod,I.ok.kind,I.ok.glob,I.ok.blt,I.ok.above,I.ok.inj,I.ok.has,I.ok.cab,I.ok.hd,I.ok.frames,I.ok.stk,I.ok.exf,I.ok.bs,I.ok.bsz,I.ok.noex,I.ok.exfs,I.ok.funs,I.ok.frf⟩,I.os,I.bare,I.base,I.loc,I.cell,I.free,I.freeC,fun p hp=>I.pin p (by rw[List.append_nil] at hp;exact hp),I.hok,I.len⟩
theorem Inv.ofTry{W:XK}{pins':List (Addr×Obj)}(I:Inv (X.tryX pins W) pins' σ H s):Inv X pins σ H s:=
 ⟨⟨I.ok.mod,I.ok.kind,I.ok.glob,I.ok.blt,I.ok.above,I.ok.inj,I.ok.has,I.ok.cab,I.ok.hd,I.ok.frames,I.ok.stk,I.ok.exf,I.ok.bs,I.ok.bsz,I.ok.noex,I.ok.exfs,I.ok.funs,I.ok.frf⟩,I.os,I.bare,I.base,I.loc,I.cell,I.free,I.freeC,fun p hp=>I.pin p (List.mem_append_left _ hp),I.hok,I.len⟩
theorem Inv.toMark(I:Inv X pins σ H s)(ea:Addr):Inv (X.markX ea) pins σ H s:=
 ⟨⟨I.ok.mod,I.ok.kind,I.ok.glob,I.ok.blt,I.ok.above,I.ok.inj,I.ok.has,I.ok.cab,fun z=>(by cases z),I.ok.frames,I.ok.stk,I.ok.exf,I.ok.bs,I.ok.bsz,I.ok.noex,I.ok.exfs,I.ok.funs,I.ok.frf⟩,I.os,I.bare,I.base,I.loc,I.cell,I.free,I.freeC,I.pin,I.hok,I.len⟩
theorem Inv.ofMark{ea:Addr}(I:Inv (X.markX ea) pins σ H s)(hd:X.calm=true→X.A.handled=none):Inv X pins σ H s:=
 ⟨⟨I.ok.mod,I.ok.kind,I.ok.glob,I.ok.blt,I.ok.above,I.ok.inj,I.ok.has,I.ok.cab,hd,I.ok.frames,I.ok.stk,I.ok.exf,I.ok.bs,I.ok.bsz,I.ok.noex,I.ok.exfs,I.ok.funs,I.ok.frf⟩,I.os,I.bare,I.base,I.loc,I.cell,I.free,I.freeC,I.pin,I.hok,I.len⟩
theorem SP.ofTry{W:XK}{D:zkx}{f:Flow}(h:SP (X.tryX pins W) [] D f s'):SP X pins D f s':=by
 cases f with
 |next=>obtain⟨a,b,I,q⟩:=h;exact⟨a,b,I.ofTry,q⟩
 |brk=>obtain⟨a,b,I,q⟩:=h;exact⟨a,b,I.ofTry,q⟩
 |cont=>obtain⟨a,b,I,q⟩:=h;exact⟨a,b,I.ofTry,q⟩
 |ret u=>obtain⟨v,a,b,I,r,q⟩:=h;exact⟨v,a,b,I.ofTry,r,q⟩
theorem zAc{W:XK}:zof (CXR X.prog X.w) (X.tryX pins W) W:=fun pins' σ H s e s' I h=>by
 obtain⟨ea,D,a0,H',B,rfl,os,bare,un,hok,fl,kB,hn,hW⟩:=h
 exact⟨σ,H,s,H',ea,D,a0,B,rfl,I.ofTry,I.ofTry.call' os un hok bare (fun b z=>by cases z),fl,kB,hn,hW⟩
end
def zva(K:PySem.W.Frag)(D C:Addr):Bool:=match K.lookup D with
 |some ⟨_,_,.cls cd,_⟩=>cd.mro.contains (.ref C)
 |_=>false
theorem zxi{K:PySem.W.Frag}{h:Heap}{D C:Addr}{bD:List Value}(X:K.In h)(x:XCls h D bD)(q:zva K D C=true):(Value.ref D::bD).contains (.ref C)=true:=by
 unfold zva at q
 split at q
 case h_2=>cases q
 case h_1 oc od cd sl hl=>
  obtain⟨_,_,_,_,_,_,_,_,_,_,_,_,_,_,_,_,e,_⟩:=x.ex
  have:=X _ _ hl
  rw[e] at this
  cases this
  exact q
structure zAd(K:PySem.W.Frag)(D:Addr):Prop where
 cl:PySem.W.excIn K D zpf zod=true
 ga:PySem.W.findIn K (.ref D) "__getattribute__" = some (some (.builtin "BaseException.__getattribute__"))
 gt:PySem.W.findIn K (.ref D) "__getattr__" = some none
 ck:PySem.W.findIn K (.ref D) "__class__" = some (some (.builtin "object.__class__"))
theorem zts(bs:List Bool):((List.range bs.length).any fun i=>(bs[i]?).getD false)=bs.any id:=by
 rw[Bool.eq_iff_iff,List.any_eq_true,List.any_eq_true]
 constructor
 ·rintro⟨i,hi,h⟩
  have hl:=List.mem_range.mp hi
  rw[List.getElem?_eq_getElem hl] at h
  exact⟨_,List.getElem_mem hl,h⟩
 ·rintro⟨b,hb,h⟩
  obtain⟨i,hi,e⟩:=List.mem_iff_getElem.mp hb
  exact⟨i,List.mem_range.mpr hi,by rw[List.getElem?_eq_getElem hi,e];exact h⟩
theorem zpn{X:Cx}{K:PySem.W.Frag}(hc:X.calm=true)(hK:X.K=K:=by rfl):zdf X (.builtin "any") (fun xs H Q=>∃(p:Addr)(bs:List Bool),xs=[.ref p]∧SqL K H p (bs.map V.bl)∧Q (.bl (bs.any id)) H):=by
 subst hK
 intro pins s σ H xs us Q I r h
 obtain⟨p,bs,rfl,hq,q⟩:=h
 obtain⟨u,rfl,rx⟩:=zfb r
 cases rx
 obtain⟨ae,rv,pl,hz⟩:=I.list hq
 have hl:=pl.isList
 have af:p<s.heap.objs.size:=by obtain⟨_,e,_⟩:=hl;exact Heap.lt_size e
 have ad:=rv.length
 rw[List.length_map] at ad
 refine call_any_walk (wpAny_pyIter_list hl ?_)
 refine⟨s.heap.objs.size,[s.heap.objs.size,p],[s.heap.objs.size],ae.toArray.size,_,_,fun i=>(bs[i]?).getD false,rfl,Walks.list (A:=X.A.in1) (I.ok.hd hc) _ p (Nat.ne_of_lt af) ae.toArray,
  ⟨⟨_,Heap.get?_push_size _ rfl,rfl,rfl⟩,hl.push _⟩,fun i v s' Q' E' hP hQ=>?_,fun h' tk hk=>?_⟩
 ·have e:ae[i]?=some v:=by simpa using hP
  have hi:i<bs.length:=by
   have:=(List.getElem?_eq_some_iff.mp e).1
   omega
  obtain⟨u,hu,ru⟩:=rv.get (i:=i) (x:=.bl bs[i]) (by rw[List.getElem?_map,List.getElem?_eq_getElem hi];rfl)
  rw[e] at hu
  cases hu
  cases(show v=Value.bool bs[i] from ru)
  dsimp only at hQ
  rw[List.getElem?_eq_getElem hi] at hQ
  exact wpAny_truthy_bool hQ
 ·have e:((List.range ae.toArray.size).any fun i=>(bs[i]?).getD false)=bs.any id:=by
   rw[List.size_toArray,←ad]
   exact zts bs
  rw[e]
  refine⟨.bl _,H,I.kept (t':=tk) fun b o eb=>hk b o (fun hm=>?_) (Heap.get?_push_of_some _ eb),rfl,q⟩
  rw[List.mem_singleton.mp hm] at eb
  exact Nat.lt_irrefl _ (Heap.lt_size eb)
end L2
namespace Wd
open PySem L2 Ow
theorem zpv{H:Hp}{a:Addr}{o o':HO}(h:H a=some o)(no:∀xs,o≠.tup xs):zmb H (upd H a o'):=fun b xs hb=>by
 have n:b≠a:=fun z=>by
  rw[z,h] at hb
  exact no xs (Option.some.inj hb)
 rw[zaq n]
 exact hb
theorem zA1{x:V}{xs:List V}:atI (x::xs) 0=some x:=by
 unfold atI ixN
 rw[if_pos (by decide)]
 simp
theorem Pen.same{K:PySem.W.Frag}{H H':Hp}{pen sp:Addr}{ns:List Int}{k:Int}(p:Pen K H pen sp ns k)(s:Same H H'):Pen K H' pen sp ns k:=p.to (Same.x s) (s _ _ p.at_)
theorem zk3:∀{m:Nat} {l:List Nat},l.Nodup→(∀k∈l,k<m)→l.length≤m
 |0,[],_,_=>Nat.le_refl _
 |0,k::l,_,h=>absurd (h k List.mem_cons_self) (Nat.not_lt_zero _)
 |m+1,l,nd,h=>by
  have h1:(l.filter (·≠m)).length≤m:=zk3 (nd.filter _) fun k hk=>by
   obtain⟨a,b⟩:=List.mem_filter.mp hk
   have:=h k a
   have:k≠m:=by simpa using b
   omega
  have h2:l.length≤(l.filter (·≠m)).length+1:=by
   clear h1 h
   induction l with
   |nil=>exact Nat.zero_le _
   |cons x l ih=>
    obtain⟨hx,ad⟩:=List.nodup_cons.mp nd
    by_cases e:x=m
    ·have:l.filter (·≠m)=l:=List.filter_eq_self.mpr fun k hk=>by
      have:k≠m:=fun z=>hx (by rw[e,←z];exact hk)
      simpa using this
     rw[List.filter_cons_of_neg (by simpa using e),this]
     exact Nat.le_refl _
    ·rw[List.filter_cons_of_pos (by simpa using e)]
     have:=ih ad
     simp only[List.length_cons]
     omega
  omega
end Wd
namespace L2
open PySem PySem.Spec
theorem zyz{X:Cx}{K:PySem.W.Frag}(h:X.K=K:=by rfl):zdf X (.type "tuple") (fun xs H Q=>∃p ys,xs=[V.ref p]∧((SqL K H p ys∧∀l,H l=none→Q (.ref l) (upd H l (.tup ys)))∨SqT K H p ys∧Q (.ref p) H)):=h▸zbr
end L2
namespace Wd
open PySem L2 Ow
def zu8(K:PySem.W.Frag):Sp:=fun vs H Q _=>∃(pen sp:Addr)(ns:List Int)(tk:Addr)(u:Int)(kids:List Int)(m:Int)(k:Int),vs=[.ref pen,.int u,.ref tk]∧Pen K H pen sp ns k∧0≤k∧k≤950000∧H tk=some (.tup (kids.map V.int))∧kids.length≤9∧0≤u∧kids≠[]∧zbs m (kids.map PyData.int) u=true ∧
 ∀(d:PyData)(v:V)(k':Int)(H':Hp),SameX pen H H'→H' pen=some (.lst [.ref sp,.int k'])→k≤k'→k'≤k+3→Dn H' d v→zf9 m d=true→zbd 3 d=true→zok d=kids→Q v H'
def zp7(K:PySem.W.Frag):Sp:=fun vs H Q _=>∃(pen sp:Addr)(ns:List Int)(m:Nat)(k:Int),vs=[.ref pen,.int (m:Int)]∧Pen K H pen sp ns k∧0≤k∧k≤900000∧1≤m∧m≤9 ∧
 ∀(c:PyData)(v:V)(k':Int)(H':Hp),SameX pen H H'→H' pen=some (.lst [.ref sp,.int k'])→k≤k'→k'≤k+30→Dn H' c v→zk0 m c=true→zbd 3 c=true→Q v H'
def zu6(K:PySem.W.Frag):Sp:=fun vs H Q _=>∃(pen sp:Addr)(ns:List Int)(m:Nat)(k:Int),vs=[.ref pen,.int (m:Int)]∧Pen K H pen sp ns k∧0≤k∧k≤800000∧1≤m∧m≤9 ∧
 ∀(c:PyData)(v:V)(k':Int)(H':Hp),SameX pen H H'→H' pen=some (.lst [.ref sp,.int k'])→k≤k'→k'≤k+31→Dn H' c v→zk0 m c=true→zbd 3 c=true→Q v H'
def zw3(K:PySem.W.Frag):Sp:=fun vs H Q _=>∃(pen sp:Addr)(ns:List Int)(k:Int),vs=[.ref pen]∧Pen K H pen sp ns k∧0≤k∧k≤700000 ∧
 ∀(wd:Addr)(m:Nat)(bs cs:List PyData)(k':Int)(H':Hp),SameX pen H H'→H' pen=some (.lst [.ref sp,.int k'])→k≤k'→k'≤k+400→1≤m→m≤9→WoodX H' wd m bs cs→cs.length≤8→Q (.ref wd) H'
def zyu:Sp:=fun vs H Q _=>∃(n k:Nat),vs=[.int (n:Int),.int (k:Int)]∧k≤20∧Q (.bl (n.testBit k)) H
theorem zxh(n k:Nat):decide (V.int ((n:Int)/((2^k:Nat):Int)%2)=V.int 1)=n.testBit k:=by
 have e:(n:Int)/((2^k:Nat):Int)%2=((n/2^k%2:Nat):Int):=by
  rw[Int.natCast_emod,Int.natCast_ediv]
  rfl
 rw[e,Nat.testBit_eq_decide_div_mod_eq,Bool.eq_iff_iff,decide_eq_true_iff,decide_eq_true_iff]
 constructor
 ·intro h
  injection h with h
  omega
 ·intro h
  rw[h]
  rfl
theorem zvb{m:Nat}{top:Int}{ps:List PyData}(pok:ps.all zjo=true)(pri:zbs (m:Int) (ps.map ztx) (-1)=true)(p0:0<ps.length):zk0 m (.tuple [.str ("most" : Str),.int top,.tuple ps])=true:=by
 show zti m ("most" : Str) (.int top) (.tuple ps)=true
 unfold zti
 rw[if_pos rfl]
 show(true&&(decide (0<ps.length)&&ps.all zjo&&zbs m (ps.map ztx) (-1)))=true
 rw[decide_eq_true p0,pok,pri]
 rfl
theorem znf{m:Nat}{top:Int}{ps:List PyData}(pfl:ps.all (zbd 1)=true)(pfw:ps.length≤1000):zbd 3 (.tuple [.str ("most" : Str),.int top,.tuple ps])=true:=by
 have f2:zbd 2 (.tuple ps)=true:=by
  show(decide (ps.length≤1000)&&ps.all (zbd 1))=true
  rw[decide_eq_true pfw,pfl]
  rfl
 show(true&&(zbd 2 (.str ("most" : Str))&&(zbd 2 (.int top)&&(zbd 2 (.tuple ps)&&true))))=true
 rw[show zbd 2 (.str ("most" : Str))=true from zr4,f2]
 rfl
theorem _root_.Ow.PairsTo.snoc{H:Hp}{i:Nat}{ps:List PyData}{xs:List V}{tp:Addr}{x:Int}(pt:PairsTo H i ps xs)(h:H tp=some (.tup [.int (i:Int),.int x])):PairsTo H (i+1) (ps++[.tuple [.int (i:Int),.int x]]) (xs++[.ref tp]):=by
 refine⟨?_,?_,?_,?_,?_⟩
 ·exact pt.dn.append ⟨_,[],rfl,⟨tp,_,rfl,h,_,_,rfl,rfl,_,_,rfl,rfl,rfl⟩,rfl⟩
 ·rw[List.all_append,pt.ok]
  rfl
 ·rw[List.all_append,pt.flat]
  rfl
 ·rw[List.map_append]
  show zbs ((i+1:Nat):Int) (ps.map ztx++[.int (i:Int)]) (-1)=true
  exact zez (by omega) pt.ris (by omega)
 ·rw[List.length_append,List.length_singleton]
  have:=pt.few
  omega
theorem _root_.Ow.PairsTo.up{H:Hp}{i:Nat}{ps:List PyData}{xs:List V}(pt:PairsTo H i ps xs):PairsTo H (i+1) ps xs:=⟨pt.dn,pt.ok,pt.flat,zew (by omega) pt.ris,Nat.le_succ_of_le pt.few⟩
theorem _root_.Ow.PairsTo.tupS{H H':Hp}(t:zmb H H'){i:Nat}{ps:List PyData}{xs:List V}(pt:PairsTo H i ps xs):PairsTo H' i ps xs:=⟨DnL.tupS t pt.flat pt.dn,pt.ok,pt.flat,pt.ris,pt.few⟩
theorem zt6{H:Hp}{m:Nat}{tp:Addr}{o x:Int}(o0:0≤o)(o1:o<m)(h:H tp=some (.tup [.int o,.int x])):PairsTo H m [.tuple [.int o,.int x]] [.ref tp]:=by
 refine⟨⟨_,[],rfl,⟨tp,_,rfl,h,_,_,rfl,rfl,_,_,rfl,rfl,rfl⟩,rfl⟩,rfl,rfl,?_,by show 1≤m;omega⟩
 have:=zez (m:=(m:Int)) (j:=o) o1 (ks:=[]) (u := -1) rfl (by omega)
 exact this
end Wd
namespace L2
open PySem PySem.Spec PyProof.Rows
section
variable {X : Cx}
theorem zp5{ns:List Int}{i:Nat}(h:i<ns.length):ns.getD i 0=ns[i]:=by
 rw[List.getD_eq_getElem?_getD,List.getElem?_eq_getElem h]
 rfl
theorem zgd{s:Shared}{p:Addr}{its:List Value}(pl:s.heap.IsList p its.toArray):p<s.heap.objs.size:=by
 obtain⟨o,e,_⟩:=pl
 exact Heap.lt_size e
theorem ztu{K:PySem.W.Frag}(hc:X.calm=true)(hK:X.K=K:=by rfl):zdf X (.builtin "min") (fun xs H Q=>∃(p:Addr)(ns:List Int),xs=[.ref p]∧SqL K H p (ns.map V.int)∧0<ns.length∧∀M,M∈ns→(∀a∈ns,M≤a)→Q (.int M) H):=by
 intro pins s σ H xs us Q I r h
 subst hK
 obtain⟨p,ns,rfl,hq,ah,q⟩:=h
 obtain⟨u,rfl,rx⟩:=zfb r
 cases rx
 obtain⟨ad,rv,pl,af⟩:=I.list hq
 have hi:=zgb rv
 have hl:=rv.length
 rw[List.length_map] at hl
 have T:=pl.isList
 have lt:=zgd T
 refine call_min_walk (wpAny_pyIter_list T ?_)
 refine⟨_,_,_,_,_,_,fun i j=>decide (ns.getD i 0<ns.getD j 0),rfl,Walks.list (A:=X.A.in1) (I.ok.hd hc) s.heap.objs.size p (Nat.ne_of_lt lt) ad.toArray,⟨⟨_,Heap.get?_push_size _ rfl,rfl,rfl⟩,T.push _⟩,fun b hb=>?_,by rw[List.size_toArray];omega,CmpOf.ints_lt (fun i=>ns.getD i 0) (fun i v hv=>?_),fun v h' tk hP hk=>?_⟩
 ·show b<(s.heap.push _).objs.size
  rw[Heap.size_push]
  simp only[List.mem_cons,List.not_mem_nil,or_false] at hb
  rcases hb with rfl|rfl
  ·exact Nat.lt_succ_self _
  ·exact Nat.lt_succ_of_lt lt
 ·exact IntsAre.int_at hi i v (by rw[List.getElem?_toArray] at hv;exact hv)
 ·obtain⟨t,rfl⟩:=IntsAre.int_at hi _ v (by rw[List.getElem?_toArray] at hP;exact hP)
  obtain⟨b1,b2⟩:=argBest_lt (fun i=>ns.getD i 0) (ad.toArray.size-1)
  rw[List.size_toArray] at b1 b2
  have hj:argBest (fun i j=>decide (ns.getD i 0<ns.getD j 0)) (ad.toArray.size-1)<ns.length:=by
   rw[List.size_toArray]
   have:ad.length-1<ns.length:=by omega
   exact Nat.lt_of_le_of_lt b1 this
  refine⟨.int _,H,I.kept (t':=tk) fun b o e=>hk b o (fun hm=>?_) (Heap.get?_push_of_some _ e),⟨t,rfl⟩,q _ (getD_mem hj) fun a ha=>?_⟩
  ·have:b=s.heap.objs.size:=by simpa using hm
   exact absurd (this▸Heap.lt_size e) (Nat.lt_irrefl _)
  ·obtain⟨j,ae,rfl⟩:=List.getElem_of_mem ha
   have:=b2 j (by omega)
   rw[←zp5 ae]
   rw[List.size_toArray]
   exact this
theorem zs3{K:PySem.W.Frag}(hc:X.calm=true)(hK:X.K=K:=by rfl):zdf X (.builtin "max") (fun xs H Q=>∃(p:Addr)(ns:List Int),xs=[.ref p]∧SqL K H p (ns.map V.int)∧0<ns.length∧∀M,M∈ns→(∀a∈ns,a≤M)→Q (.int M) H):=by
 intro pins s σ H xs us Q I r h
 subst hK
 obtain⟨p,ns,rfl,hq,ah,q⟩:=h
 obtain⟨u,rfl,rx⟩:=zfb r
 cases rx
 obtain⟨ad,rv,pl,af⟩:=I.list hq
 have hi:=zgb rv
 have hl:=rv.length
 rw[List.length_map] at hl
 have T:=pl.isList
 have lt:=zgd T
 refine call_max_walk (wpAny_pyIter_list T ?_)
 refine⟨_,_,_,_,_,_,fun i j=>decide (ns.getD i 0>ns.getD j 0),rfl,Walks.list (A:=X.A.in1) (I.ok.hd hc) s.heap.objs.size p (Nat.ne_of_lt lt) ad.toArray,⟨⟨_,Heap.get?_push_size _ rfl,rfl,rfl⟩,T.push _⟩,fun b hb=>?_,by rw[List.size_toArray];omega,CmpOf.ints_gt (fun i=>ns.getD i 0) (fun i v hv=>?_),fun v h' tk hP hk=>?_⟩
 ·show b<(s.heap.push _).objs.size
  rw[Heap.size_push]
  simp only[List.mem_cons,List.not_mem_nil,or_false] at hb
  rcases hb with rfl|rfl
  ·exact Nat.lt_succ_self _
  ·exact Nat.lt_succ_of_lt lt
 ·exact IntsAre.int_at hi i v (by rw[List.getElem?_toArray] at hv;exact hv)
 ·obtain⟨t,rfl⟩:=IntsAre.int_at hi _ v (by rw[List.getElem?_toArray] at hP;exact hP)
  obtain⟨b1,b2⟩:=argBest_gt (fun i=>ns.getD i 0) (ad.toArray.size-1)
  rw[List.size_toArray] at b1 b2
  have hj:argBest (fun i j=>decide (ns.getD i 0>ns.getD j 0)) (ad.toArray.size-1)<ns.length:=by
   rw[List.size_toArray]
   have:ad.length-1<ns.length:=by omega
   exact Nat.lt_of_le_of_lt b1 this
  refine⟨.int _,H,I.kept (t':=tk) fun b o e=>hk b o (fun hm=>?_) (Heap.get?_push_of_some _ e),⟨t,rfl⟩,q _ (getD_mem hj) fun a ha=>?_⟩
  ·have:b=s.heap.objs.size:=by simpa using hm
   exact absurd (this▸Heap.lt_size e) (Nat.lt_irrefl _)
  ·obtain⟨j,ae,rfl⟩:=List.getElem_of_mem ha
   have:=b2 j (by omega)
   rw[←zp5 ae]
   rw[List.size_toArray]
   exact this
def zzb:V→List V→Hp→VK→Prop:=fun x vs H Q=>∃(l:Addr)(xs:List V)(y:V)(j:Nat),x=.ref l∧vs=[y]∧H l=some (.lst xs)∧zgq y=true∧xs.all zgq=true∧(xs[j]?.map fun z=>eqV z y)=some true∧(∀i,i<j→(xs[i]?.map fun z=>eqV z y)=some false)∧Q (.int (j:Int)) H
theorem zgr:MtM X "list.index" zzb:=by
 intro pins s σ H x vs v us Q I rx rv h
 obtain⟨l,xs,y,j,rfl,rfl,hH,fy,fs,hj,ae,q⟩:=h
 cases rx
 obtain⟨u,rfl,ru⟩:=rv.one
 obtain⟨z,ad,n,r,hl,e⟩:=I.lstM hH
 have aj:=r.length
 have jl:j<xs.length:=by
  rcases Nat.lt_or_ge j xs.length with z|z
  ·exact z
  ·rw[List.getElem?_eq_none z] at hj
   cases hj
 have at_:∀i (h1:i<xs.length) (h2:i<ad.length),eqU y ad[i]=eqV xs[i] y:=by
  intro i h1 h2
  obtain⟨w,hw,rr⟩:=r.get (List.getElem?_eq_getElem h1)
  rw[List.getElem?_eq_getElem h2] at hw
  cases hw
  exact zrv rr (List.all_eq_true.mp fs _ (List.getElem_mem h1))
 have ah:(j:Int)<2^63-1:=by
  have ai:((xs.length:Nat):Int)<((2^63:Nat):Int):=Int.ofNat_lt.mpr (Nat.lt_of_le_of_lt z zjc)
  have ak:((2^63:Nat):Int)=2^63:=rfl
  omega
 refine call_meets F.slot_list_index ⟨_,e,rfl⟩ F.entry_list_index (F.args_list_index_2 _ _) (SeqAt.list_indexAt l ad.toArray n none #[] u (eqU y) j (by rw[List.size_toArray];omega) ah ?_ ?_) ⟨e,fun w hw=>zfj ru fy r fs w (by simpa using hw),?_⟩
 ·rw[List.getElem_toArray,at_ j jl (by omega)]
  rw[List.getElem?_eq_getElem jl] at hj
  exact Option.some.inj hj
 ·intro i hi af
  rw[List.size_toArray] at hi
  rw[List.getElem_toArray,at_ i (by omega) hi]
  have:=ae i af
  rw[List.getElem?_eq_getElem (by omega)] at this
  exact Option.some.inj this
 ·exact⟨.int (j:Int),H,I.tok _,⟨_,rfl⟩,q⟩
end
def zzy(W:XK)(K:PySem.W.Frag)(C:Addr)(tb ts:TS):TS:=fun D σ H=>tb D σ H∧∀(σ':St)(H':Hp)(ea Dc:Addr),σ'.length=σ.length→W (.ref Dc) none H'→H' ea=none →
 PySem.W.excIn K Dc zpf zod=true∧zva K Dc C=true∧ts { nx:=D.nx,rt:=fun _ _=>False } σ' H'
theorem zsm{X:Cx}{body suite:List Stmt}{b0:Stmt}{x:Str}{C:Addr}{tb ts:TS}{W:XK}{np hpos pos:Pos}(hst:X.stack=X.env::X.outer)(hfr:X.env.frame=some X.env.locals)(hb:∀pins,PSs (X.tryX pins W) body tb)(hg:Gl X x)(hm:X.mg x=some (.ref C))(hC:PySem.W.excIn X.K C zpf zod=true)
  (hs:∀ea,PSs (X.markX ea) (b0::suite) ts) (hd:(x==("__debug__" : Str))=false:=by decide):
  PS X (.Try body [.ExceptHandler (some (.Name x np)) none (b0::suite) hpos] [] [] pos) (zzy W X.K C tb ts):=by
 intro pins s σ H D I h
 refine wpAny_Try_except (wpAny_mono (hb pins [] s σ H D (I.toTry W) h.1) (fun f s1 q=>?_) fun e s1 q=>?_)
 ·cases f with
  |next=>exact wpAny_execs_nil (SP.ofTry q)
  |brk=>exact SP.ofTry q
  |cont=>exact SP.ofTry q
  |ret u=>exact SP.ofTry q
 obtain⟨σ1,H0,s0,H1,ea,Dc,a0,B,rfl,I0,I1,fl,kB,af,hW⟩:=q
 obtain⟨r1,r2,r3⟩:=h.2 σ1 H1 ea Dc (I1.len.trans I.len.symm) hW af
 rw[hst] at fl
 refine wpAny_looks_onW (by rw[←hst];exact I.ok.frames) hfr fl fun h2 ah u2=>?_
 refine wpAny_landsW ah fun h3 ad u3=>?_
 have I3:=I0.upto I1 (fun b o e n hb=>ad.1 _ _ (kB b o e n hb)) (u2.trans u3)
 obtain⟨bC,xC⟩:=XCls.mk' I3.kIn hC
 obtain⟨bD,xD⟩:=XCls.mk' I3.kIn r1
 obtain⟨oe,he,ae⟩:=ad.there
 refine wpAny_handleBy_cons (codeAny_handlers_test (zkj (I3.toMark ea) hg hm ?_ hd)) (by intro q;cases q)
 refine zpm xC xD he ae (zxi I3.kIn xD r2) ?_
 refine codeAny_handlers_suite ?_
 refine lands_againW ad fun h4 ai u4=>?_
 have I4:=I0.upto I1 (fun b o e n hb=>ai.1 _ _ (kB b o e n hb)) ((u2.trans u3).trans u4)
 refine wpAny_mono (hs ea pins _ _ _ _ (I4.toMark ea) r3) (fun f s6 q=>?_) fun _ _ z=>False.elim z
 cases f with
 |next=>
  obtain⟨σ7,H7,I7,q7⟩:=q
  exact⟨_,H7,I7.ofMark I.ok.hd,q7⟩
 |brk=>obtain⟨_,_,_,q7⟩:=q;exact False.elim q7
 |cont=>obtain⟨_,_,_,q7⟩:=q;exact False.elim q7
 |ret u=>obtain⟨_,_,_,_,_,q7⟩:=q;exact False.elim q7
end L2
namespace Wd
open PySem L2 Ow
def mv:List Nat→Nat→Nat
 |[],_=>0
 |x::r,k=>if x=k then 0 else mv r k+1
theorem zgh{k:Nat}:∀{l:List Nat},k∈l→l[mv l k]?=some k
 |x::r,h=>by
  unfold mv
  by_cases e:x=k
  ·rw[if_pos e,e];rfl
  ·rw[if_neg e,List.getElem?_cons_succ]
   exact zgh ((List.mem_cons.mp h).resolve_left fun z=>e z.symm)
theorem zem{k:Nat}{l:List Nat}(h:k∈l):mv l k<l.length:=(List.getElem?_eq_some_iff.mp (zgh h)).1
theorem zyc{k:Nat}:∀{l:List Nat} {i x:Nat},i<mv l k→l[i]?=some x→x≠k
 |[],_,_,h,_=>absurd h (Nat.not_lt_zero _)
 |y::r,i,x,h,e=>by
  unfold mv at h
  by_cases z:y=k
  ·rw[if_pos z] at h;exact absurd h (Nat.not_lt_zero _)
  ·rw[if_neg z] at h
   cases i with
   |zero=>cases e;exact z
   |succ i=>exact zyc (l:=r) (i:=i) (by omega) (by rw[List.getElem?_cons_succ] at e;exact e)
theorem zg9{a b:Nat}{l:List Nat}(pw:l.Pairwise (·<·))(ha:a∈l)(hb:b∈l)(h:a<b):mv l a<mv l b:=by
 rcases Nat.lt_or_ge (mv l a) (mv l b) with z|z
 ·exact z
 ·obtain⟨ia,ea⟩:=List.getElem?_eq_some_iff.mp (zgh ha)
  obtain⟨ib,eb⟩:=List.getElem?_eq_some_iff.mp (zgh hb)
  rcases Nat.eq_or_lt_of_le z with y|y
  ·simp only[y] at eb
   omega
  ·have:=List.pairwise_iff_getElem.mp pw _ _ ib ia y
   omega
theorem zeo{l:List Nat}{k:Nat}(h:k∈l):((zaj l)[mv l k]?.map fun z=>eqV z (.int (k:Int)))=some true∧∀i,i<mv l k→((zaj l)[i]?.map fun z=>eqV z (.int (k:Int)))=some false:=by
 constructor
 ·rw[List.getElem?_map,zgh h]
  show some ((k:Int)==(k:Int))=some true
  rw[beq_self_eq_true]
 ·intro i hi
  have il:i<l.length:=Nat.lt_trans hi (zem h)
  have n:=zyc hi (List.getElem?_eq_getElem il)
  rw[List.getElem?_map,List.getElem?_eq_getElem il]
  show some (((l[i]:Nat):Int)==(k:Int))=some false
  congr 1
  rw[beq_eq_false_iff_ne]
  omega
def zng(f:Nat→Bool):Nat→Nat
 |0=>0
 |n+1=>zng f n|||(if f n=true then 2^n else 0)
theorem zf8(f:Nat→Bool):∀n k,(zng f n).testBit k=(decide (k<n)&&f k)
 |0,k=>by
  show(0:Nat).testBit k=_
  rw[Nat.zero_testBit]
  rfl
 |n+1,k=>by
  show(zng f n|||_).testBit k=_
  rw[Nat.testBit_or,zf8 f n k]
  by_cases e:k=n
  ·subst e
   rw[decide_eq_false (Nat.lt_irrefl _),Bool.false_and,Bool.false_or,decide_eq_true (Nat.lt_succ_self _),Bool.true_and]
   cases f k
   ·rw[if_neg Bool.false_ne_true,Nat.zero_testBit]
   ·rw[if_pos rfl,Nat.testBit_two_pow_self]
  ·have e2:(if f n=true then 2^n else 0:Nat).testBit k=false:=by
    split
    ·rw[Nat.testBit_two_pow];exact decide_eq_false (Ne.symm e)
    ·exact Nat.zero_testBit _
   rw[e2,Bool.or_false]
   congr 1
   by_cases z:k<n
   ·rw[decide_eq_true z,decide_eq_true (by omega)]
   ·rw[decide_eq_false z,decide_eq_false (by omega)]
def zdd(kept:List Nat)(w:Nat):Nat:=zng (fun i=>w.testBit (kept.getD i 0)) kept.length
theorem zr6(kept:List Nat)(w:Nat):zdd kept w<2^kept.length:=Nat.lt_pow_two_of_testBit _ fun k hk=>by
 unfold zdd
 rw[zf8,decide_eq_false (by omega)]
 rfl
theorem zck{kept:List Nat}{w k:Nat}(h:k∈kept):(zdd kept w).testBit (mv kept k)=w.testBit k:=by
 unfold zdd
 rw[zf8,decide_eq_true (zem h),Bool.true_and,List.getD_eq_getElem?_getD,zgh h]
 rfl
def mvB(kept:List Nat)(b:Bg):Option Bg:=if b.ks.filter (fun k=>decide (k∈kept))=[] then none else some ⟨mv kept b.u,b.lo,b.hi,(b.ks.filter (fun k=>decide (k∈kept))).map (mv kept)⟩
def mvT(kept:List Nat):Tie→Option Tie
 |.bough u lo hi ks=>(mvB kept ⟨u,lo,hi,ks⟩).map Bg.tie
 |.needs a b=>if a∈kept∧b∈kept then some (.needs (mv kept a) (mv kept b)) else none
 |.bans a b=>if a∈kept∧b∈kept then some (.bans (mv kept a) (mv kept b)) else none
 |.most top ps=>if ps.filter (fun p=>decide (p.1∈kept))=[] then none else some (.most top ((ps.filter (fun p=>decide (p.1∈kept))).map fun p=>(mv kept p.1,p.2)))
theorem zyd{kept ks:List Nat}(pw:kept.Pairwise (·<·))(pk:ks.Pairwise (·<·))(h:∀k∈ks,k∈kept):(ks.map (mv kept)).Pairwise (·<·):=by
 rw[List.pairwise_map]
 exact pk.imp_of_mem fun ha hb ad=>zg9 pw (h _ ha) (h _ hb) ad
theorem zn2{kept:List Nat}{m:Nat}{b b':Bg}(pw:kept.Pairwise (·<·))(ok:Tie.BoughOkW m b.u b.lo b.hi b.ks)(up:(∃k∈b.ks,k∈kept)→b.u∈kept)(h:mvB kept b=some b'):Tie.BoughOkW kept.length b'.u b'.lo b'.hi b'.ks:=by
 unfold mvB at h
 split at h
 ·cases h
 ·rename_i ne
  cases h
  obtain⟨k,hk⟩:=List.exists_mem_of_ne_nil _ ne
  have ae:=List.mem_filter.mp hk
  have hu:=up ⟨k,ae.1,of_decide_eq_true ae.2⟩
  have ad:∀k∈b.ks.filter (fun k=>decide (k∈kept)),k∈kept:=fun k hk=>of_decide_eq_true (List.mem_filter.mp hk).2
  have pk:=zyd pw (ok.ris.filter _) ad
  refine⟨zem hu,fun z=>ne (List.map_eq_nil_iff.mp z),fun k hk=>?_,pk,?_,ok.lo0,ok.lohi⟩
  ·obtain⟨j,hj,rfl⟩:=List.mem_map.mp hk
   exact⟨zg9 pw hu (ad j hj) (ok.up j (List.mem_filter.mp hj).1).1,zem (ad j hj)⟩
  ·have:∀k∈(b.ks.filter (fun k=>decide (k∈kept))).map (mv kept),k<kept.length:=fun k hk=>by
    obtain⟨j,hj,rfl⟩:=List.mem_map.mp hk
    exact zem (ad j hj)
   exact zk3 (pk.imp fun a=>Nat.ne_of_lt a) this
theorem zou{kept:List Nat}{m:Nat}{t t':Tie}(pw:kept.Pairwise (·<·))(ok:t.Ok m)(nb:∀u lo hi ks,t≠.bough u lo hi ks)(h:mvT kept t=some t'):t'.Ok kept.length:=by
 cases t with
 |bough u lo hi ks=>exact absurd rfl (nb u lo hi ks)
 |needs a b=>
  simp only[mvT] at h
  split at h
  ·rename_i ad
   cases h
   refine⟨zem ad.1,zem ad.2,?_⟩
   rcases Nat.lt_or_gt_of_ne ok.2.2 with z|z
   ·have:=zg9 pw ad.1 ad.2 z;omega
   ·have:=zg9 pw ad.2 ad.1 z;omega
  ·cases h
 |bans a b=>
  simp only[mvT] at h
  split at h
  ·rename_i ad
   cases h
   refine⟨zem ad.1,zem ad.2,?_⟩
   rcases Nat.lt_or_gt_of_ne ok.2.2 with z|z
   ·have:=zg9 pw ad.1 ad.2 z;omega
   ·have:=zg9 pw ad.2 ad.1 z;omega
  ·cases h
 |most top ps=>
  simp only[mvT] at h
  split at h
  ·cases h
  ·rename_i ne
   cases h
   obtain⟨_,_,pp,_⟩:=ok
   have ae:∀p∈ps.filter (fun p=>decide (p.1∈kept)),p.1∈kept:=fun p hp=>of_decide_eq_true (List.mem_filter.mp hp).2
   have e:((ps.filter (fun p=>decide (p.1∈kept))).map fun p=>(mv kept p.1,p.2)).map (·.1)=((ps.filter (fun p=>decide (p.1∈kept))).map (·.1)).map (mv kept):=by
    rw[List.map_map,List.map_map]
    rfl
   have pk:(((ps.filter (fun p=>decide (p.1∈kept))).map (·.1)).map (mv kept)).Pairwise (·<·):=zyd pw (pp.sublist (List.Sublist.map _ List.filter_sublist)) fun k hk=>by
    obtain⟨p,hp,rfl⟩:=List.mem_map.mp hk
    exact ae p hp
   have lt:∀k∈((ps.filter (fun p=>decide (p.1∈kept))).map (·.1)).map (mv kept),k<kept.length:=fun k hk=>by
    obtain⟨j,hj,rfl⟩:=List.mem_map.mp hk
    obtain⟨p,hp,rfl⟩:=List.mem_map.mp hj
    exact zem (ae p hp)
   refine⟨fun z=>ne (List.map_eq_nil_iff.mp z),fun p hp=>?_,by rw[e];exact pk,?_⟩
   ·obtain⟨q,hq,rfl⟩:=List.mem_map.mp hp
    exact zem (ae q hq)
   ·have:=zk3 (pk.imp fun a=>Nat.ne_of_lt a) lt
    rw[List.length_map,List.length_map] at this
    rw[List.length_map]
    exact this
theorem zvi{kept ks:List Nat}{w:Nat}(h:∀k∈ks,w.testBit k=true→k∈kept):cnt ((ks.filter (fun k=>decide (k∈kept))).map (mv kept)) (zdd kept w)=cnt ks w:=by
 unfold cnt
 rw[List.filter_map,List.length_map]
 have e:((ks.filter fun k=>decide (k∈kept)).filter ((fun k=>(zdd kept w).testBit k)∘mv kept))=ks.filter fun k=>w.testBit k:=by
  rw[List.filter_filter]
  refine List.filter_congr fun k hk=>?_
  rw[Function.comp_apply]
  by_cases z:k∈kept
  ·rw[zck z,decide_eq_true z,Bool.and_true]
  ·rw[decide_eq_false z,Bool.and_false]
   symm
   rw[Bool.eq_false_iff]
   exact fun y=>z (h k hk y)
 rw[e]
theorem zwk{kept:List Nat}{ps:List (Nat×Int)}{w:Nat}(h:∀p∈ps,w.testBit p.1=true→p.1∈kept):zdv ((ps.filter (fun p=>decide (p.1∈kept))).map fun p=>(mv kept p.1,p.2)) (fun p=>(zdd kept w).testBit p.1)=zdv ps (fun p=>w.testBit p.1):=by
 unfold zdv
 rw[List.filter_map,List.map_map]
 have e:((ps.filter fun p=>decide (p.1∈kept)).filter ((fun p=>(zdd kept w).testBit p.1)∘fun p=>(mv kept p.1,p.2)))=ps.filter fun p=>w.testBit p.1:=by
  rw[List.filter_filter]
  refine List.filter_congr fun p hp=>?_
  rw[Function.comp_apply]
  by_cases z:p.1∈kept
  ·rw[zck z,decide_eq_true z,Bool.and_true]
  ·rw[decide_eq_false z,Bool.and_false]
   symm
   rw[Bool.eq_false_iff]
   exact fun y=>z (h p hp y)
 rw[e]
 rfl
theorem zwd{kept:List Nat}{w:Nat}{b b':Bg}(hw:∀k,w.testBit k=true→k∈kept)(up:(∃k∈b.ks,k∈kept)→b.u∈kept)(h:mvB kept b=some b')(hk:b.tie.keep w=true):b'.tie.keep (zdd kept w)=true:=by
 unfold mvB at h
 split at h
 ·cases h
 ·rename_i ne
  cases h
  obtain⟨k,ae⟩:=List.exists_mem_of_ne_nil _ ne
  have ad:=List.mem_filter.mp ae
  have hu:=up ⟨k,ad.1,of_decide_eq_true ad.2⟩
  show(if (zdd kept w).testBit (mv kept b.u)=true then _ else _)=true
  rw[zck hu,zvi fun k _ h=>hw k h]
  exact hk
theorem zwo{kept:List Nat}{w:Nat}{t t':Tie}(hw:∀k,w.testBit k=true→k∈kept)(nb:∀u lo hi ks,t≠.bough u lo hi ks)(h:mvT kept t=some t')(hk:t.keep w=true):t'.keep (zdd kept w)=true:=by
 cases t with
 |bough u lo hi ks=>exact absurd rfl (nb u lo hi ks)
 |needs a b=>
  simp only[mvT] at h
  split at h
  ·rename_i ad
   cases h
   show(!(zdd kept w).testBit (mv kept a)||(zdd kept w).testBit (mv kept b))=true
   rw[zck ad.1,zck ad.2]
   exact hk
  ·cases h
 |bans a b=>
  simp only[mvT] at h
  split at h
  ·rename_i ad
   cases h
   show(!(zdd kept w).testBit (mv kept a)||!(zdd kept w).testBit (mv kept b))=true
   rw[zck ad.1,zck ad.2]
   exact hk
  ·cases h
 |most top ps=>
  simp only[mvT] at h
  split at h
  ·cases h
  ·cases h
   show decide (zdv _ _≤top)=true
   rw[zwk fun p _ h=>hw p.1 h]
   exact hk
def zas(m:Nat)(ts:List Tie):List Nat:=(List.range m).filter fun k=>(zaz m ts).any fun w=>w.testBit k
theorem mem_keptL{m:Nat}{ts:List Tie}{k:Nat}:k∈zas m ts↔k<m∧∃w,w<2^m∧za0 ts w=true∧w.testBit k=true:=by
 unfold zas
 rw[List.mem_filter,List.mem_range,List.any_eq_true]
 constructor
 ·rintro⟨h1,w,hw,hk⟩
  obtain⟨a,b⟩:=mem_wareL.mp hw
  exact⟨h1,w,a,b,hk⟩
 ·rintro⟨h1,w,a,b,hk⟩
  exact⟨h1,w,mem_wareL.mpr ⟨a,b⟩,hk⟩
theorem zek(m:Nat)(ts:List Tie):(zas m ts).Pairwise (·<·):=List.Pairwise.filter _ List.pairwise_lt_range
theorem zi7(m:Nat)(ts:List Tie):(zas m ts).length≤m:=by
 have:=List.length_filter_le (fun k=>(zaz m ts).any fun w=>w.testBit k) (List.range m)
 rwa [List.length_range] at this
theorem zfi{m w:Nat}{ts:List Tie}(hw:w<2^m)(W:za0 ts w=true){k:Nat}(hk:w.testBit k=true):k∈zas m ts:=by
 refine mem_keptL.mpr ⟨?_,w,hw,W,hk⟩
 rcases Nat.lt_or_ge k m with z|z
 ·exact z
 ·have p:2^m≤2^k:=Nat.pow_le_pow_right (by decide) z
  rw[Nat.testBit_lt_two_pow (by omega)] at hk
  cases hk
theorem zhe{m:Nat}{ts:List Tie}{b:Bg}(hb:b.tie∈ts):(∃k∈b.ks,k∈zas m ts)→b.u∈zas m ts:=by
 rintro⟨k,hk,af⟩
 obtain⟨km,w,hw,W,ae⟩:=mem_keptL.mp af
 refine zfi hw W ?_
 have ad:b.tie.keep w=true:=by
  unfold za0 at W
  exact List.all_eq_true.mp (Bool.and_eq_true_iff.mp W).2 _ hb
 cases e:w.testBit b.u with
 |true=>rfl
 |false=>
  have:decide (cnt b.ks w=0)=true:=by
   have h2:(if w.testBit b.u=true then decide (b.lo≤(cnt b.ks w:Int))&&decide ((cnt b.ks w:Int)≤b.hi) else decide (cnt b.ks w=0))=true:=ad
   rw[e,if_neg Bool.false_ne_true] at h2
   exact h2
  have z:=of_decide_eq_true this
  unfold cnt at z
  have:=List.length_eq_zero_iff.mp z
  have hm:k∈b.ks.filter fun k=>w.testBit k:=List.mem_filter.mpr ⟨hk,ae⟩
  rw[this] at hm
  cases hm
def zan(L:List Bg)(C:List Tie):List Tie:=L.map Bg.tie++C
theorem zlg{m w:Nat}{L:List Bg}{C:List Tie}(nb:∀t∈C,∀u lo hi ks,t≠.bough u lo hi ks)(hw:w<2^m)(W:za0 (zan L C) w=true):za0 (zan (L.filterMap (mvB (zas m (zan L C)))) (C.filterMap (mvT (zas m (zan L C))))) (zdd (zas m (zan L C)) w)=true:=by
 have ad:∀k,w.testBit k=true→k∈zas m (zan L C):=fun k hk=>zfi hw W hk
 have W':=W
 unfold za0 at W ⊢
 rw[Bool.and_eq_true] at W ⊢
 have keep:∀t∈zan L C,t.keep w=true:=List.all_eq_true.mp W.2
 constructor
 ·have h0:0∈zas m (zan L C):=ad 0 W.1
  have e0:mv (zas m (zan L C)) 0=0:=by
   rcases Nat.eq_zero_or_pos (mv (zas m (zan L C)) 0) with z|z
   ·exact z
   ·have il:0<(zas m (zan L C)).length:=Nat.lt_trans z (zem h0)
    obtain⟨i1,e1⟩:=List.getElem?_eq_some_iff.mp (zgh h0)
    have:=List.pairwise_iff_getElem.mp (zek m (zan L C)) 0 _ il i1 z
    omega
  have:=zck (w:=w) h0
  rw[e0] at this
  rw[this]
  exact W.1
 ·rw[List.all_eq_true]
  intro t ht
  unfold zan at ht
  rcases List.mem_append.mp ht with z|z
  ·obtain⟨b',af,rfl⟩:=List.mem_map.mp z
   obtain⟨b,hb,e⟩:=List.mem_filterMap.mp af
   have ae:b.tie∈zan L C:=List.mem_append.mpr (.inl (List.mem_map.mpr ⟨b,hb,rfl⟩))
   exact zwd ad (zhe ae) e (keep _ ae)
  ·obtain⟨c,hc,e⟩:=List.mem_filterMap.mp z
   exact zwo ad (nb c hc) e (keep _ (List.mem_append.mpr (.inr hc)))
theorem zkl:∀ps:List (Nat×Int),(ps.map zix).all (zbd 1)=true
 |[]=>rfl
 |p::ps=>by
  rw[List.map_cons,List.all_cons,zkl ps]
  rfl
theorem zk8{u:Nat}{lo hi:Int}{ks:List Nat}(h:ks.length≤1000):zbd 3 (Tie.bough u lo hi ks).toD=true:=by
 have:=zqh (u:Int) lo hi (ks.map fun k:Nat=>(k:Int)) (by rw[List.length_map];exact h)
 unfold zvk at this
 rw[List.map_map] at this
 exact this
theorem zqv{m:Nat}{t:Tie}(ok:t.Ok m)(m9:m≤900):zbd 3 t.toD=true:=by
 cases t with
 |bough u lo hi ks=>exact zk8 (Nat.le_trans ok.few (by omega))
 |needs a b=>
  show(true&&(zbd 2 (.str ("needs" : Str))&&(true&&(true&&true))))=true
  rw[show zbd 2 (.str ("needs" : Str))=true from zjr]
  rfl
 |bans a b=>
  show(true&&(zbd 2 (.str ("bans" : Str))&&(true&&(true&&true))))=true
  rw[show zbd 2 (.str ("bans" : Str))=true from zk6]
  rfl
 |most top ps=>exact znf (m:=m) (zkl ps) (by rw[List.length_map];exact Nat.le_trans ok.2.2.2 (by omega))
theorem zfl{m:Nat}{ts:List Tie}(ok:∀t∈ts,t.Ok m)(m9:m≤900):(ts.map Tie.toD).all (zbd 3)=true:=by
 rw[List.all_map,List.all_eq_true]
 exact fun t ht=>zqv (ok t ht) m9
theorem zfn{H:Hp}:∀ks:List Nat,DnL H (ks.map fun k:Nat=>PyData.int (k:Int)) (zaj ks)
 |[]=>rfl
 |k::ks=>⟨_,_,rfl,rfl,zfn ks⟩
def TiesAt(H:Hp)(p:Addr)(ts:List Tie):Prop:=∃xs,H p=some (.tup xs)∧DnL H (ts.map Tie.toD) xs
theorem TiesAt.same{H H':Hp}{p:Addr}{ts:List Tie}(s:Same H H')(h:TiesAt H p ts):TiesAt H' p ts:=by
 obtain⟨xs,h1,h2⟩:=h
 exact⟨xs,s _ _ h1,DnL.same s _ _ h2⟩
theorem TiesAt.tupS{H H':Hp}{p:Addr}{m:Nat}{ts:List Tie}(t:zmb H H')(ok:∀t∈ts,t.Ok m)(m9:m≤900)(h:TiesAt H p ts):TiesAt H' p ts:=by
 obtain⟨xs,h1,h2⟩:=h
 exact⟨xs,t _ _ h1,DnL.tupS t (zfl ok m9) h2⟩
theorem zf3{H:Hp}{wd tb tc:Addr}{m:Nat}{B C:List Tie}(hw:H wd=some (.tup [.int (m:Int),.ref tb,.ref tc]))(hb:TiesAt H tb B)(hc:TiesAt H tc C)(ok:∀t∈B++C,t.Ok m)(few:(B++C).length≤900)(m9:m≤900):WoodT H wd m (B++C):=by
 obtain⟨xs,h1,d1⟩:=hb
 obtain⟨ys,h2,d2⟩:=hc
 exact⟨⟨xs,ys,⟨tb,tc,hw,h1,h2⟩,by rw[List.map_append];exact d1.append d2⟩,ok,few,m9⟩
def zoz:Sp:=fun vs H Q _=>∃(tb lk:Addr)(L:List Bg)(kept:List Nat)(m:Nat),vs=[.ref tb,.ref lk]∧TiesAt H tb (L.map Bg.tie)∧H lk=some (.lst (zaj kept))∧kept.Pairwise (·<·)∧kept.length≤9∧L.length≤20∧m≤9∧(∀b∈L,Tie.BoughOkW m b.u b.lo b.hi b.ks)∧(∀b∈L,(∃k∈b.ks,k∈kept)→b.u∈kept) ∧
 ∀(t:Addr)(H':Hp),Same H H'→TiesAt H' t ((L.filterMap (mvB kept)).map Bg.tie)→Q (.ref t) H'
def zqw:Sp:=fun vs H Q _=>∃(tc lk:Addr)(C:List Tie)(kept:List Nat)(m:Nat),vs=[.ref tc,.ref lk]∧TiesAt H tc C∧H lk=some (.lst (zaj kept))∧kept.Pairwise (·<·)∧kept.length≤9∧C.length≤20∧m≤9∧(∀t∈C,t.Ok m)∧(∀t∈C,∀u lo hi ks,t≠.bough u lo hi ks) ∧
 ∀(t:Addr)(H':Hp),Same H H'→TiesAt H' t (C.filterMap (mvT kept))→Q (.ref t) H'
def ztm:Sp:=fun vs H Q _=>∃(tc:Addr)(C:List Tie)(p:Nat),vs=[.ref tc,.int (p:Int)]∧TiesAt H tc C∧p<C.length∧C.length≤100∧∀(t:Addr)(H':Hp),Same H H'→TiesAt H' t (C.eraseIdx p)→Q (.ref t) H'
def zcd(m:Nat)(B C:List Tie)(p:Nat):Option Nat:=(zaz m (B++C.eraseIdx p)).find? fun s=>!((C[p]?.map fun t=>t.keep s).getD true)
def zro:Sp:=fun vs H Q _=>∃(tb tc:Addr)(m p:Nat)(B C:List Tie),vs=[.int (m:Int),.ref tb,.ref tc,.int (p:Int)]∧TiesAt H tb B∧TiesAt H tc C∧p<C.length∧1≤m∧m≤9∧(∀t∈B,t.Ok m)∧(∀t∈C,t.Ok m)∧B.length≤20∧C.length≤20∧∀H',Same H H'→Q (zge (zcd m B C p)) H'
def zbf(m:Nat)(B:List Tie):Nat→List Tie→Nat→List Tie
 |0,C,_=>C
 |f+1,C,p=>if zcd m B C p=none then zbf m B f (C.eraseIdx p) p else zbf m B f C (p+1)
def zri:Sp:=fun vs H Q _=>∃(tb tc:Addr)(m:Nat)(B C:List Tie),vs=[.int (m:Int),.ref tb,.ref tc]∧TiesAt H tb B∧TiesAt H tc C∧1≤m∧m≤9∧(∀t∈B,t.Ok m)∧(∀t∈C,t.Ok m)∧B.length≤20∧C.length≤20∧∀(t:Addr)(H':Hp),Same H H'→TiesAt H' t (zbf m B C.length C 0)→Q (.ref t) H'
structure TightB(sold:List Nat)(b b':Bg):Prop where
 u:b'.u=b.u
 ks:b'.ks=b.ks
 lo:∃w∈sold,w.testBit b.u=true∧b'.lo=(cnt b.ks w:Int)
 lo':∀w∈sold,w.testBit b.u=true→b'.lo≤(cnt b.ks w:Int)
 hi:∃w∈sold,w.testBit b.u=true∧b'.hi=(cnt b.ks w:Int)
 hi':∀w∈sold,w.testBit b.u=true→(cnt b.ks w:Int)≤b'.hi
def TightL(sold:List Nat):List Bg→List Bg→Prop
 |[],L=>L=[]
 |b::r,L=>∃b' r',L=b'::r'∧TightB sold b b'∧TightL sold r r'
def zx9:Sp:=fun vs H Q _=>∃(v:V)(ls:Addr)(b:Bg)(sold:List Nat),vs=[v,.ref ls]∧Dn H b.tie.toD v∧b.ks.length≤1000∧H ls=some (.lst (zaj sold))∧sold.length≤1000∧(∃w∈sold,w.testBit b.u=true)∧∀(b':Bg)(v':V)(H':Hp),Same H H'→TightB sold b b'→Dn H' b'.tie.toD v'→Q v' H'
def zeh(sold:List Nat)(b:Bg)(c:Int):Option Nat:=sold.find? fun w=>w.testBit b.u&&decide ((cnt b.ks w:Int)=c)
def zqa:Sp:=fun vs H Q _=>∃(ls:Addr)(v:V)(b:Bg)(sold:List Nat)(c:Int)(w:Nat),vs=[.ref ls,v,.int c]∧Dn H b.tie.toD v∧b.ks.length≤1000∧H ls=some (.lst (zaj sold))∧sold.length≤1000∧zeh sold b c=some w∧∀H',Same H H'→Q (.int (w:Int)) H'
theorem zvr{H:Hp}{top:Int}{ps:List (Nat×Int)}{v:V}(h:Dn H (Tie.most top ps).toD v):∃p pk xs,v=.ref p∧H p=some (.tup [.str ("most" : Str),.int top,.ref pk])∧H pk=some (.tup xs)∧DnL H (ps.map zix) xs:=by
 obtain⟨p,xs,rfl,hp,x1,r1,rfl,h1,x2,r2,rfl,h2,x3,r3,rfl,h3,e⟩:=zcc h
 cases(show r3=[] from e)
 obtain⟨pk,ys,rfl,ad,d⟩:=zcc h3
 cases(show x1=_ from h1)
 cases(show x2=_ from h2)
 exact⟨p,pk,ys,rfl,hp,ad,d⟩
theorem zve{H:Hp}{s:Str}{a b:Nat}{v:V}(h:Dn H (.tuple [.str s,.int (a:Int),.int (b:Int)]) v):∃p,v=.ref p∧H p=some (.tup [.str s,.int (a:Int),.int (b:Int)]):=by
 obtain⟨p,xs,rfl,hp,x1,r1,rfl,h1,x2,r2,rfl,h2,x3,r3,rfl,h3,e⟩:=zcc h
 cases(show r3=[] from e)
 cases(show x1=_ from h1)
 cases(show x2=_ from h2)
 cases(show x3=_ from h3)
 exact⟨p,rfl,hp⟩
def zBk:Option Stmt→Expr
 |some (Stmt.Assign _ e _)=>e
 |_=>.Constant .none 0 ⟨0,0,0,0⟩
def fL1(m:Nat)(L:List Bg)(C:List Tie):List Bg:=L.filterMap (mvB (zas m (zan L C)))
def fC1(m:Nat)(L:List Bg)(C:List Tie):List Tie:=C.filterMap (mvT (zas m (zan L C)))
def zb7(m:Nat)(L:List Bg)(C:List Tie):List Nat:=zaz (zas m (zan L C)).length (zan (fL1 m L C) (fC1 m L C))
def fC2(m:Nat)(L:List Bg)(C:List Tie)(L2:List Bg):List Tie:=zbf (zas m (zan L C)).length (L2.map Bg.tie) (fC1 m L C).length (fC1 m L C) 0
def zoi(sold:List Nat)(b:Bg):PyData:=.tuple [.int (((zeh sold b b.lo).getD 0:Nat):Int),.int (((zeh sold b b.hi).getD 0:Nat):Int)]
structure Folded(H H':Hp)(f:Addr)(m:Nat)(L:List Bg)(C:List Tie)(L2:List Bg):Prop where
 tight:TightL (zb7 m L C) (fL1 m L C) L2
 ex:∃(w2 lk lt ln tb tc:Addr)(xt:List V),H' f=some (.tup [.ref w2,.ref lk,.ref lt,.ref ln])∧H' w2=some (.tup [.int ((zas m (zan L C)).length:Int),.ref tb,.ref tc])∧TiesAt H' tb (L2.map Bg.tie)∧TiesAt H' tc (fC2 m L C L2) ∧
  H' lk=some (.lst (zaj (zas m (zan L C))))∧H' lt=some (.lst xt)∧DnL H' (L2.map (zoi (zb7 m L C))) xt∧H' ln=some (.lst ((List.range (fC2 m L C L2).length).map fun p=>zge (zcd (zas m (zan L C)).length (L2.map Bg.tie) (fC2 m L C L2) p)))∧H lk=none∧H lt=none∧H ln=none∧lk≠lt∧lk≠ln∧lt≠ln
structure WoodP(H:Hp)(wd tb tc:Addr)(m:Nat)(L:List Bg)(C:List Tie):Prop where
 at_:H wd=some (.tup [.int (m:Int),.ref tb,.ref tc])
 bs:TiesAt H tb (L.map Bg.tie)
 cs:TiesAt H tc C
 okb:∀b∈L,Tie.BoughOkW m b.u b.lo b.hi b.ks
 okc:∀t∈C,t.Ok m
 nb:∀t∈C,∀u lo hi ks,t≠.bough u lo hi ks
 m1:1≤m
 m9:m≤9
 fewb:L.length≤20
 fewc:C.length≤20
theorem WoodP.same{H H':Hp}{wd tb tc:Addr}{m:Nat}{L:List Bg}{C:List Tie}(s:Same H H')(h:WoodP H wd tb tc m L C):WoodP H' wd tb tc m L C:=⟨s _ _ h.at_,h.bs.same s,h.cs.same s,h.okb,h.okc,h.nb,h.m1,h.m9,h.fewb,h.fewc⟩
theorem WoodP.ok{H:Hp}{wd tb tc:Addr}{m:Nat}{L:List Bg}{C:List Tie}(h:WoodP H wd tb tc m L C):∀t∈zan L C,t.Ok m:=fun t ht=>by
 rcases List.mem_append.mp ht with z|z
 ·obtain⟨b,hb,rfl⟩:=List.mem_map.mp z
  exact h.okb b hb
 ·exact h.okc t z
theorem WoodP.tupS{H H':Hp}{wd tb tc:Addr}{m:Nat}{L:List Bg}{C:List Tie}(s:zmb H H')(h:WoodP H wd tb tc m L C):WoodP H' wd tb tc m L C:=⟨s _ _ h.at_,h.bs.tupS s (m:=m) (fun t ht=>h.ok t (List.mem_append.mpr (.inl ht))) (by have:=h.m9;omega),h.cs.tupS s (m:=m) (fun t ht=>h.ok t (List.mem_append.mpr (.inr ht))) (by have:=h.m9;omega),h.okb,h.okc,h.nb,h.m1,h.m9,h.fewb,h.fewc⟩
theorem WoodP.woodT{H:Hp}{wd tb tc:Addr}{m:Nat}{L:List Bg}{C:List Tie}(h:WoodP H wd tb tc m L C):WoodT H wd m (zan L C):=by
 have:=h.fewb
 have:=h.fewc
 have:=h.m9
 exact zf3 h.at_ h.bs h.cs h.ok (by rw[List.length_append,List.length_map];omega) (by omega)
def zvv:Sp:=fun vs H Q _=>∃(wd tb tc:Addr)(m:Nat)(L:List Bg)(C:List Tie),vs=[.ref wd]∧WoodP H wd tb tc m L C∧(∃s,s<2^m∧za0 (zan L C) s=true)∧∀(f:Addr)(L2:List Bg)(H':Hp),Same H H'→Folded H H' f m L C L2→Q (.ref f) H'
def ztd(D:Addr):Sp:=fun vs H _ E=>∃(wd tb tc:Addr)(m:Nat)(L:List Bg)(C:List Tie),vs=[.ref wd]∧WoodP H wd tb tc m L C∧(∀s,s<2^m→za0 (zan L C) s=false)∧∀H',Same H H'→E (.ref D) none H'
theorem TightB.ok{m:Nat}{sold:List Nat}{b b':Bg}(t:TightB sold b b')(ok:Tie.BoughOkW m b.u b.lo b.hi b.ks):Tie.BoughOkW m b'.u b'.lo b'.hi b'.ks:=by
 obtain⟨w,hw,hb,e⟩:=t.lo
 have h2:=t.hi' w hw hb
 refine⟨by rw[t.u];exact ok.um,by rw[t.ks];exact ok.ks0,by rw[t.u,t.ks];exact ok.up,by rw[t.ks];exact ok.ris,by rw[t.ks];exact ok.few,by omega,by omega⟩
theorem TightL.length{sold:List Nat}:∀{L L':List Bg},TightL sold L L'→L'.length=L.length
 |[],_,h=>by cases(show _=[] from h);rfl
 |_::_,_,⟨b',r',e,_,h⟩=>by rw[e,List.length_cons,List.length_cons,TightL.length h]
theorem TightL.ok{m:Nat}{sold:List Nat}:∀{L L':List Bg},TightL sold L L'→(∀b∈L,Tie.BoughOkW m b.u b.lo b.hi b.ks)→∀b∈L',Tie.BoughOkW m b.u b.lo b.hi b.ks
 |[],_,h,_=>fun x hx=>by rw[show _=[] from h] at hx;cases hx
 |_::_,_,⟨b',r',e,t,h⟩,ok=>by
  rw[e]
  intro x hx
  rcases List.mem_cons.mp hx with rfl|hx
  ·exact t.ok (ok _ List.mem_cons_self)
  ·exact TightL.ok h (fun y hy=>ok y (List.mem_cons_of_mem _ hy)) x hx
theorem TightL.snoc{sold:List Nat}{b b':Bg}(t:TightB sold b b'):∀{L L':List Bg},TightL sold L L'→TightL sold (L++[b]) (L'++[b'])
 |[],_,h=>by cases(show _=[] from h);exact⟨b',[],rfl,t,rfl⟩
 |_::_,_,⟨c',r',e,u,h⟩=>⟨c',r'++[b'],by rw[e];rfl,u,TightL.snoc t h⟩
theorem TightL.get{sold:List Nat}:∀{L L':List Bg} {i:Nat} {b':Bg},TightL sold L L'→L'[i]?=some b'→∃b,L[i]?=some b∧TightB sold b b'
 |[],_,i,_,h,e=>by rw[show _=[] from h] at e;cases e
 |c::_,_,0,b',⟨c',r',e',t,h⟩,e=>by rw[e'] at e;cases e;exact⟨c,rfl,t⟩
 |c::r,_,i+1,b',⟨c',r',e',t,h⟩,e=>by rw[e'] at e;exact TightL.get (i:=i) h (by rw[List.getElem?_cons_succ] at e;exact e)
theorem needless_sub{m:Nat}{B:List Tie}:∀{f:Nat} {C:List Tie} {p:Nat},(zbf m B f C p).Sublist C
 |0,C,_=>List.Sublist.refl C
 |f+1,C,p=>by
  unfold zbf
  split
  ·exact needless_sub.trans (List.eraseIdx_sublist C p)
  ·exact needless_sub
theorem zo8{sold:List Nat}{b:Bg}{c:Int}(h:∃w∈sold,w.testBit b.u=true∧c=(cnt b.ks w:Int)):∃w,zeh sold b c=some w:=by
 obtain⟨w,hw,hb,e⟩:=h
 unfold zeh
 cases z:sold.find? fun w=>w.testBit b.u&&decide ((cnt b.ks w:Int)=c) with
 |some w'=>exact⟨w',rfl⟩
 |none=>
  have:=List.find?_eq_none.mp z w hw
  rw[hb,decide_eq_true e.symm] at this
  exact absurd rfl this
theorem TightB.first_lo{sold:List Nat}{b b':Bg}(t:TightB sold b b'):∃w,zeh sold b' b'.lo=some w:=zo8 (by rw[t.u,t.ks];exact t.lo)
theorem TightB.first_hi{sold:List Nat}{b b':Bg}(t:TightB sold b b'):∃w,zeh sold b' b'.hi=some w:=zo8 (by rw[t.u,t.ks];exact t.hi)
theorem zxv{m w0:Nat}{L:List Bg}{C:List Tie}(nb:∀t∈C,∀u lo hi ks,t≠.bough u lo hi ks){b':Bg}(h:b'∈fL1 m L C):∃w∈zb7 m L C,w.testBit b'.u=true:=by
 obtain⟨b,hb,e⟩:=List.mem_filterMap.mp h
 have af:b.tie∈zan L C:=List.mem_append.mpr (.inl (List.mem_map.mpr ⟨b,hb,rfl⟩))
 unfold mvB at e
 split at e
 ·cases e
 ·rename_i ne
  cases e
  obtain⟨k,ah⟩:=List.exists_mem_of_ne_nil _ ne
  have ae:=List.mem_filter.mp ah
  have hu:=zhe af ⟨k,ae.1,of_decide_eq_true ae.2⟩
  obtain⟨_,w,hw,W,ad⟩:=mem_keptL.mp hu
  refine⟨zdd (zas m (zan L C)) w,mem_wareL.mpr ⟨zr6 _ _,zlg nb hw W⟩,?_⟩
  rw[zck hu]
  exact ad
theorem zpj{m:Nat}{ts:List Tie}(h:∃s,s<2^m∧za0 ts s=true):1≤(zas m ts).length:=by
 obtain⟨s,hs,W⟩:=h
 have h0:s.testBit 0=true:=by
  unfold za0 at W
  exact(Bool.and_eq_true_iff.mp W).1
 exact List.length_pos_of_mem (zfi hs W h0)
theorem zlu{m:Nat}{B C:List Tie}{p:Nat}{t:Tie}(h:C[p]?=some t):zcd m B C p=none↔((zaz m (B++C.eraseIdx p)).all fun s=>t.keep s)=true:=by
 unfold zcd
 rw[h,List.find?_eq_none,List.all_eq_true]
 constructor
 ·intro z s hs
  have:=z s hs
  simpa using this
 ·intro z s hs
  simp[z s hs]
def zx5:Sp:=fun vs H Q _=>∃(wd tb tc:Addr)(m:Nat)(L:List Bg)(C:List Tie),vs=[.ref wd]∧WoodP H wd tb tc m L C∧((∀s,s<2^m→za0 (zan L C) s=false)→∀H',Same H H'→Q .non H')∧((∃s,s<2^m∧za0 (zan L C) s=true)→∀(f:Addr)(L2:List Bg)(H':Hp),Same H H'→Folded H H' f m L C L2→Q (.ref f) H')
theorem WoodX.parts{H:Hp}{wd:Addr}{m:Nat}{bs cs:List PyData}(h:WoodX H wd m bs cs):∃(tb tc:Addr)(L:List Bg)(C:List Tie),WoodP H wd tb tc m L C∧bs=(L.map Bg.tie).map Tie.toD∧cs=C.map Tie.toD:=by
 obtain⟨xs,ys,⟨tb,tc,h1,h2,h3⟩,db,dc⟩:=h.ex
 obtain⟨L,e,ok⟩:=zuk h.gb.each
 obtain⟨C,e2,ad⟩:=zmv (P:=fun t=>t.Ok m∧∀u lo hi ks,t≠.bough u lo hi ks) (l:=cs) fun x hx=>by
  obtain⟨t,a,b,c⟩:=znw (h.gc x hx)
  exact⟨t,a,b,c⟩
 have b8:=h.b8
 have c8:=h.c8
 have e':bs=(L.map Bg.tie).map Tie.toD:=by rw[e,List.map_map];rfl
 refine⟨tb,tc,L,C,⟨h1,⟨xs,h2,by rw[←e'];exact db⟩,⟨ys,h3,by rw[←e2];exact dc⟩,fun b hb=>(ok b hb).toBoughOkW,fun t ht=>(ad t ht).1,fun t ht=>(ad t ht).2,h.m1,h.m9,?_,?_⟩,e',e2⟩
 ·rw[e,List.length_map] at b8
  omega
 ·rw[e2,List.length_map] at c8
  omega
def zxb(K:PySem.W.Frag):Sp:=fun vs H Q _=>∃(pen sp:Addr)(ns:List Int)(k:Int)(wd tb tc:Addr)(m:Nat)(L:List Bg)(C:List Tie),vs=[.ref pen,.ref wd]∧Pen K H pen sp ns k∧0≤k∧k≤700000∧WoodP H wd tb tc m L C ∧
 ∀(wd' tc':Addr)(C':List Tie)(k':Int)(H':Hp),SameX pen H H'→H' pen=some (.lst [.ref sp,.int k'])→k≤k'→k'≤k+60→WoodP H' wd' tb tc' m L C'→Q (.ref wd') H'
theorem TightL.mem{sold:List Nat}{L L':List Bg}(h:TightL sold L L'){b':Bg}(hb:b'∈L'):∃b∈L,TightB sold b b':=by
 obtain⟨i,hi,e⟩:=List.getElem_of_mem hb
 obtain⟨b,h1,h2⟩:=h.get (i:=i) (b':=b') (by rw[List.getElem?_eq_getElem hi,e])
 exact⟨b,List.mem_of_getElem? h1,h2⟩
theorem TightL.mem'{sold:List Nat}:∀{L L':List Bg},TightL sold L L'→∀{b:Bg},b∈L→∃b'∈L',TightB sold b b'
 |_::_,_,⟨c',r',e,t,h⟩,b,hb=>by
  rw[e]
  rcases List.mem_cons.mp hb with rfl|hb
  ·exact⟨c',List.mem_cons_self,t⟩
  ·obtain⟨b',h1,h2⟩:=TightL.mem' h hb
   exact⟨b',List.mem_cons_of_mem _ h1,h2⟩
theorem zlz{b:Bg}{s:Nat}:b.tie.keep s=if s.testBit b.u=true then decide (b.lo≤(cnt b.ks s:Int))&&decide ((cnt b.ks s:Int)≤b.hi) else decide (cnt b.ks s=0):=rfl
theorem zpq{k:Nat}{L1 L2:List Bg}{C:List Tie}(tl:TightL (zaz k (zan L1 C)) L1 L2):zaz k (zan L2 C)=zaz k (zan L1 C):=by
 have e:∀s,s<2^k→(za0 (zan L2 C) s=true↔za0 (zan L1 C) s=true):=by
  intro s hs
  constructor
  ·intro W
   unfold za0 at W ⊢
   rw[Bool.and_eq_true,List.all_eq_true] at W ⊢
   refine⟨W.1,fun t ht=>?_⟩
   rcases List.mem_append.mp ht with z|z
   ·obtain⟨b,hb,rfl⟩:=List.mem_map.mp z
    obtain⟨b',ae,tb⟩:=tl.mem' hb
    have hk:=W.2 b'.tie (List.mem_append.mpr (.inl (List.mem_map.mpr ⟨b',ae,rfl⟩)))
    rw[zlz,tb.u,tb.ks] at hk
    rw[zlz]
    by_cases u:s.testBit b.u=true
    ·rw[if_pos u] at hk ⊢
     rw[Bool.and_eq_true,decide_eq_true_iff,decide_eq_true_iff] at hk ⊢
     have ad:∀w∈zaz k (zan L1 C),w.testBit b.u=true→b.lo≤(cnt b.ks w:Int)∧(cnt b.ks w:Int)≤b.hi:=fun w hw hu=>by
      have:=(mem_wareL.mp hw).2
      unfold za0 at this
      have hk:=List.all_eq_true.mp (Bool.and_eq_true_iff.mp this).2 b.tie (List.mem_append.mpr (.inl (List.mem_map.mpr ⟨b,hb,rfl⟩)))
      rw[zlz,if_pos hu,Bool.and_eq_true,decide_eq_true_iff,decide_eq_true_iff] at hk
      exact hk
     obtain⟨w,hw,hu,el⟩:=tb.lo
     obtain⟨w',ah,ai,eh⟩:=tb.hi
     have a1:=(ad w hw hu).1
     have a2:=(ad w' ah ai).2
     omega
    ·rw[if_neg u] at hk ⊢
     exact hk
   ·exact W.2 t (List.mem_append.mpr (.inr z))
  ·intro W
   have af:s∈zaz k (zan L1 C):=mem_wareL.mpr ⟨hs,W⟩
   unfold za0 at W ⊢
   rw[Bool.and_eq_true,List.all_eq_true] at W ⊢
   refine⟨W.1,fun t ht=>?_⟩
   rcases List.mem_append.mp ht with z|z
   ·obtain⟨b',ae,rfl⟩:=List.mem_map.mp z
    obtain⟨b,hb,tb⟩:=tl.mem ae
    have hk:=W.2 b.tie (List.mem_append.mpr (.inl (List.mem_map.mpr ⟨b,hb,rfl⟩)))
    rw[zlz] at hk
    rw[zlz,tb.u,tb.ks]
    by_cases u:s.testBit b.u=true
    ·rw[if_pos u,Bool.and_eq_true,decide_eq_true_iff,decide_eq_true_iff]
     exact⟨tb.lo' s af u,tb.hi' s af u⟩
    ·rw[if_neg u] at hk ⊢
     exact hk
   ·exact W.2 t (List.mem_append.mpr (.inr z))
 unfold zaz
 refine List.filter_congr fun s hs=>?_
 rw[Bool.eq_iff_iff]
 exact e s (List.mem_range.mp hs)
theorem ztf{k:Nat}{A B:List Tie}(h:∀s,s<2^k→(za0 A s=true↔za0 B s=true)):zaz k A=zaz k B:=by
 unfold zaz
 refine List.filter_congr fun s hs=>?_
 rw[Bool.eq_iff_iff]
 exact h s (List.mem_range.mp hs)
theorem zs0{C:List Tie}{p:Nat}{t x:Tie}(h:C[p]?=some t)(hx:x∈C):x=t∨x∈C.eraseIdx p:=by
 obtain⟨hp,e⟩:=List.getElem?_eq_some_iff.mp h
 rw[←List.take_append_drop p C,List.drop_eq_getElem_cons hp,e] at hx
 rw[List.eraseIdx_eq_take_drop_succ]
 rcases List.mem_append.mp hx with z|z
 ·exact .inr (List.mem_append.mpr (.inl z))
 ·rcases List.mem_cons.mp z with z|z
  ·exact .inl z
  ·exact .inr (List.mem_append.mpr (.inr z))
theorem zmu{A B:List Tie}{s:Nat}(h:∀t∈B,t∈A)(W:za0 A s=true):za0 B s=true:=by
 unfold za0 at W ⊢
 rw[Bool.and_eq_true,List.all_eq_true] at W ⊢
 exact⟨W.1,fun t ht=>W.2 t (h t ht)⟩
theorem zee{k:Nat}{B:List Tie}:∀{f:Nat} {C:List Tie} {p:Nat},C.length=p+f→zaz k (B++zbf k B f C p)=zaz k (B++C)
 |0,C,p,_=>rfl
 |f+1,C,p,hl=>by
  have hp:p<C.length:=by omega
  have ad:C[p]?=some C[p]:=List.getElem?_eq_getElem hp
  unfold zbf
  split
  ·rename_i e
   rw[zee (by rw[List.length_eraseIdx,if_pos hp];omega)]
   refine ztf fun s hs=>⟨fun W=>?_,fun W=>zmu (fun t ht=>?_) W⟩
   ·have all:=(zlu ad).mp e
    have hk:=List.all_eq_true.mp all s (mem_wareL.mpr ⟨hs,W⟩)
    unfold za0 at W ⊢
    rw[Bool.and_eq_true,List.all_eq_true] at W ⊢
    refine⟨W.1,fun t ht=>?_⟩
    rcases List.mem_append.mp ht with z|z
    ·exact W.2 t (List.mem_append.mpr (.inl z))
    ·rcases zs0 ad z with y|y
     ·rw[y];exact hk
     ·exact W.2 t (List.mem_append.mpr (.inr y))
   ·rcases List.mem_append.mp ht with z|z
    ·exact List.mem_append.mpr (.inl z)
    ·exact List.mem_append.mpr (.inr (List.mem_of_mem_eraseIdx z))
  ·exact zee (by omega)
theorem zds{k:Nat}{B:List Tie}:∀{f:Nat} {C:List Tie} {p:Nat},C.length=p+f→(∀j,j<p→zcd k B C j≠none)→∀j,j<(zbf k B f C p).length→zcd k B (zbf k B f C p) j≠none
 |0,C,p,hl,h=>fun j hj=>h j (by have:j<C.length:=hj;omega)
 |f+1,C,p,hl,h=>by
  have hp:p<C.length:=by omega
  have ai:C[p]?=some C[p]:=List.getElem?_eq_getElem hp
  unfold zbf
  split
  ·refine zds (by rw[List.length_eraseIdx,if_pos hp];omega) fun j hj z=>h j hj ?_
   have ah:j<C.length:=by omega
   have af:C[j]?=some C[j]:=List.getElem?_eq_getElem ah
   have ad:(C.eraseIdx p)[j]?=some C[j]:=by rw[List.getElem?_eraseIdx_of_lt hj];exact af
   rw[zlu ad] at z
   rw[zlu af,List.all_eq_true]
   intro s hs
   obtain⟨h1,W⟩:=mem_wareL.mp hs
   refine List.all_eq_true.mp z s (mem_wareL.mpr ⟨h1,zmu (fun t ht=>?_) W⟩)
   rcases List.mem_append.mp ht with y|y
   ·exact List.mem_append.mpr (.inl y)
   ·refine List.mem_append.mpr (.inr ?_)
    have ae:(C.eraseIdx p).eraseIdx j=(C.eraseIdx j).eraseIdx (p-1):=by
     apply List.ext_getElem?
     intro i
     simp only[List.getElem?_eraseIdx]
     split<;>split<;>(try split)<;>(try split)<;>first|rfl|(congr 1;omega)|omega
    rw[ae] at y
    exact List.mem_of_mem_eraseIdx y
  ·rename_i e
   refine zds (by omega) fun j hj=>?_
   by_cases z:j<p
   ·exact h j z
   ·obtain rfl:j=p:=by omega
    exact e
theorem TightB.unique{sold:List Nat}{b b1 b2:Bg}(h1:TightB sold b b1)(h2:TightB sold b b2):b1=b2:=by
 obtain⟨w,hw,hu,e⟩:=h1.lo
 obtain⟨w',af,ai,e'⟩:=h2.lo
 obtain⟨v,hv,ah,f⟩:=h1.hi
 obtain⟨v',ae,ad,f'⟩:=h2.hi
 have a1:=h1.lo' w' af ai
 have a2:=h2.lo' w hw hu
 have a3:=h1.hi' v' ae ad
 have a4:=h2.hi' v hv ah
 obtain⟨u1,l1,g1,k1⟩:=b1
 obtain⟨u2,l2,g2,k2⟩:=b2
 have x1:u1=b.u:=h1.u
 have x2:u2=b.u:=h2.u
 have y1:k1=b.ks:=h1.ks
 have y2:k2=b.ks:=h2.ks
 simp only at e e' f f' a1 a2 a3 a4
 rw[x1,x2,y1,y2]
 have z1:l1=l2:=by omega
 have z2:g1=g2:=by omega
 rw[z1,z2]
theorem TightL.unique{sold:List Nat}:∀{L A B:List Bg},TightL sold L A→TightL sold L B→A=B
 |[],_,_,h1,h2=>by rw[show _=[] from h1,show _=[] from h2]
 |_::_,_,_,⟨a,r,e,t,h⟩,⟨a',r',e',t',h'⟩=>by rw[e,e',t.unique t',TightL.unique h h']
theorem zjt{α:Type}{p:α→Bool}{xs:List α}{i:Nat}{x:α}(h:xs[i]?=some x)(z:Bool)(hz:p x=z):(xs.take (i+1)).filter p=(xs.take i).filter p++(if z=true then [x] else []):=by
 rw[List.take_add_one,h,Option.toList_some,List.filter_append]
 congr 1
 cases z
 ·rw[List.filter_cons_of_neg (by rw[hz];exact Bool.false_ne_true)];rfl
 ·rw[List.filter_cons_of_pos (by exact hz)];rfl
theorem zwi{c A B:Prop}[Decidable c](hc:c)(h:B):if (!decide c)=true then A else B:=by
 rw[if_neg (by rw[decide_eq_true hc];decide)]
 exact h
theorem zju{n:Nat}{ds:List PyData}(h:ds.all (zbd n)=true)(hn:n≤60):SeqAt.shaped (.list ds)=true:=by
 obtain⟨a,b⟩:=zeu n _ h
 unfold SeqAt.shaped
 rw[Bool.and_eq_true]
 refine⟨by simpa [PyData.canLay0] using a,decide_eq_true ?_⟩
 simp only[PyData.depth]
 omega
theorem zjf:∀{L:List Nat},(L.map fun k:Nat=>PyData.int (k:Int)).all (zbd 1)=true
 |[]=>rfl
 |b::r=>by
  rw[List.map_cons,List.all_cons,zjf (L:=r),Bool.and_true]
  rfl
structure zAj(H H':Hp)(f w2 tb tc lt ln:Addr)(xt:List V)(m:Nat)(L:List Bg)(C:List Tie)(L2:List Bg)(ne:List Nat):Prop where
 wood:WoodP H' w2 tb tc (zas m (zan L C)).length L2 (fC2 m L C L2)
 sold:zaz (zas m (zan L C)).length (zan L2 (fC2 m L C L2))=zb7 m L C
 fst:∀b∈L2,(∃w,zeh (zb7 m L C) b b.lo=some w)∧∃w,zeh (zb7 m L C) b b.hi=some w
 at_:∃lk,H' f=some (.tup [.ref w2,.ref lk,.ref lt,.ref ln])
 lt_:H' lt=some (.lst xt)
 xt_:DnL H' (L2.map (zoi (zb7 m L C))) xt
 ln_:H' ln=some (.lst (zaj ne))
 eqn:((List.range (fC2 m L C L2).length).map fun p=>zge (zcd (zas m (zan L C)).length (L2.map Bg.tie) (fC2 m L C L2) p))=zaj ne
 nlt:H lt=none
 nln:H ln=none
 nn:lt≠ln
theorem zyr{kept:List Nat}{t t':Tie}(nb:∀u lo hi ks,t≠.bough u lo hi ks)(h:mvT kept t=some t'){u:Nat}{lo hi:Int}{ks:List Nat}:t'≠.bough u lo hi ks:=by
 intro e
 subst e
 cases t with
 |bough u lo hi ks=>exact nb _ _ _ _ rfl
 |needs a b=>
  simp only[mvT] at h
  split at h<;>cases h
 |bans a b=>
  simp only[mvT] at h
  split at h<;>cases h
 |most top ps=>
  simp only[mvT] at h
  split at h<;>cases h
theorem zjv{sold:List Nat}{b:Bg}{c:Int}(h:∃w∈sold,w.testBit b.u=true∧c=(cnt b.ks w:Int)):∃w,zeh sold b c=some w:=by
 obtain⟨w,hw,hu,e⟩:=h
 unfold zeh
 rw[←Option.isSome_iff_exists,List.find?_isSome]
 exact⟨w,hw,by rw[hu,decide_eq_true e.symm];rfl⟩
theorem Folded.parts{H H':Hp}{f:Addr}{wd tb0 tc0:Addr}{m:Nat}{L:List Bg}{C:List Tie}{L2:List Bg}(h:Folded H H' f m L C L2)(W:WoodP H wd tb0 tc0 m L C)(ware:∃s,s<2^m∧za0 (zan L C) s=true):∃w2 tb tc lt ln xt ne,zAj H H' f w2 tb tc lt ln xt m L C L2 ne:=by
 obtain⟨w2,lk,lt,ln,tb,tc,xt,hf,aq,ak,ap,av,ao,dt,au,aw,ai,ah,_,_,nn⟩:=h.ex
 have tl:=h.tight
 have aj:=zi7 m (zan L C)
 have kpos:=zpj ware
 have pw:=zek m (zan L C)
 have m9:=W.m9
 have am:∀b∈fL1 m L C,Tie.BoughOkW (zas m (zan L C)).length b.u b.lo b.hi b.ks:=fun b' ae=>by
  obtain⟨b,hb,e⟩:=List.mem_filterMap.mp ae
  exact zn2 pw (W.okb b hb) (zhe (List.mem_append.mpr (.inl (List.mem_map.mpr ⟨b,hb,rfl⟩)))) e
 have ad:∀t∈fC1 m L C,t.Ok (zas m (zan L C)).length:=fun t ht=>by
  obtain⟨c,hc,e⟩:=List.mem_filterMap.mp ht
  exact zou pw (W.okc c hc) (W.nb c hc) e
 have al:∀t∈fC1 m L C,∀u lo hi ks,t≠.bough u lo hi ks:=fun t ht=>by
  obtain⟨c,hc,e⟩:=List.mem_filterMap.mp ht
  exact fun u lo hi ks=>zyr (W.nb c hc) e
 have ar:(fL1 m L C).length≤20:=Nat.le_trans (List.length_filterMap_le _ _) W.fewb
 have af:(fC1 m L C).length≤20:=Nat.le_trans (List.length_filterMap_le _ _) W.fewc
 have sub:=needless_sub (m:=(zas m (zan L C)).length) (B:=L2.map Bg.tie) (f:=(fC1 m L C).length) (C:=fC1 m L C) (p:=0)
 have es:((List.range (fC2 m L C L2).length).map fun p=>zge (zcd (zas m (zan L C)).length (L2.map Bg.tie) (fC2 m L C L2) p))=zaj ((List.range (fC2 m L C L2).length).map fun p=>(zcd (zas m (zan L C)).length (L2.map Bg.tie) (fC2 m L C L2) p).getD 0):=by
  rw[show ∀M:List Nat,zaj M=M.map fun k:Nat=>V.int (k:Int) from fun _=>rfl,List.map_map]
  refine List.map_congr_left fun p hp=>?_
  have:=zds (k:=(zas m (zan L C)).length) (B:=L2.map Bg.tie) (f:=(fC1 m L C).length) (C:=fC1 m L C) (p:=0) (by omega) (fun j hj=>absurd hj (Nat.not_lt_zero _)) p (List.mem_range.mp hp)
  obtain⟨s,hs⟩:=Option.ne_none_iff_exists'.mp this
  show zge (zcd _ _ (zbf _ _ _ _ _) p)=V.int (((zcd _ _ (zbf _ _ _ _ _) p).getD 0:Nat):Int)
  rw[hs]
  rfl
 refine⟨w2,tb,tc,lt,ln,xt,_,⟨aq,ak,ap,tl.ok am,fun t ht=>ad t (sub.mem ht),fun t ht=>al t (sub.mem ht),kpos,by omega,by rw[tl.length];exact ar,Nat.le_trans sub.length_le af⟩,?_,fun b' ae=>?_,⟨lk,hf⟩,ao,dt,es▸au,es,ai,ah,nn⟩
 ·have e1:=zee (k:=(zas m (zan L C)).length) (B:=L2.map Bg.tie) (f:=(fC1 m L C).length) (C:=fC1 m L C) (p:=0) (by omega)
  have e2:=zpq (k:=(zas m (zan L C)).length) (C:=fC1 m L C) tl
  exact e1.trans e2
 ·obtain⟨b,hb,t⟩:=tl.mem ae
  refine⟨zjv ?_,zjv ?_⟩
  ·rw[t.u,t.ks];exact t.lo
  ·rw[t.u,t.ks];exact t.hi
def zht(kept:List Nat)(s:Nat):Nat→Nat
 |0=>0
 |i+1=>zht kept s i+(if s.testBit i=true then 2^(kept.getD i 0) else 0)
def zhs(kept:List Nat)(s:Nat):Nat:=zht kept s kept.length
theorem zcy{kept:List Nat}{i:Nat}(h:i<kept.length):kept.getD i 0=kept[i]:=by
 rw[List.getD_eq_getElem?_getD,List.getElem?_eq_getElem h]
 rfl
theorem zhh{kept:List Nat}(pw:kept.Pairwise (·<·)){j i:Nat}(h:j<i)(hi:i<kept.length):kept.getD j 0<kept.getD i 0:=by
 rw[zcy hi,zcy (Nat.lt_trans h hi)]
 exact List.pairwise_iff_getElem.mp pw _ _ _ _ h
theorem zin{kept:List Nat}(pw:kept.Pairwise (·<·))(s:Nat):∀i x,i≤kept.length→(∀j,j<i→kept.getD j 0<x)→zht kept s i<2^x
 |0,x,_,_=>Nat.pow_pos (by decide)
 |i+1,x,hi,h=>by
  have ih:=zin pw s i (kept.getD i 0) (by omega) fun j hj=>zhh pw hj (by omega)
  have hy:=h i (Nat.lt_succ_self _)
  have p:2^(kept.getD i 0+1)≤2^x:=Nat.pow_le_pow_right (by decide) hy
  rw[Nat.pow_succ] at p
  show zht kept s i+_<_
  split<;>omega
theorem zxl{kept:List Nat}(pw:kept.Pairwise (·<·))(s:Nat){i:Nat}(hi:i<kept.length):zht kept s (i+1)=zht kept s i|||(if s.testBit i=true then 2^(kept.getD i 0) else 0):=by
 have ih:=zin pw s i (kept.getD i 0) (by omega) fun j hj=>zhh pw hj hi
 show zht kept s i+_=_
 split
 ·have:=Nat.two_pow_add_eq_or_of_lt ih 1
  rw[Nat.mul_one] at this
  rw[Nat.add_comm,this,Nat.or_comm]
 ·rw[Nat.add_zero,Nat.or_zero]
theorem zk5{kept:List Nat}(pw:kept.Pairwise (·<·)){i:Nat}(hi:i<kept.length):mv kept (kept.getD i 0)=i:=by
 have hm:kept.getD i 0∈kept:=by rw[zcy hi];exact List.getElem_mem hi
 have h1:=zem hm
 have h2:=zgh hm
 rw[List.getElem?_eq_getElem h1] at h2
 injection h2 with h2
 rw[←zcy h1] at h2
 rcases Nat.lt_trichotomy (mv kept (kept.getD i 0)) i with z|z|z
 ·have:=zhh pw z hi;omega
 ·exact z
 ·have:=zhh pw z h1;omega
theorem zq1{kept:List Nat}(pw:kept.Pairwise (·<·))(s k:Nat):∀i,i≤kept.length→(zht kept s i).testBit k=(decide (k∈kept)&&(decide (mv kept k<i)&&s.testBit (mv kept k)))
 |0,_=>by
  show(0:Nat).testBit k=_
  rw[Nat.zero_testBit,decide_eq_false (Nat.not_lt_zero _),Bool.false_and,Bool.and_false]
 |i+1,hi=>by
  rw[zxl pw s (by omega),Nat.testBit_or,zq1 pw s k i (by omega)]
  by_cases e:k=kept.getD i 0
  ·have hm:k∈kept:=by rw[e,zcy (by omega)];exact List.getElem_mem _
   have em:mv kept k=i:=by rw[e];exact zk5 pw (by omega)
   rw[em,decide_eq_true hm,decide_eq_false (Nat.lt_irrefl _),decide_eq_true (Nat.lt_succ_self _),Bool.true_and,Bool.true_and,Bool.false_and,Bool.false_or,Bool.true_and]
   cases s.testBit i
   ·rw[if_neg Bool.false_ne_true,Nat.zero_testBit]
   ·rw[if_pos rfl,e,Nat.testBit_two_pow_self]
  ·have z:(if s.testBit i=true then 2^(kept.getD i 0) else 0:Nat).testBit k=false:=by
    split
    ·rw[Nat.testBit_two_pow];exact decide_eq_false (Ne.symm e)
    ·exact Nat.zero_testBit _
   rw[z,Bool.or_false]
   by_cases hm:k∈kept
   ·have ne:mv kept k≠i:=fun y=>e (by
     have:=zgh hm
     rw[y,List.getElem?_eq_getElem (by omega)] at this
     injection this with this
     rw[zcy (by omega),this])
    congr 2
    by_cases y:mv kept k<i
    ·rw[decide_eq_true y,decide_eq_true (by omega)]
    ·rw[decide_eq_false y,decide_eq_false (by omega)]
   ·rw[decide_eq_false hm,Bool.false_and,Bool.false_and]
theorem zgm{kept:List Nat}(pw:kept.Pairwise (·<·))(s k:Nat):(zhs kept s).testBit k=(decide (k∈kept)&&s.testBit (mv kept k)):=by
 unfold zhs
 rw[zq1 pw s k _ (Nat.le_refl _)]
 by_cases hm:k∈kept
 ·rw[decide_eq_true (zem hm),Bool.true_and]
 ·rw[decide_eq_false hm,Bool.false_and,Bool.false_and]
theorem zx3{kept:List Nat}(pw:kept.Pairwise (·<·)){w:Nat}(h:∀k,w.testBit k=true→k∈kept):zhs kept (zdd kept w)=w:=by
 refine Nat.eq_of_testBit_eq fun k=>?_
 rw[zgm pw]
 by_cases hm:k∈kept
 ·rw[decide_eq_true hm,Bool.true_and,zck hm]
 ·rw[decide_eq_false hm,Bool.false_and]
  symm
  rw[Bool.eq_false_iff]
  exact fun z=>hm (h k z)
theorem zxt{kept:List Nat}(pw:kept.Pairwise (·<·)){s:Nat}(h:s<2^kept.length):zdd kept (zhs kept s)=s:=by
 refine Nat.eq_of_testBit_eq fun i=>?_
 unfold zdd
 rw[zf8]
 by_cases hi:i<kept.length
 ·have hm:kept.getD i 0∈kept:=by rw[zcy hi];exact List.getElem_mem hi
  rw[decide_eq_true hi,Bool.true_and,zgm pw,decide_eq_true hm,Bool.true_and,zk5 pw hi]
 ·have p:2^kept.length≤2^i:=Nat.pow_le_pow_right (by decide) (by omega)
  rw[decide_eq_false hi,Bool.false_and,Nat.testBit_lt_two_pow (by omega)]
theorem znc(x i:Nat):x%2^(i+1)=x%2^i+2^i*(x.testBit i).toNat:=by
 rw[Nat.mod_pow_succ,Nat.testBit_eq_decide_div_mod_eq]
 congr 2
 rcases Nat.mod_two_eq_zero_or_one (x/2^i) with z|z
 ·rw[z];rfl
 ·rw[z];rfl
theorem zjq{kept:List Nat}(pw:kept.Pairwise (·<·)){s s':Nat}:∀i,i≤kept.length→s%2^i<s'%2^i→zht kept s i<zht kept s' i
 |0,_,h=>by rw[Nat.pow_zero,Nat.mod_one,Nat.mod_one] at h;exact absurd h (Nat.lt_irrefl _)
 |i+1,hi,h=>by
  rw[znc,znc] at h
  have l1:=zin pw s i (kept.getD i 0) (by omega) fun j hj=>zhh pw hj (by omega)
  have l2:=zin pw s' i (kept.getD i 0) (by omega) fun j hj=>zhh pw hj (by omega)
  have m1:=Nat.mod_lt s (Nat.pow_pos (n:=i) (show 0<2 by decide))
  have m2:=Nat.mod_lt s' (Nat.pow_pos (n:=i) (show 0<2 by decide))
  show zht kept s i+_<zht kept s' i+_
  cases e1:s.testBit i<;>cases e2:s'.testBit i
  ·rw[e1,e2] at h
   have:=zjq pw i (by omega) (by simpa using h)
   simp only[if_neg Bool.false_ne_true]
   omega
  ·rw[if_neg Bool.false_ne_true,if_pos rfl]
   omega
  ·rw[e1,e2] at h
   simp at h
   omega
  ·rw[e1,e2] at h
   have:=zjq pw i (by omega) (by simpa using h)
   simp only[if_pos]
   omega
theorem ztz{kept:List Nat}(pw:kept.Pairwise (·<·)){s s':Nat}(h:s<s')(h':s'<2^kept.length):zhs kept s<zhs kept s':=by
 refine zjq pw _ (Nat.le_refl _) ?_
 rw[Nat.mod_eq_of_lt h',Nat.mod_eq_of_lt (by omega)]
 exact h
theorem zxg{kept:List Nat}(pw:kept.Pairwise (·<·)){m:Nat}(h:∀k∈kept,k<m)(s:Nat):zhs kept s<2^m:=by
 refine zin pw s _ m (Nat.le_refl _) fun j hj=>?_
 rw[zcy hj]
 exact h _ (List.getElem_mem hj)
theorem zu5:∀{A B:List Nat},A.Pairwise (·<·)→B.Pairwise (·<·)→(∀x,x∈A↔x∈B)→A=B
 |[],[],_,_,_=>rfl
 |[],b::r,_,_,h=>nomatch (h b).mpr List.mem_cons_self
 |a::r,[],_,_,h=>nomatch (h a).mp List.mem_cons_self
 |a::r,b::r',pa,pb,h=>by
  rw[List.pairwise_cons] at pa pb
  have e:a=b:=by
   rcases List.mem_cons.mp ((h a).mp List.mem_cons_self) with z|z
   ·exact z
   ·rcases List.mem_cons.mp ((h b).mpr List.mem_cons_self) with y|y
    ·exact y.symm
    ·have:=pa.1 b y
     have:=pb.1 a z
     omega
  subst e
  congr 1
  refine zu5 pa.2 pb.2 fun x=>⟨fun hx=>?_,fun hx=>?_⟩
  ·rcases List.mem_cons.mp ((h x).mp (List.mem_cons_of_mem _ hx)) with z|z
   ·have:=pa.1 x hx;omega
   ·exact z
  ·rcases List.mem_cons.mp ((h x).mpr (List.mem_cons_of_mem _ hx)) with z|z
   ·have:=pb.1 x hx;omega
   ·exact z
theorem zp2{kept:List Nat}{w:Nat}{b b':Bg}(hw:∀k,w.testBit k=true→k∈kept)(up:(∃k∈b.ks,k∈kept)→b.u∈kept)(h:mvB kept b=some b'):b'.tie.keep (zdd kept w)=b.tie.keep w:=by
 unfold mvB at h
 split at h
 ·cases h
 ·rename_i ne
  cases h
  obtain⟨k,ae⟩:=List.exists_mem_of_ne_nil _ ne
  have ad:=List.mem_filter.mp ae
  have hu:=up ⟨k,ad.1,of_decide_eq_true ad.2⟩
  show(if (zdd kept w).testBit (mv kept b.u)=true then _ else _)=_
  rw[zck hu,zvi fun k _ h=>hw k h]
  rfl
theorem zpi{kept:List Nat}{w:Nat}{t t':Tie}(hw:∀k,w.testBit k=true→k∈kept)(nb:∀u lo hi ks,t≠.bough u lo hi ks)(h:mvT kept t=some t'):t'.keep (zdd kept w)=t.keep w:=by
 cases t with
 |bough u lo hi ks=>exact absurd rfl (nb u lo hi ks)
 |needs a b=>
  simp only[mvT] at h
  split at h
  ·rename_i ad
   cases h
   show(!(zdd kept w).testBit (mv kept a)||(zdd kept w).testBit (mv kept b))=_
   rw[zck ad.1,zck ad.2]
   rfl
  ·cases h
 |bans a b=>
  simp only[mvT] at h
  split at h
  ·rename_i ad
   cases h
   show(!(zdd kept w).testBit (mv kept a)||!(zdd kept w).testBit (mv kept b))=_
   rw[zck ad.1,zck ad.2]
   rfl
  ·cases h
 |most top ps=>
  simp only[mvT] at h
  split at h
  ·cases h
  ·cases h
   show decide (zdv _ _≤top)=_
   rw[zwk fun p _ h=>hw p.1 h]
   rfl
theorem zpy{kept ks:List Nat}{w:Nat}(hw:∀k,w.testBit k=true→k∈kept)(h:ks.filter (fun k=>decide (k∈kept))=[]):cnt ks w=0:=by
 unfold cnt
 rw[List.length_eq_zero_iff,List.filter_eq_nil_iff]
 intro k hk z
 rw[List.filter_eq_nil_iff] at h
 exact h k hk (decide_eq_true (hw k z))
theorem zqc{kept:List Nat}{ps:List (Nat×Int)}{w:Nat}(hw:∀k,w.testBit k=true→k∈kept)(h:ps.filter (fun p=>decide (p.1∈kept))=[]):zdv ps (fun p=>w.testBit p.1)=0:=by
 have e:ps.filter (fun p=>w.testBit p.1)=[]:=by
  rw[List.filter_eq_nil_iff]
  intro k hk z
  rw[List.filter_eq_nil_iff] at h
  exact h k hk (decide_eq_true (hw k.1 z))
 unfold zdv
 rw[e]
 rfl
theorem zvf{m s w0:Nat}{L:List Bg}{C:List Tie}(nb:∀t∈C,∀u lo hi ks,t≠.bough u lo hi ks)(h0:w0<2^m)(W0:za0 (zan L C) w0=true)(hs:s<2^(zas m (zan L C)).length)(W:za0 (zan (fL1 m L C) (fC1 m L C)) s=true):za0 (zan L C) (zhs (zas m (zan L C)) s)=true:=by
 have pw:=zek m (zan L C)
 have ae:∀k,(zhs (zas m (zan L C)) s).testBit k=true→k∈zas m (zan L C):=fun k hk=>by
  rw[zgm pw,Bool.and_eq_true] at hk
  exact of_decide_eq_true hk.1
 have af:∀w,w<2^m→za0 (zan L C) w=true→∀k,w.testBit k=true→k∈zas m (zan L C):=fun w h1 h2 k hk=>zfi h1 h2 hk
 have ad:∀w,za0 (zan L C) w=true→∀t∈zan L C,t.keep w=true:=fun w hw t ht=>by
  unfold za0 at hw
  exact List.all_eq_true.mp (Bool.and_eq_true_iff.mp hw).2 t ht
 have es:=zxt pw hs
 obtain⟨w,ew⟩:∃w,w=zhs (zas m (zan L C)) s:=⟨_,rfl⟩
 rw[←ew] at ae es ⊢
 obtain⟨kept,ek⟩:∃kept,kept=zas m (zan L C):=⟨_,rfl⟩
 rw[←es] at W
 unfold za0 at W ⊢
 rw[Bool.and_eq_true,List.all_eq_true] at W ⊢
 refine⟨?_,fun t ht=>?_⟩
 ·have k0:0∈zas m (zan L C):=af w0 h0 W0 0 (by unfold za0 at W0;exact(Bool.and_eq_true_iff.mp W0).1)
  have e0:mv (zas m (zan L C)) 0=0:=by
   rcases Nat.eq_zero_or_pos (mv (zas m (zan L C)) 0) with z|z
   ·exact z
   ·have il:0<(zas m (zan L C)).length:=Nat.lt_trans z (zem k0)
    obtain⟨i1,e1⟩:=List.getElem?_eq_some_iff.mp (zgh k0)
    have:=List.pairwise_iff_getElem.mp pw 0 _ il i1 z
    omega
  have:=zck (w:=w) k0
  rw[e0] at this
  rw[←this]
  exact W.1
 ·rcases List.mem_append.mp ht with z|z
  ·obtain⟨b,hb,rfl⟩:=List.mem_map.mp z
   cases e:mvB (zas m (zan L C)) b with
   |some b'=>
    rw[←zp2 ae (zhe ht) e]
    exact W.2 _ (List.mem_append.mpr (.inl (List.mem_map.mpr ⟨b',List.mem_filterMap.mpr ⟨b,hb,e⟩,rfl⟩)))
   |none=>
    have nk:b.ks.filter (fun k=>decide (k∈zas m (zan L C)))=[]:=by
     unfold mvB at e
     split at e
     ·assumption
     ·cases e
    rw[zlz,zpy ae nk]
    by_cases u:w.testBit b.u=true
    ·rw[if_pos u]
     obtain⟨_,w1,ai,W1,ak⟩:=mem_keptL.mp (ae _ u)
     have:=ad w1 W1 _ ht
     rw[zlz,if_pos ak,zpy (af w1 ai W1) nk] at this
     exact this
    ·rw[if_neg u]
     rfl
  ·cases e:mvT (zas m (zan L C)) t with
   |some t'=>
    rw[←zpi ae (nb t z) e]
    exact W.2 _ (List.mem_append.mpr (.inr (List.mem_filterMap.mpr ⟨t,z,e⟩)))
   |none=>
    cases t with
    |bough u lo hi ks=>exact absurd rfl (nb _ z u lo hi ks)
    |needs a b=>
     simp only[mvT] at e
     split at e
     ·cases e
     ·rename_i ah
      show(!w.testBit a||w.testBit b)=true
      cases ha:w.testBit a
      ·rfl
      ·exfalso
       obtain⟨_,w1,ai,W1,aj⟩:=mem_keptL.mp (ae _ ha)
       have hk:(!w1.testBit a||w1.testBit b)=true:=ad w1 W1 _ ht
       rw[aj] at hk
       exact ah ⟨ae _ ha,af w1 ai W1 b (by simpa using hk)⟩
    |bans a b=>
     simp only[mvT] at e
     split at e
     ·cases e
     ·rename_i ah
      show(!w.testBit a||!w.testBit b)=true
      cases ha:w.testBit a
      ·rfl
      ·cases hb:w.testBit b
       ·rfl
       ·exact absurd ⟨ae _ ha,ae _ hb⟩ ah
    |most top ps=>
     simp only[mvT] at e
     split at e
     ·rename_i nk
      show decide (zdv ps (fun p=>w.testBit p.1)≤top)=true
      have hk:decide (zdv ps (fun p=>w0.testBit p.1)≤top)=true:=ad w0 W0 _ ht
      rw[zqc (af w0 h0 W0) nk] at hk
      rw[zqc ae nk]
      exact hk
     ·cases e
theorem zto{m:Nat}{L:List Bg}{C:List Tie}(nb:∀t∈C,∀u lo hi ks,t≠.bough u lo hi ks)(ware:∃s,s<2^m∧za0 (zan L C) s=true):(zb7 m L C).map (zhs (zas m (zan L C)))=zaz m (zan L C):=by
 obtain⟨w0,h0,W0⟩:=ware
 have pw:=zek m (zan L C)
 refine zu5 ?_ (ziw _ _) fun x=>?_
 ·rw[List.pairwise_map]
  exact(ziw _ _).imp_of_mem fun ha hb ad=>ztz pw ad (mem_wareL.mp hb).1
 ·rw[List.mem_map,mem_wareL]
  constructor
  ·rintro⟨s,hs,rfl⟩
   obtain⟨h1,h2⟩:=mem_wareL.mp hs
   exact⟨zxg pw (fun k hk=>(mem_keptL.mp hk).1) s,zvf nb h0 W0 h1 h2⟩
  ·rintro⟨h1,h2⟩
   exact⟨zdd (zas m (zan L C)) x,mem_wareL.mpr ⟨zr6 _ _,zlg nb h1 h2⟩,zx3 pw fun k hk=>zfi h1 h2 hk⟩
theorem zdw{n k:Nat}(h:k<n):mv (List.range n) k=k:=by
 have pw:(List.range n).Pairwise (·<·):=List.pairwise_lt_range
 have:=zk5 (kept:=List.range n) pw (i:=k) (by rw[List.length_range];exact h)
 rw[zcy (by rw[List.length_range];exact h),List.getElem_range] at this
 exact this
theorem zu1{n:Nat}{α:Type}(f:α→Nat){ks:List α}(h:∀k∈ks,f k<n):ks.filter (fun k=>decide (f k∈List.range n))=ks:=by
 rw[List.filter_eq_self]
 intro k hk
 exact decide_eq_true (List.mem_range.mpr (h k hk))
theorem zs6{n:Nat}{b:Bg}(ok:Tie.BoughOkW n b.u b.lo b.hi b.ks):mvB (List.range n) b=some b:=by
 unfold mvB
 have e:=zu1 (n:=n) (fun k=>k) (ks:=b.ks) fun k hk=>(ok.up k hk).2
 rw[e,if_neg ok.ks0,zdw ok.um]
 have e2:b.ks.map (mv (List.range n))=b.ks:=by
  conv=>rhs;rw[←List.map_id b.ks]
  exact List.map_congr_left fun k hk=>zdw (ok.up k hk).2
 rw[e2]
theorem ztl{n:Nat}{t:Tie}(ok:t.Ok n)(nb:∀u lo hi ks,t≠.bough u lo hi ks):mvT (List.range n) t=some t:=by
 cases t with
 |bough u lo hi ks=>exact absurd rfl (nb u lo hi ks)
 |needs a b=>
  obtain⟨h1,h2,_⟩:=ok
  simp only[mvT]
  rw[if_pos ⟨List.mem_range.mpr h1,List.mem_range.mpr h2⟩,zdw h1,zdw h2]
 |bans a b=>
  obtain⟨h1,h2,_⟩:=ok
  simp only[mvT]
  rw[if_pos ⟨List.mem_range.mpr h1,List.mem_range.mpr h2⟩,zdw h1,zdw h2]
 |most top ps=>
  simp only[mvT]
  have hp:∀p∈ps,p.1<n:=ok.2.1
  rw[zu1 (n:=n) (fun p:Nat×Int=>p.1) hp,if_neg ok.1]
  have e2:ps.map (fun p=>(mv (List.range n) p.1,p.2))=ps:=by
   conv=>rhs;rw[←List.map_id ps]
   exact List.map_congr_left fun p h=>by
    show(mv _ p.1,p.2)=p
    rw[zdw (hp p h)]
  rw[e2]
theorem zi4{α:Type}{f:α→Option α}{l:List α}(h:∀x∈l,f x=some x):l.filterMap f=l:=by
 induction l with
 |nil=>rfl
 |cons a r ih=>rw[List.filterMap_cons_some (h a List.mem_cons_self),ih fun x hx=>h x (List.mem_cons_of_mem _ hx)]
theorem TightB.fix{sold:List Nat}{b b':Bg}(h:TightB sold b b'):TightB sold b' b':=by
 refine⟨rfl,rfl,?_,?_,?_,?_⟩
 ·rw[h.u,h.ks];exact h.lo
 ·rw[h.u,h.ks];exact h.lo'
 ·rw[h.u,h.ks];exact h.hi
 ·rw[h.u,h.ks];exact h.hi'
theorem TightL.fix{sold:List Nat}:∀{L L':List Bg},TightL sold L L'→TightL sold L' L'
 |[],_,h=>by rw[show _=[] from h];rfl
 |_::_,_,⟨a,r,e,t,h⟩=>by rw[e];exact⟨a,r,rfl,t.fix,h.fix⟩
theorem zi1{k:Nat}{B:List Tie}{C:List Tie}(h:∀j,j<C.length→zcd k B C j≠none):∀{f p:Nat},C.length=p+f→zbf k B f C p=C
 |0,p,_=>rfl
 |f+1,p,e=>by
  unfold zbf
  rw[if_neg (h p (by omega))]
  exact zi1 h (by omega)
structure zz8(m:Nat)(L:List Bg)(C:List Tie)(k:Nat)(L2:List Bg)(C2:List Tie):Prop where
 kept:zas k (zan L2 C2)=List.range k
 l1:fL1 k L2 C2=L2
 sold:zb7 k L2 C2=zb7 m L C
 again:∀L3,TightL (zb7 k L2 C2) (fL1 k L2 C2) L3→L3=L2
 c2:fC2 k L2 C2 L2=C2
theorem zwm{m:Nat}{L:List Bg}{C:List Tie}{k:Nat}{L2:List Bg}{C2:List Tie}(nb:∀t∈C,∀u lo hi ks,t≠.bough u lo hi ks)(ek:k=(zas m (zan L C)).length)(tl:TightL (zb7 m L C) (fL1 m L C) L2)(e2:C2=fC2 m L C L2)(es:zaz k (zan L2 C2)=zb7 m L C)(okb:∀b∈L2,Tie.BoughOkW k b.u b.lo b.hi b.ks)(okc:∀t∈C2,t.Ok k)(nb2:∀t∈C2,∀u lo hi ks,t≠.bough u lo hi ks):zz8 m L C k L2 C2:=by
 have kp:zas k (zan L2 C2)=List.range k:=by
  unfold zas
  rw[es,List.filter_eq_self]
  intro i hi
  have il:i<(zas m (zan L C)).length:=by rw[←ek];exact List.mem_range.mp hi
  rw[List.any_eq_true]
  have hx:(zas m (zan L C)).getD i 0∈zas m (zan L C):=by rw[zcy il];exact List.getElem_mem il
  obtain⟨_,w,hw,W,hb⟩:=mem_keptL.mp hx
  refine⟨zdd (zas m (zan L C)) w,mem_wareL.mpr ⟨zr6 _ _,zlg nb hw W⟩,?_⟩
  have:=zck (w:=w) hx
  rw[zk5 (zek _ _) il] at this
  rw[this,hb]
 have l1:fL1 k L2 C2=L2:=by
  unfold fL1
  rw[kp]
  exact zi4 fun b hb=>zs6 (okb b hb)
 have c1:fC1 k L2 C2=C2:=by
  unfold fC1
  rw[kp]
  exact zi4 fun t ht=>ztl (okc t ht) (nb2 t ht)
 have so:zb7 k L2 C2=zb7 m L C:=by
  rw[show zb7 k L2 C2=zaz (zas k (zan L2 C2)).length (zan (fL1 k L2 C2) (fC1 k L2 C2)) from rfl,kp,l1,c1,List.length_range,es]
 refine⟨kp,l1,so,fun L3 h=>?_,?_⟩
 ·rw[so,l1] at h
  exact TightL.unique h tl.fix
 ·rw[show fC2 k L2 C2 L2=zbf (zas k (zan L2 C2)).length (L2.map Bg.tie) (fC1 k L2 C2).length (fC1 k L2 C2) 0 from rfl,kp,c1,List.length_range]
  refine zi1 ?_ (by omega)
  rw[e2,ek]
  exact zds (by omega) fun j hj=>absurd hj (Nat.not_lt_zero _)
end Wd
namespace L2
open PySem PySem.Spec PyProof.Rows
theorem zpu{X:Cx}:OpR X (compareOp .Is) (fun x y H Q=>∃a b:Bool,x=.bl a∧y=.bl b∧Q (.bl (a==b)) H):=by
 intro pins s σ H x y v u Q I rx ry h
 obtain⟨a,b,rfl,rfl,q⟩:=h
 cases rx
 cases ry
 exact is_bool (zbg I q rfl)
end L2
namespace Wd
open PySem L2 Ow
def znd(n:Nat):List Nat:=(List.range (Builtin.Int.intBits (n:Int))).filter fun k=>n.testBit k
theorem zxu{n k:Nat}(h:n.testBit k=true):k<Builtin.Int.intBits (n:Int):=by
 rcases Nat.lt_or_ge k (Builtin.Int.intBits (n:Int)) with z|z
 ·exact z
 ·exfalso
  unfold Builtin.Int.intBits at z
  by_cases e:n=0
  ·rw[e,Nat.zero_testBit] at h
   cases h
  ·rw[if_neg (by simpa using e)] at z
   have h1:(n:Int).natAbs=n:=Int.natAbs_natCast n
   rw[h1] at z
   have h2:=Nat.lt_log2_self (n:=n)
   have p:2^(n.log2+1)≤2^k:=Nat.pow_le_pow_right (by decide) z
   rw[Nat.testBit_lt_two_pow (by omega)] at h
   cases h
theorem zu7{n:Nat}(h:n<512):Builtin.Int.intBits (n:Int)≤9:=by
 have:∀n:_root_.Fin 512,Builtin.Int.intBits ((n.val:Nat):Int)≤9:=by decide +kernel
 exact this ⟨n,h⟩
theorem mem_bitsL{n k:Nat}:k∈znd n↔n.testBit k=true:=by
 unfold znd
 rw[List.mem_filter,List.mem_range]
 exact⟨fun h=>h.2,fun h=>⟨zxu h,h⟩⟩
def zvx:Sp:=fun vs H Q _=>∃n:Nat,vs=[.int (n:Int)]∧n<512∧∀(l:Addr)(H':Hp),Same H H'→H l=none→H' l=some (.lst (zaj (znd n)))→Q (.ref l) H'
def zrw:Sp:=fun vs H Q _=>∃(lk:Addr)(kept:List Nat)(s:Nat),vs=[.ref lk,.int (s:Int)]∧H lk=some (.lst (zaj kept))∧kept.Pairwise (·<·)∧kept.length≤9∧(∀k∈kept,k≤20)∧s<2^kept.length∧∀H',Same H H'→Q (.int (zhs kept s:Nat)) H'
def zzh:Sp:=fun vs H Q _=>∃(lk:Addr)(kept:List Nat)(s:Nat),vs=[.ref lk,.int (s:Int)]∧H lk=some (.lst (zaj kept))∧kept.length≤9∧(∀k∈kept,k≤20)∧∀H',Same H H'→Q (.int (zhs kept s:Nat)) H'
def zuo:Sp:=fun vs H Q _=>∃(w1 w2:Addr)(m:Nat)(t1 t2:List Tie),vs=[.ref w1,.ref w2]∧WoodT H w1 m t1∧WoodT H w2 m t2∧1≤m∧m≤9∧outside m t1 t2=[]∧outside m t2 t1=[]∧∀H',Same H H'→Q (.bl true) H'
theorem zzo{kept:List Nat}(pw:kept.Pairwise (·<·)){s wh:Nat}(hs:s<2^kept.length)(h:∀k,wh.testBit k=decide (∃j∈znd s,kept[j]?=some k)):wh=zhs kept s:=by
 refine Nat.eq_of_testBit_eq fun k=>?_
 rw[h k,zgm pw,Bool.eq_iff_iff,decide_eq_true_iff,Bool.and_eq_true,decide_eq_true_iff]
 constructor
 ·rintro⟨j,hj,e⟩
  obtain⟨jl,ej⟩:=List.getElem?_eq_some_iff.mp e
  have hk:k∈kept:=by rw[←ej];exact List.getElem_mem jl
  refine⟨hk,?_⟩
  have:mv kept k=j:=by
   have:=zk5 pw jl
   rw[zcy jl,ej] at this
   exact this
  rw[this]
  exact mem_bitsL.mp hj
 ·rintro⟨hk,hb⟩
  exact⟨mv kept k,mem_bitsL.mpr hb,zgh hk⟩
theorem zqe{ts:List Tie}{m y n s:Nat}(ok:∀t∈ts,t.Ok m)(m9:m≤9)(S:Stand m y n)(hs:s<2^m)(W:za0 ts s=true)(hi:InS y n s):zd2 ts (zbk ts) m y n=false:=by
 rw[Bool.eq_false_iff]
 intro z
 have h:=(zuc ok m9 S).mp z s hs hi
 unfold za0 at W
 rw[zey,(Bool.and_eq_true_iff.mp W).2] at h
 cases h
theorem zqs{s:Nat}(h:s.testBit 0=true):InS 1 0 s:=⟨fun k hk=>by
  cases k with
  |zero=>exact h
  |succ k=>rw[show(1:Nat)=2^0 from rfl,Nat.testBit_two_pow] at hk;simp at hk,fun k hk=>by rw[Nat.zero_testBit] at hk;cases hk⟩
theorem zui{s k:Nat}(h:s.testBit 0=true)(hk:s.testBit k=true):InS (1|||2^k) 0 s:=⟨fun j hj=>by
  rw[Nat.testBit_or,Bool.or_eq_true] at hj
  rcases hj with z|z
  ·exact(zqs h).1 j z
  ·rw[Nat.testBit_two_pow,decide_eq_true_iff] at z
   rw[←z]
   exact hk,fun k hk=>by rw[Nat.zero_testBit] at hk;cases hk⟩
theorem zq5{H0 H:Hp}{v:V}{ts:List Tie}{m k s:Nat}(h:zuh H0 H v ts m k)(ok:∀t∈ts,t.Ok m)(m1:1≤m)(m9:m≤9)(km:k<m)(hs:s<2^m)(W:za0 ts s=true)(hk:s.testBit k=true):∃p x xs,v=.ref p∧H p=some (.tup (.str x::xs))∧(x=("always" : Str)∨x=("either" : Str)):=by
 have h0:s.testBit 0=true:=by unfold za0 at W;exact(Bool.and_eq_true_iff.mp W).1
 have b1:=zqe ok m9 (zf4 m1) hs W (zqs h0)
 have b2:=zqe ok m9 (zle m1 km) hs W (zui h0 hk)
 obtain⟨p,rfl,z|z|z|z|z⟩:=h
 ·rw[b1] at z
  cases z.1
 ·exact⟨p,_,_,rfl,z.2.2,.inl rfl⟩
 ·rw[b2] at z
  cases z.2.2.1
 ·obtain⟨_,_,_,_,fv,hp,_⟩:=z
  exact⟨p,_,_,rfl,hp,.inl rfl⟩
 ·obtain⟨_,_,_,_,s1,s2,_,_,hp⟩:=z
  exact⟨p,_,_,rfl,hp,.inr rfl⟩
theorem Folded.kept{H H':Hp}{f:Addr}{m:Nat}{L:List Bg}{C:List Tie}{L2:List Bg}(h:Folded H H' f m L C L2){w2 lk lt ln:Addr}(hf:H' f=some (.tup [.ref w2,.ref lk,.ref lt,.ref ln])):H' lk=some (.lst (zaj (zas m (zan L C))))∧H lk=none:=by
 obtain⟨ak,aj,ai,ah,tb,tc,xt,ad,_,_,_,ae,_,_,_,af,_⟩:=h.ex
 rw[hf] at ad
 injection ad with e
 injection e with e
 injection e with _ e
 injection e with e _
 injection e with e
 rw[e]
 exact⟨ae,af⟩
def zn4(m:Nat)(L:List Bg)(C:List Tie):PyData:=.tuple [.int (m:Int),.tuple ((L.map Bg.tie).map Tie.toD),.tuple (C.map Tie.toD)]
theorem WoodP.dn{H:Hp}{wd tb tc:Addr}{m:Nat}{L:List Bg}{C:List Tie}(h:WoodP H wd tb tc m L C):Dn H (zn4 m L C) (.ref wd):=by
 obtain⟨xs,h1,d1⟩:=h.bs
 obtain⟨ys,h2,d2⟩:=h.cs
 exact⟨wd,_,rfl,h.at_,_,_,rfl,rfl,_,_,rfl,⟨tb,_,rfl,h1,d1⟩,_,_,rfl,⟨tc,_,rfl,h2,d2⟩,rfl⟩
theorem zma{H:Hp}{wd tb tc:Addr}{m:Nat}{L:List Bg}{C:List Tie}(h:WoodP H wd tb tc m L C):SeqAt.shaped (zn4 m L C)=true:=by
 have m9:=h.m9
 have f1:((L.map Bg.tie).map Tie.toD).all (zbd 3)=true:=zfl (m:=m) (fun t ht=>h.ok t (List.mem_append.mpr (.inl ht))) (by omega)
 have f2:(C.map Tie.toD).all (zbd 3)=true:=zfl h.okc (by omega)
 refine zr3 (n:=4) (by decide) ?_
 show(zbd 4 (.int (m:Int))&&(zbd 4 (.tuple ((L.map Bg.tie).map Tie.toD))&&(zbd 4 (.tuple (C.map Tie.toD))&&true)))=true
 have g1:zbd 4 (.tuple ((L.map Bg.tie).map Tie.toD))=true:=by
  show(decide (_≤1000)&&_)=true
  rw[f1,decide_eq_true (by rw[List.length_map,List.length_map];have:=h.fewb;omega)]
  rfl
 have g2:zbd 4 (.tuple (C.map Tie.toD))=true:=by
  show(decide (_≤1000)&&_)=true
  rw[f2,decide_eq_true (by rw[List.length_map];have:=h.fewc;omega)]
  rfl
 rw[g1,g2]
 rfl
theorem zvj{m:Nat}{ts:List Tie}(h:¬(zas m ts).length<m):zas m ts=List.range m:=by
 have s:(zas m ts).Sublist (List.range m):=List.filter_sublist
 refine s.eq_of_length_le ?_
 rw[List.length_range]
 omega
theorem zx2{m s:Nat}(h:s<2^m):zhs (List.range m) s=s:=by
 have pw:(List.range m).Pairwise (·<·):=List.pairwise_lt_range
 refine Nat.eq_of_testBit_eq fun k=>?_
 rw[zgm pw]
 by_cases z:k<m
 ·rw[decide_eq_true (List.mem_range.mpr z),Bool.true_and,zdw z]
 ·have p:2^m≤2^k:=Nat.pow_le_pow_right (by decide) (by omega)
  rw[decide_eq_false (fun y=>z (List.mem_range.mp y)),Bool.false_and,Nat.testBit_lt_two_pow (by omega)]
theorem zim{m:Nat}{t1 t2:List Tie}(h:zaz m t1=zaz m t2):outside m t1 t2=[]:=by
 rw[←zxj,h,List.filter_eq_nil_iff]
 intro s hs
 rw[decide_eq_true hs]
 exact Bool.false_ne_true
end Wd
namespace L2
open PySem PySem.Spec PyProof.Rows
theorem zzm{K:PySem.W.Frag}{a:Addr}{xs:List V}{σ0:St}{H:Hp}{g:TG}{tc:TT}{te:TE}{Q:VK}(hq:H a=some (.tup xs)∨H a=some (.lst xs))(Pv:Nat→List V→St→Hp→Prop)(h0:Pv 0 [] σ0 H)(hz:∀i ys σ H,i≤xs.length→Pv i ys σ H→ys.length≤sizeLine)
  (hl:∀i ys σ H2,i≤xs.length→Pv i ys σ H2→H2 a=H a)
  (hs:∀i x ys σ H,xs[i]?=some x→Pv i ys σ H→g x σ H fun σ3 H3=>tc σ3 H3 fun b H4=>if b=true then te σ3 H4 fun v H5=>Pv (i+1) (ys++[v]) σ3 H5 else Pv (i+1) ys σ3 H4)
  (hd:∀ys σ H,Pv xs.length ys σ H→∀p,H p=none→Q (.ref p) (upd H p (.lst ys))):
  ((∃xs,SqL K H a xs)∧zra (Itl K a) g tc te σ0 H Q)∨((∃xs,SqT K H a xs)∧zra (Itt K a) g tc te σ0 H Q):=by
 rcases hq with h|h
 ·exact .inr ⟨⟨_,Wd.sqT h⟩,zgt Pv h0 hz (fun i ys σ H2 hi pv=>Wd.sqT ((hl i ys σ H2 hi pv).trans h)) hs hd⟩
 ·exact .inl ⟨⟨_,SqL.of h⟩,zcw Pv h0 hz (fun i ys σ H2 hi pv=>SqL.of ((hl i ys σ H2 hi pv).trans h)) hs hd⟩
end L2
namespace Wd
open PySem L2 Ow
def zv2(f:List (Nat×Int)→Nat→Nat→Int):Sp:=fun vs H Q _=>∃(q:Addr)(xs:List V)(ps:List (Nat×Int))(y n:Nat),vs=[.ref q,.int y,.int n]∧(H q=some (.tup xs)∨H q=some (.lst xs))∧DnL H (ps.map zix) xs∧ps.length≤1000∧∀H',Same H H'→Q (.int (f ps y n)) H'
theorem zty{f:List (Nat×Int)→Nat→Nat→Int}{vs:List V}{H:Hp}{Q:VK}{E:XK}(h:zwb f vs H Q E):zv2 f vs H Q E:=by
 obtain⟨q,xs,ps,y,n,e,hq,r⟩:=h
 exact⟨q,xs,ps,y,n,e,.inl hq,r⟩
def zq6(C:Hp→Prop)(R:Nat→Nat→Prop)(lf:Str→Nat→Nat→Bool):Sp:=fun vs H Q _=>∃(w:Str)(y n:Nat),vs=[.str w,.int y,.int n]∧(C H∧R y n)∧∀H',Same H H'→Q (.bl (lf w y n)) H'
def zhm(f:Nat)(p:Addr)(C:Hp→Prop)(R:Nat→Nat→Prop)(m:Nat)(ts:List Tie)(lf:Str→Nat→Nat→Bool):Sp:=fun vs H Q _=>∃(wd:Addr)(y n:Nat)(t:WT)(v:V),vs=[.ref wd,.int y,.int n,v,.ref p]∧WoodT H wd m ts∧Dn H t.toD v∧t.good∧t.depth<f∧(C H∧R y n)∧∀H',Same H H'→Q (.bl (isT ts m lf t y n)) H'
theorem zza{C:Hp→Prop}{lf:Str→Nat→Nat→Bool}{vs:List V}{H:Hp}{Q:VK}{E:XK}(h:zq6 C (fun _ _=>True) lf vs H Q E):zv7 C lf vs H Q E:=by
 obtain⟨w,y,n,e,c,q⟩:=h
 exact⟨w,y,n,e,c.1,q⟩
theorem zsz{f:Nat}{p:Addr}{C:Hp→Prop}{m:Nat}{ts:List Tie}{lf:Str→Nat→Nat→Bool}{vs:List V}{H:Hp}{Q:VK}{E:XK}(h:zo2 f p C m ts lf vs H Q E):zhm f p C (fun _ _=>True) m ts lf vs H Q E:=by
 obtain⟨wd,y,n,t,v,e,a,b,c,d,g,q⟩:=h
 exact⟨wd,y,n,t,v,e,a,b,c,d,⟨g,trivial⟩,q⟩
end Wd
namespace Ow
open PySem L2 Wd
def top(i:Nat):Stmt:=PySem.Challenge.pw_optionwood_k73_whole_folded_sells_the_sa.main.body.getD i (.Pass ⟨0,0,0,0⟩)
abbrev zv3:Stmt:=top 5
abbrev zeb:Stmt:=top 6
abbrev ze6:Stmt:=top 7
abbrev zc6:Stmt:=top 8
abbrev zg8:Stmt:=top 10
abbrev zkk:Stmt:=top 11
abbrev zki:Stmt:=top 13
abbrev ze4:Stmt:=top 14
abbrev zfv:Stmt:=top 15
abbrev zg6:Stmt:=top 16
abbrev zef:Stmt:=top 17
abbrev zjd:Stmt:=top 18
abbrev ze7:Stmt:=top 19
abbrev zgj:Stmt:=top 20
abbrev ze0:Stmt:=top 21
abbrev zdb:Stmt:=top 22
abbrev za7:Stmt:=top 23
abbrev zbb:Stmt:=top 24
abbrev zcp:Stmt:=top 25
abbrev zcv:Stmt:=top 26
abbrev znm:Stmt:=top 28
abbrev zcg:Stmt:=top 29
abbrev zgl:Stmt:=top 30
abbrev zdx:Stmt:=top 31
abbrev zje:Stmt:=top 32
abbrev zdg:Stmt:=top 33
abbrev zh0:Stmt:=top 34
abbrev zoy:Stmt:=top 36
abbrev zfx:Stmt:=top 37
abbrev zcb:Stmt:=top 38
abbrev zb6:Stmt:=top 40
abbrev zid:Stmt:=top 41
abbrev zdo:Stmt:=top 42
abbrev zd5:Stmt:=top 43
abbrev ze1:Stmt:=top 44
abbrev zd7:Stmt:=top 45
abbrev zc4:Stmt:=top 46
abbrev zdn:Stmt:=top 47
abbrev zd1:Stmt:=top 48
abbrev zch:Stmt:=top 50
abbrev zbj:Stmt:=top 51
abbrev zif:Stmt:=top 52
abbrev ze5:Stmt:=top 53
abbrev zg5:Stmt:=top 54
abbrev zel:Stmt:=top 55
abbrev zrj:Stmt:=top 57
abbrev zgi:Stmt:=top 58
abbrev zft:Stmt:=top 59
abbrev zd8:Stmt:=top 60
abbrev zda:Stmt:=top 61
abbrev zie:Stmt:=top 62
abbrev zep:Stmt:=top 64
abbrev zgz:Stmt:=top 65
abbrev zc9:Stmt:=top 66
abbrev zen:Stmt:=top 67
abbrev zg7:Stmt:=top 68
abbrev zcj:Stmt:=top 69
abbrev zji:Stmt:=top 70
abbrev zf0:Stmt:=top 71
abbrev zhf:Stmt:=top 72
abbrev zfp:Stmt:=top 73
abbrev zgp:Stmt:=top 74
abbrev zqy:Stmt:=top 75
set_option genInjectivity false
set_option genSizeOfSpec false
set_option genSizeOf false
structure Adr where
 (f_has f_options_of f_with_option f_open_options f_many_ties f_tie_at f_keeps f_keeps_bough f_count_in f_every_tie f_first_broken f_is_ware f_sure_broken f_sure_kept f_least_sum f_greatest_sum f_sure_broken_bough f_sure_kept_bough f_first_sure_broken f_all_sure_kept f_cases f_cases_of f_ware_leaf f_told_tree f_is_tree f_is_broken_leaf f_wares_in f_wares f_first_ware f_first_keeping f_folded f_unfolded f_boughs_left f_cross_left f_tightened f_first_with f_without_needless f_first_breaking f_without_place f_within f_shows_within f_compared f_check_alike f_kept_leaf f_is_kept_leaf f_bars f_least_bar f_least_ties f_tie_others f_left_without f_standing f_law_take f_law_bough f_law_boughs f_law_most f_law_cross f_law_wood f_law_has f_law_barred f_law_old f_law_folded f_law_alike f_law:Addr)
 (c_cases_of t_cases_of c_within t_within c_shows_within t_shows_within x_NoWares x_Unlike:Addr)
structure Fds where
 (f_has f_options_of f_with_option f_open_options f_many_ties f_tie_at f_keeps f_keeps_bough f_count_in f_every_tie f_first_broken f_is_ware f_sure_broken f_sure_kept f_least_sum f_greatest_sum f_sure_broken_bough f_sure_kept_bough f_first_sure_broken f_all_sure_kept f_cases f_cases_of f_ware_leaf f_told_tree f_is_tree f_is_broken_leaf f_wares_in f_wares f_first_ware f_first_keeping f_folded f_unfolded f_boughs_left f_cross_left f_tightened f_first_with f_without_needless f_first_breaking f_without_place f_within f_shows_within f_compared f_check_alike f_kept_leaf f_is_kept_leaf f_bars f_least_bar f_least_ties f_tie_others f_left_without f_standing f_law_take f_law_bough f_law_boughs f_law_most f_law_cross f_law_wood f_law_has f_law_barred f_law_old f_law_folded f_law_alike f_law:FuncData)
structure Txt(K:PySem.W.Frag)(mg:Str→Option Value)(a:Adr)(d:Fds):Prop where
 m_range:mg "range" = none
 m_len:mg "len" = none
 m_isinstance:mg "isinstance" = none
 m_min:mg "min" = none
 m_max:mg "max" = none
 m_all:mg "all" = none
 m_int:mg "int" = none
 m_bool:mg "bool" = none
 m_list:mg "list" = none
 m_tuple:mg "tuple" = none
 m_sorted:mg "sorted" = none
 m_sum:mg "sum" = none
 m_any:mg "any" = none
 K_has:Df K mg "has" zv3 a.f_has d.f_has ["some", "k"]
 K_options_of:Df K mg "options_of" zeb a.f_options_of d.f_options_of ["some"]
 K_with_option:Df K mg "with_option" ze6 a.f_with_option d.f_with_option ["some", "k"]
 K_open_options:Df K mg "open_options" zc6 a.f_open_options d.f_open_options ["many", "yes", "no"]
 K_many_ties:Df K mg "many_ties" zg8 a.f_many_ties d.f_many_ties ["wood"]
 K_tie_at:Df K mg "tie_at" zkk a.f_tie_at d.f_tie_at ["wood", "t"]
 K_keeps:Df K mg "keeps" zki a.f_keeps d.f_keeps ["tie", "some"]
 K_keeps_bough:Df K mg "keeps_bough" ze4 a.f_keeps_bough d.f_keeps_bough ["bough", "some"]
 K_count_in:Df K mg "count_in" zfv a.f_count_in d.f_count_in ["kids", "some"]
 K_every_tie:Df K mg "every_tie" zg6 a.f_every_tie d.f_every_tie ["wood"]
 K_first_broken:Df K mg "first_broken" zef a.f_first_broken d.f_first_broken ["wood", "some"]
 K_is_ware:Df K mg "is_ware" zjd a.f_is_ware d.f_is_ware ["wood", "some"]
 K_sure_broken:Df K mg "sure_broken" ze7 a.f_sure_broken d.f_sure_broken ["tie", "yes", "no"]
 K_sure_kept:Df K mg "sure_kept" zgj a.f_sure_kept d.f_sure_kept ["tie", "yes", "no"]
 K_least_sum:Df K mg "least_sum" ze0 a.f_least_sum d.f_least_sum ["pairs", "yes", "no"]
 K_greatest_sum:Df K mg "greatest_sum" zdb a.f_greatest_sum d.f_greatest_sum ["pairs", "yes", "no"]
 K_sure_broken_bough:Df K mg "sure_broken_bough" za7 a.f_sure_broken_bough d.f_sure_broken_bough ["bough", "yes", "no"]
 K_sure_kept_bough:Df K mg "sure_kept_bough" zbb a.f_sure_kept_bough d.f_sure_kept_bough ["bough", "yes", "no"]
 K_first_sure_broken:Df K mg "first_sure_broken" zcp a.f_first_sure_broken d.f_first_sure_broken ["wood", "ties", "yes", "no"]
 K_all_sure_kept:Df K mg "all_sure_kept" zcv a.f_all_sure_kept d.f_all_sure_kept ["wood", "yes", "no"]
 K_cases:Df K mg "cases" znm a.f_cases d.f_cases ["wood", "yes", "no"]
 K_cases_of:Df K mg "cases_of" zcg a.f_cases_of d.f_cases_of ["wood", "ties", "yes", "no"]
 K_ware_leaf:Df K mg "ware_leaf" zgl a.f_ware_leaf d.f_ware_leaf ["wood", "yes", "no"]
 K_told_tree:Df K mg "told_tree" zdx a.f_told_tree d.f_told_tree ["wood", "ties", "yes", "no", "leaf_at"]
 K_is_tree:Df K mg "is_tree" zje a.f_is_tree d.f_is_tree ["wood", "yes", "no", "tree", "is_leaf"]
 K_is_broken_leaf:Df K mg "is_broken_leaf" zdg a.f_is_broken_leaf d.f_is_broken_leaf ["wood", "yes", "no", "t"]
 K_wares_in:Df K mg "wares_in" zh0 a.f_wares_in d.f_wares_in ["yes", "tree"]
 K_wares:Df K mg "wares" zoy a.f_wares d.f_wares ["wood"]
 K_first_ware:Df K mg "first_ware" zfx a.f_first_ware d.f_first_ware ["wood", "yes", "no"]
 K_first_keeping:Df K mg "first_keeping" zcb a.f_first_keeping d.f_first_keeping ["wood", "ties", "yes", "no"]
 K_folded:Df K mg "folded" zb6 a.f_folded d.f_folded ["wood"]
 K_unfolded:Df K mg "unfolded" zid a.f_unfolded d.f_unfolded ["kept", "some"]
 K_boughs_left:Df K mg "boughs_left" zdo a.f_boughs_left d.f_boughs_left ["boughs", "kept"]
 K_cross_left:Df K mg "cross_left" zd5 a.f_cross_left d.f_cross_left ["cross", "kept"]
 K_tightened:Df K mg "tightened" ze1 a.f_tightened d.f_tightened ["bough", "sold"]
 K_first_with:Df K mg "first_with" zd7 a.f_first_with d.f_first_with ["sold", "bough", "count"]
 K_without_needless:Df K mg "without_needless" zc4 a.f_without_needless d.f_without_needless ["many", "boughs", "cross"]
 K_first_breaking:Df K mg "first_breaking" zdn a.f_first_breaking d.f_first_breaking ["many", "boughs", "cross", "place"]
 K_without_place:Df K mg "without_place" zd1 a.f_without_place d.f_without_place ["cross", "place"]
 K_within:Df K mg "within" zch a.f_within d.f_within ["one", "other"]
 K_shows_within:Df K mg "shows_within" zbj a.f_shows_within d.f_shows_within ["one", "other", "tree"]
 K_compared:Df K mg "compared" zif a.f_compared d.f_compared ["one", "other"]
 K_check_alike:Df K mg "check_alike" ze5 a.f_check_alike d.f_check_alike ["one", "other"]
 K_kept_leaf:Df K mg "kept_leaf" zg5 a.f_kept_leaf d.f_kept_leaf ["other", "yes", "no"]
 K_is_kept_leaf:Df K mg "is_kept_leaf" zel a.f_is_kept_leaf d.f_is_kept_leaf ["other", "word", "yes", "no"]
 K_bars:Df K mg "bars" zrj a.f_bars d.f_bars ["wood", "ties", "yes", "no"]
 K_least_bar:Df K mg "least_bar" zgi a.f_least_bar d.f_least_bar ["wood", "yes", "no"]
 K_least_ties:Df K mg "least_ties" zft a.f_least_ties d.f_least_ties ["wood", "yes", "no"]
 K_tie_others:Df K mg "tie_others" zd8 a.f_tie_others d.f_tie_others ["wood", "ties", "yes", "no"]
 K_left_without:Df K mg "left_without" zda a.f_left_without d.f_left_without ["things", "one"]
 K_standing:Df K mg "standing" zie a.f_standing d.f_standing ["wood", "k"]
 K_law_take:Df K mg "_law_take" zep a.f_law_take d.f_law_take ["_law_state", "_law_most_here"]
 K_law_bough:Df K mg "_law_bough" zgz a.f_law_bough d.f_law_bough ["_law_state", "_law_up", "_law_kids"]
 K_law_boughs:Df K mg "_law_boughs" zc9 a.f_law_boughs d.f_law_boughs ["_law_state", "_law_many"]
 K_law_most:Df K mg "_law_most" zen a.f_law_most d.f_law_most ["_law_state", "_law_many"]
 K_law_cross:Df K mg "_law_cross" zg7 a.f_law_cross d.f_law_cross ["_law_state", "_law_many"]
 K_law_wood:Df K mg "_law_wood" zcj a.f_law_wood d.f_law_wood ["_law_state"]
 K_law_has:Df K mg "_law_has" zji a.f_law_has d.f_law_has ["_law_some", "_law_k"]
 K_law_barred:Df K mg "_law_barred" zf0 a.f_law_barred d.f_law_barred ["_law_state", "_law_wood_here"]
 K_law_old:Df K mg "_law_old" zhf a.f_law_old d.f_law_old ["_law_kept", "_law_some"]
 K_law_folded:Df K mg "_law_folded" zfp a.f_law_folded d.f_law_folded ["_law_wood_here"]
 K_law_alike:Df K mg "_law_alike" zgp a.f_law_alike d.f_law_alike ["_law_wood_here", "_law_small"]
 K_law:Df K mg "law" zqy a.f_law d.f_law ["_law_script"]
 code_cases_of:d.f_cases_of.code=.ref a.c_cases_of
 code_within:d.f_within.code=.ref a.c_within
 code_shows_within:d.f_shows_within.code=.ref a.c_shows_within
 g_NoWares:mg "NoWares" = some (.ref a.x_NoWares)
 g_Unlike:mg "Unlike" = some (.ref a.x_Unlike)
 x_NoWares:zAd K a.x_NoWares
 x_Unlike:zAd K a.x_Unlike
 k_NoWares_NoWares:PySem.W.kitOne K (.ref a.x_NoWares) (.ref a.x_NoWares)=some true
 k_NoWares_Unlike:PySem.W.kitOne K (.ref a.x_NoWares) (.ref a.x_Unlike)=some false
 v_NoWares:PySem.W.kitOne K (.ref a.x_NoWares) (.type "ValueError")=some true
 s_NoWares_NoWares:zva K a.x_NoWares a.x_NoWares=true
 k_Unlike_NoWares:PySem.W.kitOne K (.ref a.x_Unlike) (.ref a.x_NoWares)=some false
 k_Unlike_Unlike:PySem.W.kitOne K (.ref a.x_Unlike) (.ref a.x_Unlike)=some true
 v_Unlike:PySem.W.kitOne K (.ref a.x_Unlike) (.type "ValueError")=some true
theorem zzj:zap ["some", "k"] ["some", "k"] (zag zv3):=scm rfl rfl rfl rfl rfl
theorem zmh:zap ["some"] ["some"] (zag zeb):=scm rfl rfl rfl rfl rfl
theorem zk9:zap ["some", "k"] ["some", "k"] (zag ze6):=scm rfl rfl rfl rfl rfl
theorem zj4:zap ["many", "yes", "no"] ["many", "yes", "no"] (zag zc6):=scm rfl rfl rfl rfl rfl
theorem zoa:zap ["wood"] ["wood"] (zag zg8):=scm rfl rfl rfl rfl rfl
theorem sc_tie_at:zap ["wood", "t", "boughs"] ["wood", "t"] (zag zkk):=scm rfl rfl rfl rfl rfl
theorem zul:zap ["tie", "some"] ["tie", "some"] (zag zki):=scm rfl rfl rfl rfl rfl
theorem sc_keeps_bough:zap ["bough", "some", "count"] ["bough", "some"] (zag ze4):=scm rfl rfl rfl rfl rfl
theorem zqj:zap ["kids", "some"] ["kids", "some"] (zag zfv):=scm rfl rfl rfl rfl rfl
theorem zoh:zap ["wood"] ["wood"] (zag zg6):=scm rfl rfl rfl rfl rfl
theorem sc_first_broken:zap ["wood", "some", "t"] ["wood", "some"] (zag zef):=scm rfl rfl rfl rfl rfl
theorem zr1:zap ["wood", "some"] ["wood", "some"] (zag zjd):=scm rfl rfl rfl rfl rfl
theorem zln:zap ["tie", "yes", "no"] ["tie", "yes", "no"] (zag ze7):=scm rfl rfl rfl rfl rfl
theorem znk:zap ["tie", "yes", "no"] ["tie", "yes", "no"] (zag zgj):=scm rfl rfl rfl rfl rfl
theorem zop:zap ["pairs", "yes", "no"] ["pairs", "yes", "no"] (zag ze0):=scm rfl rfl rfl rfl rfl
theorem zkc:zap ["pairs", "yes", "no"] ["pairs", "yes", "no"] (zag zdb):=scm rfl rfl rfl rfl rfl
theorem sc_sure_broken_bough:zap ["bough", "yes", "no", "least", "greatest", "some_with_up", "some_without_up"] ["bough", "yes", "no"] (zag za7):=scm rfl rfl rfl rfl rfl
theorem sc_sure_kept_bough:zap ["bough", "yes", "no", "least", "greatest", "all_with_up", "all_without_up"] ["bough", "yes", "no"] (zag zbb):=scm rfl rfl rfl rfl rfl
theorem sc_first_sure_broken:zap ["wood", "ties", "yes", "no", "t"] ["wood", "ties", "yes", "no"] (zag zcp):=scm rfl rfl rfl rfl rfl
theorem zjg:zap ["wood", "yes", "no"] ["wood", "yes", "no"] (zag zcv):=scm rfl rfl rfl rfl rfl
theorem zvz:zap ["wood", "yes", "no"] ["wood", "yes", "no"] (zag znm):=scm rfl rfl rfl rfl rfl
theorem zpp:zap ["wood", "ties", "yes", "no"] ["wood", "ties", "yes", "no"] (zag zcg):=scm rfl rfl rfl rfl rfl
theorem zox:zap ["wood", "yes", "no"] ["wood", "yes", "no"] (zag zgl):=scm rfl rfl rfl rfl rfl
theorem sc_told_tree:zap ["wood", "ties", "yes", "no", "leaf_at", "broken", "leaf", "k", "one", "other"] ["wood", "ties", "yes", "no", "leaf_at"] (zag zdx):=scm rfl rfl rfl rfl rfl
theorem sc_is_tree:zap ["wood", "yes", "no", "tree", "is_leaf", "k"] ["wood", "yes", "no", "tree", "is_leaf"] (zag zje):=scm rfl rfl rfl rfl rfl
theorem ziq:zap ["wood", "yes", "no", "t"] ["wood", "yes", "no", "t"] (zag zdg):=scm rfl rfl rfl rfl rfl
theorem zo3:zap ["yes", "tree"] ["yes", "tree"] (zag zh0):=scm rfl rfl rfl rfl rfl
theorem sc_wares:zap ["wood", "root"] ["wood"] (zag zoy):=scm rfl rfl rfl rfl rfl
theorem zmf:zap ["wood", "yes", "no"] ["wood", "yes", "no"] (zag zfx):=scm rfl rfl rfl rfl rfl
theorem sc_first_keeping:zap ["wood", "ties", "yes", "no", "left", "k", "found"] ["wood", "ties", "yes", "no"] (zag zcb):=scm rfl rfl rfl rfl rfl
theorem sc_folded:zap ["wood", "sold", "kept", "boughs", "cross", "tight", "needed"] ["wood"] (zag zb6):=scm rfl rfl rfl rfl rfl
theorem sc_unfolded:zap ["kept", "some", "whole", "k"] ["kept", "some"] (zag zid):=scm rfl rfl rfl rfl rfl
theorem sc_boughs_left:zap ["boughs", "kept", "left", "up", "low", "high", "kids", "fewer"] ["boughs", "kept"] (zag zdo):=scm rfl rfl rfl rfl rfl
theorem sc_cross_left:zap ["cross", "kept", "left", "tie", "pairs"] ["cross", "kept"] (zag zd5):=scm rfl rfl rfl rfl rfl
theorem sc_tightened:zap ["bough", "sold", "counts"] ["bough", "sold"] (zag ze1):=scm rfl rfl rfl rfl rfl
theorem zme:zap ["sold", "bough", "count"] ["sold", "bough", "count"] (zag zd7):=scm rfl rfl rfl rfl rfl
theorem sc_without_needless:zap ["many", "boughs", "cross", "left", "place"] ["many", "boughs", "cross"] (zag zc4):=scm rfl rfl rfl rfl rfl
theorem sc_first_breaking:zap ["many", "boughs", "cross", "place", "some"] ["many", "boughs", "cross", "place"] (zag zdn):=scm rfl rfl rfl rfl rfl
theorem zjk:zap ["cross", "place"] ["cross", "place"] (zag zd1):=scm rfl rfl rfl rfl rfl
theorem sc_within:zap ["one", "other", "outside", "root"] ["one", "other"] (zag zch):=scm rfl rfl rfl rfl rfl
theorem sc_shows_within:zap ["one", "other", "tree", "root"] ["one", "other", "tree"] (zag zbj):=scm rfl rfl rfl rfl rfl
theorem sc_compared:zap ["one", "other", "there", "back"] ["one", "other"] (zag zif):=scm rfl rfl rfl rfl rfl
theorem zko:zap ["one", "other"] ["one", "other"] (zag ze5):=scm rfl rfl rfl rfl rfl
theorem zn6:zap ["other", "yes", "no"] ["other", "yes", "no"] (zag zg5):=scm rfl rfl rfl rfl rfl
theorem zka:zap ["other", "word", "yes", "no"] ["other", "word", "yes", "no"] (zag zel):=scm rfl rfl rfl rfl rfl
theorem zya:zap ["wood", "ties", "yes", "no"] ["wood", "ties", "yes", "no"] (zag zrj):=scm rfl rfl rfl rfl rfl
theorem sc_least_bar:zap ["wood", "yes", "no", "left"] ["wood", "yes", "no"] (zag zgi):=scm rfl rfl rfl rfl rfl
theorem sc_least_ties:zap ["wood", "yes", "no", "left", "t", "fewer"] ["wood", "yes", "no"] (zag zft):=scm rfl rfl rfl rfl rfl
theorem zmd:zap ["wood", "ties", "yes", "no"] ["wood", "ties", "yes", "no"] (zag zd8):=scm rfl rfl rfl rfl rfl
theorem zj5:zap ["things", "one"] ["things", "one"] (zag zda):=scm rfl rfl rfl rfl rfl
theorem sc_standing:zap ["wood", "k", "root", "alone", "having", "without"] ["wood", "k"] (zag zie):=scm rfl rfl rfl rfl rfl
theorem sc_law_take:zap ["_law_state", "_law_most_here", "_law_at", "_law_script", "_law_mingled"] ["_law_state", "_law_most_here"] (zag zep):=scm rfl rfl rfl rfl rfl
theorem sc_law_bough:zap ["_law_state", "_law_up", "_law_kids", "_law_size", "_law_way", "_law_high"] ["_law_state", "_law_up", "_law_kids"] (zag zgz):=scm rfl rfl rfl rfl rfl
theorem sc_law_boughs:zap ["_law_state", "_law_many", "_law_groups", "_law_k", "_law_up", "_law_mates"] ["_law_state", "_law_many"] (zag zc9):=scm rfl rfl rfl rfl rfl
theorem sc_law_most:zap ["_law_state", "_law_many", "_law_far", "_law_pairs", "_law_k"] ["_law_state", "_law_many"] (zag zen):=scm rfl rfl rfl rfl rfl
theorem sc_law_cross:zap ["_law_state", "_law_many", "_law_one", "_law_other"] ["_law_state", "_law_many"] (zag zg7):=scm rfl rfl rfl rfl rfl
theorem sc_law_wood:zap ["_law_state", "_law_many", "_law_boughs_here", "_law_count"] ["_law_state"] (zag zcj):=scm rfl rfl rfl rfl rfl
theorem zrm:zap ["_law_some", "_law_k"] ["_law_some", "_law_k"] (zag zji):=scm rfl rfl rfl rfl rfl
theorem sc_law_barred:zap ["_law_state", "_law_wood_here", "_law_tie"] ["_law_state", "_law_wood_here"] (zag zf0):=scm rfl rfl rfl rfl rfl
theorem zq3:zap ["_law_kept", "_law_some"] ["_law_kept", "_law_some"] (zag zhf):=scm rfl rfl rfl rfl rfl
theorem sc_law_folded:zap ["_law_wood_here", "_law_found"] ["_law_wood_here"] (zag zfp):=scm rfl rfl rfl rfl rfl
theorem sc_law_alike:zap ["_law_wood_here", "_law_small", "_law_told"] ["_law_wood_here", "_law_small"] (zag zgp):=scm rfl rfl rfl rfl rfl
theorem sc_law:zap ["_law_script", "_law_state", "_law_wood_here", "_law_some", "_law_found", "_law_small", "_law_kept", "_law_tight", "_law_needed", "_law_k", "_law_one", "_law_told", "_law_again"] ["_law_script"] (zag zqy):=scm rfl rfl rfl rfl rfl
section
variable {P : Program} {w : World} {K : PySem.W.Frag} {mg : Str → Option Value} {base : Heap} {a : Adr} {d : Fds}
def zAb:Sp:=fun vs H Q _=>∃n k:Int,vs=[.int n,.int k]∧Q (.bl (znj n k)) H
theorem zcq(T:Txt K mg a d):FnOk P w K mg base CX0 1 a.f_has d.f_has ["some", "k"] zAb:=by
 refine T.K_has.ok zzj (fun vs H Q E h=>?_) (fun cdv A outer s H vs Q E hr h=>?_)
 ·obtain⟨n,k,rfl,_⟩:=h
  rfl
 obtain⟨n,k,rfl,q⟩:=h
 refine⟨_,(zah (zak (zdi (zbp zzv (pv 1) zad (zao _)) (zca (zbp zbh (zba zzi (zba zzd (pv 0) (pv 1)) zad) zad (zao _)))))),?_⟩
 refine⟨_,rfl,_,_,rfl,rfl,_,rfl,?_⟩
 refine zbv (fun c=>?_) (fun c=>?_)
 ·have hk:(0:Int)≤k:=of_decide_eq_true c
  refine⟨_,rfl,_,rfl,_,_,rfl,rfl,hk,_,_,rfl,rfl,rfl,?_⟩
  have e:decide (V.int (Builtin.bitAnd (n/2^k.toNat) 1)=V.int 1)=znj n k:=by
   unfold znj
   rw[decide_eq_true hk,Bool.true_and,zha,zBc]
   by_cases z:n/2^k.toNat%2=1
   ·rw[decide_eq_true z]
    simpa using z
   ·rw[decide_eq_false z]
    simpa using z
  show Q (.bl (decide (V.int (Builtin.bitAnd (n/2^k.toNat) 1)=V.int 1))) H
  rw[e]
  exact q
 ·have hk:¬(0:Int)≤k:=of_decide_eq_false (Bool.eq_false_iff.mpr c)
  have e:znj n k=false:=by
   unfold znj
   rw[decide_eq_false hk,Bool.false_and]
  rw[e] at q
  exact q
theorem zmj(T:Txt K mg a d):FnOk P w K mg base CX0 2 a.f_options_of d.f_options_of ["some"] zvx:=by
 have ad:=zcq (P:=P) (w:=w) (base:=base) T
 refine T.K_options_of.ok zmh (fun vs H Q E h=>?_) (fun cdv A outer s H vs Q E hr h=>?_)
 ·obtain⟨n,rfl,_⟩:=h
  rfl
 obtain⟨n,rfl,n9,q⟩:=h
 have ae:(2:Int)^62=4611686018427387904:=by decide
 have b9:=zu7 n9
 refine⟨_,(zah (zak (zdc (N':=["k", "some"]) (n:=1) (kp:=[0]) rfl (zco rfl T.m_range (zaa (zxc (K:=K) PySem.F.plainAttrs_int PySem.F.slot_int_bit_length PySem.F.type_int_bit_length zxk (pv 0)) zab)) rfl rfl rfl (fun _ _ _ _ _=>(zaw (i:=0) (of_decide_eq_true rfl) rfl (Or.inl rfl))) (fun _ _ _ _ _=>(zb2 (zbx (zac ad hr.lv rfl T.K_has (zaa (pv 1) (zaa (pv 0) zab)))))) (fun _ _ _ _ _=>(pv 0))))),?_⟩
 refine⟨_,rfl,rfl,_,rfl,rfl,_,rfl,by rw[ae];omega,by rw[ae];omega,?_⟩
 rw[Int.toNat_natCast]
 refine zed (k:=Builtin.Int.intBits (n:Int)) (fun i zs σ H2=>(∃v,σ=[v,some (.int (n:Int))])∧H2=H∧zs=zaj ((List.range i).filter fun k=>n.testBit k)) ⟨⟨none,rfl⟩,rfl,rfl⟩ (fun i zs σ H2 hi pv=>?_) (fun i zs σ H2 hi pv=>?_) (fun zs σ H2 pv l hl=>?_)
 ·obtain⟨_,_,rfl⟩:=pv
  rw[List.length_map]
  refine small (Nat.le_trans (List.length_filter_le _ _) ?_)
  rw[List.length_range]
  omega
 ·obtain⟨⟨v,rfl⟩,rfl,rfl⟩:=pv
  have er:∀z,n.testBit i=z→(List.range (i+1)).filter (fun k=>n.testBit k)=(List.range i).filter (fun k=>n.testBit k)++(if z=true then [i] else []):=fun z hz=>by
   rw[List.range_succ,List.filter_append]
   congr 1
   cases z
   ·rw[List.filter_cons_of_neg (by rw[hz];exact Bool.false_ne_true)];rfl
   ·rw[List.filter_cons_of_pos (by exact hz)];rfl
  refine⟨_,rfl,_,rfl,_,_,rfl,_,rfl,?_⟩
  rw[za4]
  refine zbv (fun c=>?_) (fun c=>?_)
  ·refine⟨_,rfl,⟨_,rfl⟩,rfl,?_⟩
   rw[er true c,if_pos rfl,zdj]
   rfl
  ·refine⟨⟨_,rfl⟩,rfl,?_⟩
   rw[er false (Bool.eq_false_iff.mpr c),if_neg Bool.false_ne_true,List.append_nil]
 obtain⟨_,rfl,rfl⟩:=pv
 exact q l _ (zai hl _) hl zaf
theorem zbi(T:Txt K mg a d):FnOk P w K mg base CX0 1 a.f_with_option d.f_with_option ["some", "k"] zwv:=by
 refine T.K_with_option.ok zk9 (fun vs H Q E h=>?_) (fun cdv A outer s H vs Q E hr h=>?_)
 ·obtain⟨n,k,rfl,_⟩:=h
  rfl
 obtain⟨n,k,rfl,hk,q⟩:=h
 refine⟨_,(zah (zak (zba zsn (pv 0) (zba znu zad (pv 1))))),?_⟩
 refine⟨_,rfl,_,rfl,_,_,rfl,rfl,⟨by omega,by omega,by decide⟩,_,_,rfl,rfl,?_⟩
 have e:Builtin.bitOr (n:Int) (1*2^((k:Nat):Int).toNat)=((n|||2^k:Nat):Int):=by rw[zs8,zkg]
 show Q (.int (Builtin.bitOr (n:Int) (1*2^((k:Nat):Int).toNat))) H
 rw[e]
 exact q
theorem zcz(T:Txt K mg a d):FnOk P w K mg base CX0 2 a.f_open_options d.f_open_options ["many", "yes", "no"] zzk:=by
 have ad:=zcq (P:=P) (w:=w) (base:=base) T
 refine T.K_open_options.ok zj4 (fun vs H Q E h=>?_) (fun cdv A outer s H vs Q E hr h=>?_)
 ·obtain⟨m,y,n,rfl,_⟩:=h
  rfl
 obtain⟨m,y,n,rfl,m9,q⟩:=h
 have af:(2:Int)^62=4611686018427387904:=by decide
 refine⟨_,(zah (zak (zdc (N':=["k", "yes", "no"]) (n:=1) (kp:=[1,2]) rfl (zco rfl T.m_range (zaa (pv 0) zab)) rfl rfl rfl (fun _ _ _ _ _=>(zaw (i:=0) (of_decide_eq_true rfl) rfl (Or.inl rfl))) (fun _ _ _ _ _=>(zb2 (zfw (zbx (zac ad hr.lv rfl T.K_has (zaa (zba zsn (pv 1) (pv 2)) (zaa (pv 0) zab))))))) (fun _ _ _ _ _=>(pv 0))))),?_⟩
 refine⟨_,rfl,_,rfl,by rw[af];omega,by rw[af];omega,?_⟩
 rw[Int.toNat_natCast]
 refine zed (k:=m) (fun i ys σ H2=>(∃v,σ=[v,some (.int y),some (.int n)])∧H2=H∧i≤m∧ys=zaj ((List.range i).filter fun k=>!(y|||n).testBit k)) ⟨⟨none,rfl⟩,rfl,Nat.zero_le _,rfl⟩ (fun i ys σ H2 hi pv=>?_) (fun i ys σ H2 hi pv=>?_) (fun ys σ H2 pv fl ae=>?_)
 ·obtain⟨_,_,h1,rfl⟩:=pv
  rw[List.length_map]
  refine small (Nat.le_trans (List.length_filter_le _ _) ?_)
  rw[List.length_range]
  omega
 ·obtain⟨⟨v0,rfl⟩,rfl,h1,rfl⟩:=pv
  refine⟨_,rfl,_,rfl,_,_,rfl,rfl,_,rfl,_,_,rfl,_,rfl,?_⟩
  have ee:=ziu (fun k=>!(y|||n).testBit k) i
  rw[zkg,za4]
  refine zbv (fun c2=>?_) (fun c2=>?_)
  ·refine⟨_,rfl,⟨_,rfl⟩,rfl,hi,?_⟩
   rw[ee,if_pos c2]
   show _=List.map _ (_++[i])
   rw[List.map_append]
   rfl
  ·refine⟨⟨_,rfl⟩,rfl,hi,?_⟩
   rw[ee,if_neg c2,List.append_nil]
 obtain⟨_,rfl,_,rfl⟩:=pv
 exact q fl _ (zai ae _) ae zaf
theorem ziv(T:Txt K mg a d):FnOk P w K mg base CX0 1 a.f_many_ties d.f_many_ties ["wood"] zyl:=by
 refine T.K_many_ties.ok zoa (fun vs H Q E h=>?_) (fun cdv A outer s H vs Q E hr h=>?_)
 ·obtain⟨wd,many,xs,ys,rfl,_⟩:=h
  rfl
 obtain⟨wd,many,xs,ys,rfl,⟨tb,tc,hw,hb,hc⟩,q⟩:=h
 refine⟨_,(zah (zak (zba zcr (zav (zcs (K:=K)) rfl T.m_len PySem.boot_len (zaa (zal (ixT (K:=K)) (pv 0) zad (fun _ _=>rfl)) zab)) (zav (zcs (K:=K)) rfl T.m_len PySem.boot_len (zaa (zal (ixT (K:=K)) (pv 0) zad (fun _ _=>rfl)) zab))))),?_⟩
 exact⟨_,rfl,wd,_,_,_,rfl,rfl,sqT hw,at1,tb,_,rfl,.inr (sqT hb),_,rfl,wd,_,_,_,rfl,rfl,sqT hw,at2,tc,_,rfl,.inr (sqT hc),_,_,rfl,rfl,q⟩
theorem zhn(T:Txt K mg a d):FnOk P w K mg base CX0 1 a.f_tie_at d.f_tie_at ["wood", "t"] zxy:=by
 refine T.K_tie_at.ok sc_tie_at (fun vs H Q E h=>?_) (fun cdv A outer s H vs Q E hr h=>?_)
 ·obtain⟨wd,many,xs,ys,t,v,rfl,_⟩:=h
  rfl
 obtain⟨wd,many,xs,ys,t,v,rfl,⟨tb,tc,hw,hb,hc⟩,hv,q⟩:=h
 refine⟨_,(zae (zar (i:=2) sc_tie_at.nd rfl (Or.inl rfl) (zal (ixT (K:=K)) (pv 0) zad (fun _ _=>rfl)))
   (zae (za2 (zam zm9 (pv 1) (zav (zcs (K:=K)) rfl T.m_len PySem.boot_len (zaa (pv 2) zab)) (zao _)) (zah (zak (zal (ixT (K:=K)) (pv 2) (pv 1) (fun _ _=>rfl)))) zat)
   (zah (zak (zal (ixT (K:=K)) (zal (ixT (K:=K)) (pv 0) zad (fun _ _=>rfl)) (zba zh9 (pv 1) (zav (zcs (K:=K)) rfl T.m_len PySem.boot_len (zaa (pv 2) zab))) (fun _ _=>rfl)))))),?_⟩
 refine⟨_,rfl,wd,_,_,_,rfl,rfl,sqT hw,at1,?_⟩
 refine⟨_,rfl,_,rfl,tb,_,rfl,.inr (sqT hb),_,_,rfl,rfl,_,rfl,?_⟩
 refine zbv (fun c=>?_) (fun c=>?_)
 ·have c':(t:Int)<(xs.length:Nat):=of_decide_eq_true c
  rw[List.getElem?_append_left (by omega)] at hv
  exact⟨_,rfl,_,rfl,tb,_,_,_,rfl,rfl,sqT hb,zcx hv,q⟩
 ·have c':¬(t:Int)<(xs.length:Nat):=of_decide_eq_false (Bool.eq_false_iff.mpr c)
  rw[List.getElem?_append_right (by omega)] at hv
  have e:((t:Int)-((xs.length:Nat):Int))=((t-xs.length:Nat):Int):=by omega
  refine⟨_,rfl,wd,_,_,_,rfl,rfl,sqT hw,at2,_,rfl,_,rfl,tb,_,rfl,.inr (sqT hb),_,_,rfl,rfl,tc,_,_,_,rfl,rfl,sqT hc,?_,q⟩
  show atI ys ((t:Int)-((xs.length:Nat):Int))=some v
  rw[e]
  exact zcx hv
def zww:Sp:=fun vs H Q _=>∃(p:Addr)(ks:List Nat)(n:Nat),vs=[.ref p,.int n]∧H p=some (.tup (ks.map fun k:Nat=>V.int (k:Int)))∧ks.length≤1000∧∀H',Same H H'→Q (.int (cnt ks n:Nat)) H'
theorem zdu(T:Txt K mg a d):FnOk P w K mg base CX0 2 a.f_count_in d.f_count_in ["kids", "some"] zww:=by
 have ad:=zcq (P:=P) (w:=w) (base:=base) T
 refine T.K_count_in.ok zqj (fun vs H Q E h=>?_) (fun cdv A outer s H vs Q E hr h=>?_)
 ·obtain⟨p,ks,n,rfl,_⟩:=h
  rfl
 obtain⟨p,ks,n,rfl,hp,hk,q⟩:=h
 refine⟨_,(zah (zak (zav (zcs (K:=K)) rfl T.m_len PySem.boot_len (zaa (zdc (N':=["k", "some"]) (n:=1) (kp:=[1]) rfl (piT (K:=K) (pv 0)) rfl rfl rfl (fun _ _ _ _ _=>(zaw (i:=0) (of_decide_eq_true rfl) rfl (Or.inl rfl))) (fun _ _ _ _ _=>(zb2 (zbx (zac ad hr.lv rfl T.K_has (zaa (pv 1) (zaa (pv 0) zab)))))) (fun _ _ _ _ _=>(pv 0))) zab)))),?_⟩
 refine⟨_,rfl,p,rfl,⟨_,sqT hp⟩,?_⟩
 refine zgt (K:=K) (a:=p) (xs:=ks.map fun k:Nat=>V.int (k:Int)) (fun i ys σ H2=>(∃v,σ=[v,some (.int n)])∧H2=H∧i≤ks.length∧ys=((ks.take i).filter fun k=>n.testBit k).map fun k:Nat=>V.int (k:Int)) ⟨⟨none,rfl⟩,rfl,Nat.zero_le _,rfl⟩ (fun i ys σ H2 hi pv=>?_) (fun i ys σ H2 hi pv=>?_) (fun i x ys σ H2 hx pv=>?_) (fun ys σ H2 pv l hl=>?_)
 ·obtain⟨_,_,h1,rfl⟩:=pv
  rw[List.length_map]
  refine small (Nat.le_trans (List.length_filter_le _ _) ?_)
  rw[List.length_take]
  omega
 ·rw[pv.2.1]
  exact sqT hp
 ·obtain⟨⟨v,rfl⟩,rfl,h1,rfl⟩:=pv
  rw[List.getElem?_map] at hx
  obtain⟨k,ae,rfl⟩:=Option.map_eq_some_iff.mp hx
  have hj:i<ks.length:=(List.getElem?_eq_some_iff.mp ae).1
  have ee:=PySem.take_succ_filter (fun k=>n.testBit k) ks i k ae
  refine⟨_,rfl,_,rfl,_,_,rfl,_,rfl,?_⟩
  rw[za4]
  refine zbv (fun c=>?_) (fun c=>?_)
  ·refine⟨_,rfl,⟨_,rfl⟩,rfl,hj,?_⟩
   rw[ee,if_pos c,List.map_append]
   rfl
  ·refine⟨⟨_,rfl⟩,rfl,hj,?_⟩
   rw[ee,if_neg c,List.append_nil]
 ·obtain⟨_,rfl,_,rfl⟩:=pv
  have fin:∀L:List V,L.length=cnt ks n→∀H',Same H2 H'→Q (.int (L.length:Nat)) H':=fun L e H' sm=>by
   rw[e]
   exact q H' sm
  exact⟨l,_,rfl,.inl (SqL.of zaf),fin _ (by simp[cnt]) _ (zai hl _)⟩
def zun:Sp:=fun vs H Q _=>∃(u:Nat)(lo hi:Int)(ks:List Nat)(n:Nat)(v:V),vs=[v,.int n]∧Dn H (Tie.bough u lo hi ks).toD v∧ks.length≤1000∧∀H',Same H H'→Q (.bl ((Tie.bough u lo hi ks).keep n)) H'
theorem zlm(T:Txt K mg a d):FnOk P w K mg base CX0 3 a.f_keeps_bough d.f_keeps_bough ["bough", "some"] zun:=by
 have ae:=zcq (P:=P) (w:=w) (base:=base) T
 have ad:=zdu (P:=P) (w:=w) (base:=base) T
 refine T.K_keeps_bough.ok sc_keeps_bough (fun vs H Q E h=>?_) (fun cdv A outer s H vs Q E hr h=>?_)
 ·obtain⟨u,lo,hi,ks,n,v,rfl,_⟩:=h
  rfl
 obtain⟨u,lo,hi,ks,n,v,rfl,hd,hk,q⟩:=h
 obtain⟨p,pk,rfl,hp,ah⟩:=zcu hd
 refine⟨_,(zae (zar (i:=2) sc_keeps_bough.nd rfl (Or.inl rfl) (zac ad hr.lv rfl T.K_count_in (zaa (zal (ixT (K:=K)) (pv 0) zad (fun _ _=>rfl)) (zaa (pv 1) zab))))
   (zae (za2 (zbx (zac ae hr.lv rfl T.K_has (zaa (pv 1) (zaa (zal (ixT (K:=K)) (pv 0) zad (fun _ _=>rfl)) zab)))) (zah (zak (zpt ziz ziz (zal (ixT (K:=K)) (pv 0) zad (fun _ _=>rfl)) (pv 2) (zal (ixT (K:=K)) (pv 0) zad (fun _ _=>rfl))))) zat)
   (zah (zak (zbp zbh (pv 2) zad (zao _)))))),?_⟩
 refine⟨_,rfl,p,_,_,_,rfl,rfl,sqT hp,at3,_,rfl,pk,ks,n,rfl,ah,hk,fun H1 s1=>?_⟩
 have af:=s1 _ _ hp
 have q1:=q H1 s1
 refine⟨_,rfl,_,rfl,p,_,_,_,rfl,rfl,sqT af,at0,_,_,rfl,_,rfl,?_⟩
 rw[za4]
 refine zbv (fun c=>?_) (fun c=>?_)
 ·rw[zwy c] at q1
  refine⟨_,rfl,p,_,_,_,rfl,rfl,sqT af,at1,_,rfl,_,_,rfl,rfl,_,rfl,?_⟩
  refine zbv (fun c2=>?_) (fun c2=>?_)
  ·refine⟨_,rfl,p,_,_,_,rfl,rfl,sqT af,at2,_,_,rfl,rfl,?_⟩
   rw[c2,Bool.true_and] at q1
   exact q1
  ·rw[Bool.eq_false_iff.mpr c2,Bool.false_and] at q1
   exact q1
 ·rw[zwu c] at q1
  refine⟨_,rfl,rfl,?_⟩
  have e:decide (V.int (cnt ks n:Nat)=V.int 0)=decide (cnt ks n=0):=by
   rw[zha]
   by_cases z:cnt ks n=0
   ·rw[z];rfl
   ·rw[decide_eq_false z]
    simpa using z
  show Q (.bl (decide (V.int (cnt ks n:Nat)=V.int 0))) H1
  rw[e]
  exact q1
theorem zqu(T:Txt K mg a d):FnOk P w K mg base CX0 4 a.f_keeps d.f_keeps ["tie", "some"] zw7:=by
 have ae:=zcq (P:=P) (w:=w) (base:=base) T
 have ad:=zlm (P:=P) (w:=w) (base:=base) T
 refine T.K_keeps.ok zul (fun vs H Q E h=>?_) (fun cdv A outer s H vs Q E hr h=>?_)
 ·obtain⟨t,m,n,v,rfl,_⟩:=h
  rfl
 obtain⟨t,m,n,v,rfl,hd,ok,hm,q⟩:=h
 have q0:=q H (Same.refl H)
 refine⟨_,(zae (za2 (zam zbh (zal (ixT (K:=K)) (pv 0) zad (fun _ _=>rfl)) za3 (zao _)) (zah (zak (zkm (zia (zac ae hr.lv rfl T.K_has (zaa (pv 1) (zaa (zal (ixT (K:=K)) (pv 0) zad (fun _ _=>rfl)) zab)))) (zca (zac ae hr.lv rfl T.K_has (zaa (pv 1) (zaa (zal (ixT (K:=K)) (pv 0) zad (fun _ _=>rfl)) zab))))))) zat)
   (zae (za2 (zam zbh (zal (ixT (K:=K)) (pv 0) zad (fun _ _=>rfl)) za3 (zao _)) (zah (zak (zkm (zia (zac ae hr.lv rfl T.K_has (zaa (pv 1) (zaa (zal (ixT (K:=K)) (pv 0) zad (fun _ _=>rfl)) zab)))) (zca (zia (zac ae hr.lv rfl T.K_has (zaa (pv 1) (zaa (zal (ixT (K:=K)) (pv 0) zad (fun _ _=>rfl)) zab)))))))) zat)
   (zae (za2 (zam zbh (zal (ixT (K:=K)) (pv 0) zad (fun _ _=>rfl)) za3 (zao _)) (zah (zak (zbp ziz (zav (zdr rfl) rfl T.m_sum PyProof.Rows.boot_sum (zaa (zdc (N':=["k", "number", "some"]) (n:=2) (kp:=[1]) rfl (piT (K:=K) (zal (ixT (K:=K)) (pv 0) zad (fun _ _=>rfl))) rfl rfl rfl (fun _ _ _ _ _=>(pgT (K:=K) (n:=2) rfl (zbq (zaw (i:=0) (of_decide_eq_true rfl) rfl (Or.inl rfl)) (zbq (zaw (i:=1) (of_decide_eq_true rfl) rfl (Or.inl rfl)) zfu)))) (fun _ _ _ _ _=>(zb2 (zbx (zac ae hr.lv rfl T.K_has (zaa (pv 2) (zaa (pv 0) zab)))))) (fun _ _ _ _ _=>(pv 1))) zab)) (zal (ixT (K:=K)) (pv 0) zad (fun _ _=>rfl)) (zao _)))) zat)
   (zah (zak (zac ad hr.lv rfl T.K_keeps_bough (zaa (pv 0) (zaa (pv 1) zab)))))))),?_⟩
 cases t with
 |needs x y=>
  obtain⟨p,rfl,hp⟩:=zhg hd
  refine⟨_,rfl,p,_,_,_,rfl,rfl,sqT hp,at0,rfl,_,rfl,?_⟩
  refine zdl rfl ?_
  refine⟨_,rfl,_,rfl,p,_,_,_,rfl,rfl,sqT hp,at1,_,_,rfl,_,rfl,_,rfl,?_⟩
  rw[za4]
  have q1:Q (.bl (!n.testBit x||n.testBit y)) H:=q0
  refine zbv (fun c=>?_) (fun c=>?_)
  ·rw[c,Bool.true_or] at q1
   exact q1
  ·refine⟨_,rfl,_,rfl,p,_,_,_,rfl,rfl,sqT hp,at2,_,_,rfl,?_⟩
   rw[za4]
   rw[Bool.eq_false_iff.mpr c,Bool.false_or] at q1
   exact q1
 |bans x y=>
  obtain⟨p,rfl,hp⟩:=zhg hd
  refine⟨_,rfl,p,_,_,_,rfl,rfl,sqT hp,at0,rfl,_,rfl,?_⟩
  refine zbm zik ?_
  refine⟨_,rfl,p,_,_,_,rfl,rfl,sqT hp,at0,rfl,_,rfl,?_⟩
  refine zdl rfl ?_
  refine⟨_,rfl,_,rfl,p,_,_,_,rfl,rfl,sqT hp,at1,_,_,rfl,_,rfl,_,rfl,?_⟩
  rw[za4]
  have q1:Q (.bl (!n.testBit x||!n.testBit y)) H:=q0
  refine zbv (fun c=>?_) (fun c=>?_)
  ·rw[c,Bool.true_or] at q1
   exact q1
  ·refine⟨_,rfl,_,rfl,p,_,_,_,rfl,rfl,sqT hp,at2,_,_,rfl,_,rfl,?_⟩
   rw[za4]
   rw[Bool.eq_false_iff.mpr c,Bool.false_or] at q1
   exact q1
 |most top ps=>
  obtain⟨p,pq,xs,rfl,hp,hq,ah⟩:=znp hd
  have lx:xs.length=ps.length:=by rw[←ah.length,List.length_map]
  have few:ps.length≤m:=ok.2.2.2
  refine⟨_,rfl,p,_,_,_,rfl,rfl,sqT hp,at0,rfl,_,rfl,?_⟩
  refine zbm zij ?_
  refine⟨_,rfl,p,_,_,_,rfl,rfl,sqT hp,at0,rfl,_,rfl,?_⟩
  refine zbm zjm ?_
  refine⟨_,rfl,p,_,_,_,rfl,rfl,sqT hp,at0,rfl,_,rfl,?_⟩
  refine zdl rfl ?_
  refine⟨_,rfl,p,_,_,_,rfl,rfl,sqT hp,at2,pq,rfl,⟨_,sqT hq⟩,?_⟩
  refine zgt (K:=K) (a:=pq) (xs:=xs) (fun i ys σ H2=>(∃v v',σ=[v,v',some (.int n)])∧H2=H∧i≤ps.length∧ys=(((ps.take i).filter fun p=>n.testBit p.1).map (·.2)).map V.int) ⟨⟨none,none,rfl⟩,rfl,Nat.zero_le _,rfl⟩ (fun i ys σ H2 hi pv=>?_) (fun i ys σ H2 hi pv=>?_) (fun i x ys σ H2 hx pv=>?_) (fun ys σ H2 pv l hl=>?_)
  ·obtain⟨_,_,h1,rfl⟩:=pv
   rw[List.length_map,List.length_map]
   refine small (Nat.le_trans (List.length_filter_le _ _) ?_)
   rw[List.length_take]
   omega
  ·rw[pv.2.1]
   exact sqT hq
  ·obtain⟨⟨v,v',rfl⟩,rfl,h1,rfl⟩:=pv
   obtain⟨pr,r,af,rfl,aj⟩:=zkh ah hx
   have hj:i<ps.length:=(List.getElem?_eq_some_iff.mp af).1
   have ee:=PySem.take_succ_filter (fun p:Nat×Int=>n.testBit p.1) ps i pr af
   refine⟨r,_,rfl,sqT aj,rfl,_,_,rfl,_,_,rfl,rfl,?_⟩
   refine⟨_,rfl,_,rfl,_,_,rfl,_,rfl,?_⟩
   rw[za4]
   refine zbv (fun c=>?_) (fun c=>?_)
   ·refine⟨_,rfl,⟨_,_,rfl⟩,rfl,hj,?_⟩
    rw[ee,if_pos c,List.map_append,List.map_append]
    rfl
   ·refine⟨⟨_,_,rfl⟩,rfl,hj,?_⟩
    rw[ee,if_neg c,List.append_nil]
  ·obtain⟨_,rfl,_,rfl⟩:=pv
   have sm:=zai hl (.lst ((((ps.take xs.length).filter fun p=>n.testBit p.1).map (·.2)).map V.int))
   refine⟨l,_,rfl,SqL.of zaf,_,rfl,p,_,_,_,rfl,rfl,sqT (sm _ _ hp),at1,_,_,rfl,rfl,?_⟩
   have q1:=q _ sm
   have e:(Tie.most top ps).keep n=decide ((((ps.take xs.length).filter fun p=>n.testBit p.1).map (·.2)).sum≤top):=by
    rw[lx,List.take_length]
    rfl
   rw[e] at q1
   exact q1
 |bough u lo hi ks=>
  obtain⟨p,pk,e,hp,ak⟩:=zcu hd
  have ai:Tie.BoughOkW m u lo hi ks:=ok
  have few:=ai.few
  subst e
  refine⟨_,rfl,p,_,_,_,rfl,rfl,sqT hp,at0,rfl,_,rfl,?_⟩
  refine zbm int_str ?_
  refine⟨_,rfl,p,_,_,_,rfl,rfl,sqT hp,at0,rfl,_,rfl,?_⟩
  refine zbm int_str ?_
  refine⟨_,rfl,p,_,_,_,rfl,rfl,sqT hp,at0,rfl,_,rfl,?_⟩
  refine zbm int_str ?_
  exact⟨_,rfl,_,rfl,u,lo,hi,ks,n,_,rfl,hd,by omega,q⟩
theorem zb9(T:Txt K mg a d):FnOk P w K mg base CX0 2 a.f_every_tie d.f_every_tie ["wood"] zw0:=by
 have ad:=ziv (P:=P) (w:=w) (base:=base) T
 refine T.K_every_tie.ok zoh (fun vs H Q E h=>?_) (fun cdv A outer s H vs Q E hr h=>?_)
 ·obtain⟨wd,m,ts,rfl,_⟩:=h
  rfl
 obtain⟨wd,m,ts,rfl,W,q⟩:=h
 have ae:(2:Int)^62=4611686018427387904:=by decide
 obtain⟨xs,ys,WA,dn⟩:=W.ex
 have few:=W.few
 have ln:ts.length=xs.length+ys.length:=by
  have:=dn.length
  rw[List.length_map,List.length_append] at this
  exact this
 refine⟨_,(zah (zak (zbn (zhy rfl) rfl T.m_list PyProof.Rows.boot_list (zaa (zbn zmz rfl T.m_range PyProof.Rows.boot_range (zaa (zac ad hr.lv rfl T.K_many_ties (zaa (pv 0) zab)) zab)) zab)))),?_⟩
 refine⟨_,rfl,wd,m,xs,ys,rfl,WA,_,rfl,fun rp af=>?_⟩
 refine⟨rp,0,_,rfl,zaf,by rw[ae];omega,by rw[ae];omega,by rw[ae];omega,by rw[ae];omega,by omega,fun l hl=>?_⟩
 have e:((List.range' 0 ((xs.length:Int)+(ys.length:Int)-0).toNat).map fun i:Nat=>V.int (0+(i:Int)))=(List.range ts.length).map fun i:Nat=>V.int (i:Int):=by
  have e1:((xs.length:Int)+(ys.length:Int)-0).toNat=ts.length:=by omega
  rw[e1,List.range_eq_range']
  simp
 rw[e]
 have s1:=(zai af (.rng 0 ((xs.length:Int)+(ys.length:Int)))).trans (zai hl (.lst ((List.range ts.length).map fun i:Nat=>V.int (i:Int))))
 exact q l _ s1 ((zai af (.rng 0 ((xs.length:Int)+(ys.length:Int)))).free hl) zaf
theorem zj7(T:Txt K mg a d):FnOk P w K mg base CX0 5 a.f_first_broken d.f_first_broken ["wood", "some"] zuq:=by
 have ad:=zb9 (P:=P) (w:=w) (base:=base) T
 have ae:=zhn (P:=P) (w:=w) (base:=base) T
 have af:=zqu (P:=P) (w:=w) (base:=base) T
 refine T.K_first_broken.ok sc_first_broken (fun vs H Q E h=>?_) (fun cdv A outer s H vs Q E hr h=>?_)
 ·obtain⟨wd,m,ts,n,rfl,_⟩:=h
  rfl
 obtain⟨wd,m,ts,n,rfl,W,q⟩:=h
 have m9:=W.m9
 refine⟨_,(zae (zes PassesOwn.never rfl (piL (K:=K) (zac ad hr.lv rfl T.K_every_tie (zaa (pv 0) zab))) (zaw (i:=2) sc_first_broken.nd rfl (Or.inl rfl)) (zah (za2 (zfw (zbx (zac af hr.lv rfl T.K_keeps (zaa (zac ae hr.lv rfl T.K_tie_at (zaa (pv 0) (zaa (pv 2) zab))) (zaa (pv 1) zab))))) (zah (zak (pv 2))) zat)))
   (zah (zak zby))),?_⟩
 refine⟨_,rfl,wd,m,ts,rfl,W,fun l H1 s1 n1 e1=>?_⟩
 refine⟨l,rfl,⟨_,SqL.of e1⟩,?_⟩
 refine zg0 (K:=K) (a:=l) (xs:=(List.range ts.length).map fun i:Nat=>V.int (i:Int)) (fun i σ H2=>(∃v,σ=[some (.ref wd),some (.int n),v])∧Same H1 H2∧∀j x,j<i→ts[j]?=some x→x.keep n=true) ⟨⟨_,rfl⟩,Same.refl _,fun j x hj=>absurd hj (Nat.not_lt_zero j)⟩ (fun i σ H2 _ z=>SqL.of (z.2.1 _ _ e1)) ?_ ?_
 ·rintro i x σ H2 hx ⟨⟨v,rfl⟩,s2,hb⟩
  obtain⟨hi,rfl⟩:=ztn hx
  have W2:=W.same (s1.trans s2)
  obtain⟨xs,ys,WA,dn⟩:=W2.ex
  have ht:ts[i]?=some ts[i]:=List.getElem?_eq_getElem hi
  obtain⟨v2,ai,hd⟩:=DnL.get' dn (i:=i) (d:=ts[i].toD) (by rw[List.getElem?_map,ht];rfl)
  refine⟨_,rfl,_,rfl,wd,m,xs,ys,i,v2,rfl,WA,ai,?_⟩
  refine⟨_,rfl,ts[i],m,n,v2,rfl,hd,W.ok _ (List.getElem_mem hi),by omega,fun H3 s3=>?_⟩
  refine⟨_,rfl,?_⟩
  refine zbv (fun c=>?_) (fun c=>?_)
  ·have c':(ts[i]).keep n=false:=by simpa using c
   have q1:=q H3 ((s1.trans s2).trans s3)
   rw[zpr ht c' hb] at q1
   exact⟨_,rfl,q1⟩
  ·have c':(ts[i]).keep n=true:=by simpa using c
   refine⟨⟨_,rfl⟩,s2.trans s3,fun j x hj ah=>?_⟩
   by_cases e:j=i
   ·subst e
    rw[ht] at ah
    cases ah
    exact c'
   ·exact hb j x (by omega) ah
 ·rintro σ H2 ⟨⟨v,rfl⟩,s2,hb⟩
  have q1:=q H2 (s1.trans s2)
  rw[List.length_map,List.length_range] at hb
  rw[zp0 hb] at q1
  exact q1
theorem zrd(T:Txt K mg a d):FnOk P w K mg base CX0 6 a.f_is_ware d.f_is_ware ["wood", "some"] zw4:=by
 have ae:=zcq (P:=P) (w:=w) (base:=base) T
 have ad:=zj7 (P:=P) (w:=w) (base:=base) T
 refine T.K_is_ware.ok zr1 (fun vs H Q E h=>?_) (fun cdv A outer s H vs Q E hr h=>?_)
 ·obtain⟨wd,m,ts,n,rfl,_⟩:=h
  rfl
 obtain⟨wd,m,ts,n,rfl,W,q⟩:=h
 refine⟨_,(zah (zak (zdi (zac ae hr.lv rfl T.K_has (zaa (pv 1) (zaa zad zab))) (zca (zbp zh2 (zac ad hr.lv rfl T.K_first_broken (zaa (pv 0) (zaa (pv 1) zab))) zby (zao _)))))),?_⟩
 refine⟨_,rfl,_,_,rfl,_,rfl,?_⟩
 have e0:znj (n:Int) 0=n.testBit 0:=za4 n 0
 rw[e0]
 refine zbv (fun c=>?_) (fun c=>?_)
 ·refine⟨_,rfl,_,rfl,wd,m,ts,n,rfl,W,fun H1 s1=>?_⟩
  have q1:=q H1 s1
  rw[zjz,c,Bool.true_and,←zqr] at q1
  exact⟨rfl,q1⟩
 ·have q1:=q H (Same.refl H)
  rw[zjz,Bool.eq_false_iff.mpr c,Bool.false_and] at q1
  exact q1
theorem zgs(T:Txt K mg a d):FnOk P w K mg base CX0 3 a.f_sure_broken_bough d.f_sure_broken_bough ["bough", "yes", "no"] (zsw Tie.sb):=by
 have ae:=zcq (P:=P) (w:=w) (base:=base) T
 have ad:=zdu (P:=P) (w:=w) (base:=base) T
 refine T.K_sure_broken_bough.ok sc_sure_broken_bough (fun vs H Q E h=>?_) (fun cdv A outer s H vs Q E hr h=>?_)
 ·obtain⟨u,lo,hi,ks,m,y,n,v,rfl,_⟩:=h
  rfl
 obtain⟨u,lo,hi,ks,m,y,n,v,rfl,hd,ok,hm,q⟩:=h
 obtain⟨p,pk,rfl,hp,al⟩:=zcu hd
 have few:=ok.few
 have aj:∃t,PSs (zci CX0 P w K mg base ["bough", "yes", "no", "least", "greatest", "some_with_up", "some_without_up"] "sure_broken_bough" (zag za7) a.f_sure_broken_bough cdv A outer s H E).nox ((za8 za7).drop 4) t∧∀(v3 v4:Option V)(b5 b6:Bool)(H1:Hp),Same H H1→(!b5&&!b6)=(Tie.bough u lo hi ks).sb y n→t { nx:=fun _ H'=>Q .non H',rt:=Q } [some (.ref p),some (.int y),some (.int n),v3,v4,some (.bl b5),some (.bl b6)] H1:=by
  refine⟨_,(zah (zak (zdi (zia (pv 5)) (zca (zia (pv 6)))))),?_⟩
  intro v3 v4 b5 b6 H1 s1 e
  have q1:=q H1 s1
  rw[←e] at q1
  refine⟨_,rfl,_,rfl,_,rfl,?_⟩
  refine zbv (fun c=>?_) (fun c=>?_)
  ·rw[c,Bool.true_and] at q1
   exact⟨_,rfl,_,rfl,q1⟩
  ·rw[Bool.eq_false_iff.mpr c,Bool.false_and] at q1
   exact q1
 obtain⟨t4,h4,r4⟩:=aj
 have ah:∃t,PSs (zci CX0 P w K mg base ["bough", "yes", "no", "least", "greatest", "some_with_up", "some_without_up"] "sure_broken_bough" (zag za7) a.f_sure_broken_bough cdv A outer s H E).nox ((za8 za7).drop 3) t∧∀(g:Int)(b5:Bool)(H1:Hp),Same H H1→g=(ks.length:Int)-cnt ks n→b5=(!n.testBit u&&(decide ((cnt ks y:Int)≤hi)&&decide (lo≤g)))→t { nx:=fun _ H'=>Q .non H',rt:=Q } [some (.ref p),some (.int y),some (.int n),some (.int (cnt ks y:Nat)),some (.int g),some (.bl b5),none] H1:=by
  refine⟨_,(zae (zar (i:=6) sc_sure_broken_bough.nd rfl (Or.inl rfl) (zdi (zia (zac ae hr.lv rfl T.K_has (zaa (pv 1) (zaa (zal (ixT (K:=K)) (pv 0) zad (fun _ _=>rfl)) zab)))) (zca (zbp zbh (pv 3) zad (zao _)))))
   h4),?_⟩
  intro g b5 H1 s1 eg e5
  have af:=s1 _ _ hp
  refine⟨_,rfl,_,rfl,p,_,_,_,rfl,rfl,sqT af,at0,_,_,rfl,_,rfl,_,rfl,?_⟩
  rw[za4]
  refine zbv (fun c=>?_) (fun c=>?_)
  ·refine⟨_,rfl,rfl,?_⟩
   refine r4 _ _ _ _ _ s1 ?_
   rw[e5,eg,zk7]
   show _=(!_&&!(!y.testBit u&&decide (cnt ks y=0)))
   rw[c,Bool.true_and]
  ·refine r4 _ _ _ _ _ s1 ?_
   rw[e5,eg]
   show _=(!_&&!(!y.testBit u&&decide (cnt ks y=0)))
   rw[Bool.eq_false_iff.mpr c,Bool.false_and]
 obtain⟨t3,h3,r3⟩:=ah
 have ak:∃t,PSs (zci CX0 P w K mg base ["bough", "yes", "no", "least", "greatest", "some_with_up", "some_without_up"] "sure_broken_bough" (zag za7) a.f_sure_broken_bough cdv A outer s H E).nox ((za8 za7).drop 2) t∧∀(g:Int)(H1:Hp),Same H H1→g=(ks.length:Int)-cnt ks n→t { nx:=fun _ H'=>Q .non H',rt:=Q } [some (.ref p),some (.int y),some (.int n),some (.int (cnt ks y:Nat)),some (.int g),none,none] H1:=by
  refine⟨_,(zae (zar (i:=5) sc_sure_broken_bough.nd rfl (Or.inl rfl) (zdi (zia (zac ae hr.lv rfl T.K_has (zaa (pv 2) (zaa (zal (ixT (K:=K)) (pv 0) zad (fun _ _=>rfl)) zab)))) (zdi (zbp ziz (pv 3) (zal (ixT (K:=K)) (pv 0) zad (fun _ _=>rfl)) (zao _)) (zca (zbp ziz (zal (ixT (K:=K)) (pv 0) zad (fun _ _=>rfl)) (pv 4) (zao _))))))
   h3),?_⟩
  intro g H1 s1 eg
  have af:=s1 _ _ hp
  refine⟨_,rfl,_,rfl,p,_,_,_,rfl,rfl,sqT af,at0,_,_,rfl,_,rfl,_,rfl,?_⟩
  rw[za4]
  refine zbv (fun c=>?_) (fun c=>?_)
  ·refine⟨_,rfl,_,rfl,p,_,_,_,rfl,rfl,sqT af,at2,_,_,rfl,rfl,_,rfl,?_⟩
   refine zbv (fun c2=>?_) (fun c2=>?_)
   ·refine⟨_,rfl,p,_,_,_,rfl,rfl,sqT af,at1,_,rfl,_,_,rfl,rfl,?_⟩
    exact r3 _ _ _ s1 eg (by rw[c,Bool.true_and,c2,Bool.true_and])
   ·exact r3 _ _ _ s1 eg (by rw[c,Bool.true_and,Bool.eq_false_iff.mpr c2,Bool.false_and])
  ·exact r3 _ _ _ s1 eg (by rw[Bool.eq_false_iff.mpr c,Bool.false_and])
 obtain⟨t2,h2,r2⟩:=ak
 refine⟨_,(zae (zar (i:=3) sc_sure_broken_bough.nd rfl (Or.inl rfl) (zac ad hr.lv rfl T.K_count_in (zaa (zal (ixT (K:=K)) (pv 0) zad (fun _ _=>rfl)) (zaa (pv 1) zab))))
   (zae (zar (i:=4) sc_sure_broken_bough.nd rfl (Or.inl rfl) (zba zh9 (zav (zcs (K:=K)) rfl T.m_len PySem.boot_len (zaa (zal (ixT (K:=K)) (pv 0) zad (fun _ _=>rfl)) zab)) (zac ad hr.lv rfl T.K_count_in (zaa (zal (ixT (K:=K)) (pv 0) zad (fun _ _=>rfl)) (zaa (pv 2) zab)))))
   h2)),?_⟩
 refine⟨_,rfl,p,_,_,_,rfl,rfl,sqT hp,at3,_,rfl,pk,ks,y,rfl,al,by omega,fun H1 s1=>?_⟩
 have af:=s1 _ _ hp
 have ai:=s1 _ _ al
 refine⟨_,rfl,p,_,_,_,rfl,rfl,sqT af,at3,pk,_,rfl,.inr (sqT ai),?_⟩
 refine⟨_,rfl,p,_,_,_,rfl,rfl,sqT af,at3,_,rfl,pk,ks,n,rfl,ai,by omega,fun H2 s2=>?_⟩
 refine⟨_,_,rfl,rfl,?_⟩
 exact r2 _ _ (s1.trans s2) (by rw[List.length_map])
theorem zmi(T:Txt K mg a d):FnOk P w K mg base CX0 2 a.f_least_sum d.f_least_sum ["pairs", "yes", "no"] (zv2 zei):=by
 have ad:=zcq (P:=P) (w:=w) (base:=base) T
 refine T.K_least_sum.ok zop (fun vs H Q E h=>?_) (fun cdv A outer s H vs Q E hr h=>?_)
 ·obtain⟨pq,xs,ps,y,n,rfl,_⟩:=h
  rfl
 obtain⟨pq,xs,ps,y,n,rfl,hq,ah,few,q⟩:=h
 have lx:xs.length=ps.length:=by rw[←ah.length,List.length_map]
 refine⟨_,(zah (zak (zav (zdr rfl) rfl T.m_sum PyProof.Rows.boot_sum (zaa (zdc (N':=["k", "number", "yes", "no"]) (n:=2) (kp:=[1,2]) rfl (zys (pv 0)) rfl rfl rfl (fun _ _ _ _ _=>(pgT (K:=K) (n:=2) rfl (zbq (zaw (i:=0) (of_decide_eq_true rfl) rfl (Or.inl rfl)) (zbq (zaw (i:=1) (of_decide_eq_true rfl) rfl (Or.inl rfl)) zfu)))) (fun _ _ _ _ _=>(zb2 (PW.pt (zkp (zbx (zac ad hr.lv rfl T.K_has (zaa (pv 2) (zaa (pv 0) zab)))) (zjl (PW.pt (zja (zam zm9 (pv 1) zad (zao _)) (zhi (zfw (zbx (zac ad hr.lv rfl T.K_has (zaa (pv 3) (zaa (pv 0) zab))))))))))))) (fun _ _ _ _ _=>(pv 1))) zab)))),?_⟩
 refine⟨_,rfl,pq,rfl,?_⟩
 refine zzm (K:=K) (a:=pq) (xs:=xs) hq (fun i ys σ H2=>(∃v v',σ=[v,v',some (.int y),some (.int n)])∧H2=H∧i≤ps.length∧ys=(((ps.take i).filter fun p=>y.testBit p.1||(decide (p.2<0)&&!n.testBit p.1)).map (·.2)).map V.int) ⟨⟨none,none,rfl⟩,rfl,Nat.zero_le _,rfl⟩ (fun i ys σ H2 hi pv=>?_) (fun i ys σ H2 hi pv=>?_) (fun i x ys σ H2 hx pv=>?_) (fun ys σ H2 pv l hl=>?_)
 ·obtain⟨_,_,h1,rfl⟩:=pv
  rw[List.length_map,List.length_map]
  refine small (Nat.le_trans (List.length_filter_le _ _) ?_)
  rw[List.length_take]
  omega
 ·rw[pv.2.1]
 ·obtain⟨⟨v,v',rfl⟩,rfl,h1,rfl⟩:=pv
  obtain⟨pr,r,ae,rfl,ai⟩:=zkh ah hx
  have hj:i<ps.length:=(List.getElem?_eq_some_iff.mp ae).1
  have ee:=PySem.take_succ_filter (fun p:Nat×Int=>y.testBit p.1||(decide (p.2<0)&&!n.testBit p.1)) ps i pr ae
  have yes:(y.testBit pr.1||(decide (pr.2<0)&&!n.testBit pr.1))=true→((((ps.take i).filter fun p=>y.testBit p.1||(decide (p.2<0)&&!n.testBit p.1)).map (·.2)).map V.int)++[V.int pr.2]=(((ps.take (i+1)).filter fun p=>y.testBit p.1||(decide (p.2<0)&&!n.testBit p.1)).map (·.2)).map V.int:=fun c=>by
   rw[ee,if_pos c,List.map_append,List.map_append]
   rfl
  have af:(y.testBit pr.1||(decide (pr.2<0)&&!n.testBit pr.1))=false→((((ps.take i).filter fun p=>y.testBit p.1||(decide (p.2<0)&&!n.testBit p.1)).map (·.2)).map V.int)=(((ps.take (i+1)).filter fun p=>y.testBit p.1||(decide (p.2<0)&&!n.testBit p.1)).map (·.2)).map V.int:=fun c=>by
   rw[ee,if_neg (by rw[c];exact Bool.false_ne_true),List.append_nil]
  refine⟨r,_,rfl,sqT ai,rfl,_,_,rfl,_,_,rfl,rfl,?_⟩
  refine⟨_,rfl,_,rfl,_,_,rfl,_,rfl,?_⟩
  rw[za4]
  refine zbv (fun c=>?_) (fun c=>?_)
  ·refine zrb ?_
   exact⟨_,rfl,⟨_,_,rfl⟩,rfl,hj,yes (by rw[c,Bool.true_or])⟩
  ·have c':=Bool.eq_false_iff.mpr c
   refine⟨_,rfl,_,_,rfl,rfl,_,rfl,?_⟩
   refine zbv (fun c2=>?_) (fun c2=>?_)
   ·refine⟨_,rfl,_,rfl,_,_,rfl,_,rfl,?_⟩
    rw[za4]
    refine zbv (fun c3=>?_) (fun c3=>?_)
    ·exact⟨_,rfl,⟨_,_,rfl⟩,rfl,hj,yes (by rw[c',Bool.false_or,c2,Bool.true_and,c3])⟩
    ·exact⟨⟨_,_,rfl⟩,rfl,hj,af (by rw[c',Bool.false_or,c2,Bool.true_and,Bool.eq_false_iff.mpr c3])⟩
   ·refine zga ?_
    exact⟨⟨_,_,rfl⟩,rfl,hj,af (by rw[c',Bool.false_or,Bool.eq_false_iff.mpr c2,Bool.false_and])⟩
 ·obtain⟨_,rfl,_,rfl⟩:=pv
  refine⟨l,_,rfl,SqL.of zaf,?_⟩
  have q1:=q _ (zai hl (.lst ((((ps.take xs.length).filter fun p=>y.testBit p.1||(decide (p.2<0)&&!n.testBit p.1)).map (·.2)).map V.int)))
  have e:zei ps y n=(((ps.take xs.length).filter fun p=>y.testBit p.1||(decide (p.2<0)&&!n.testBit p.1)).map (·.2)).sum:=by
   rw[lx,List.take_length]
   rfl
  rw[e] at q1
  exact q1
theorem zn5(T:Txt K mg a d):FnOk P w K mg base CX0 2 a.f_least_sum d.f_least_sum ["pairs", "yes", "no"] (zwb zei):=(zmi T).imp fun _ _ _ _=>zty
theorem zg1(T:Txt K mg a d):FnOk P w K mg base CX0 4 a.f_sure_broken d.f_sure_broken ["tie", "yes", "no"] (zv1 Tie.sb):=by
 have af:=zcq (P:=P) (w:=w) (base:=base) T
 have ae:=zn5 (P:=P) (w:=w) (base:=base) T
 have ad:=zgs (P:=P) (w:=w) (base:=base) T
 refine T.K_sure_broken.ok zln (fun vs H Q E h=>?_) (fun cdv A outer s H vs Q E hr h=>?_)
 ·obtain⟨t,m,y,n,v,rfl,_⟩:=h
  rfl
 obtain⟨t,m,y,n,v,rfl,hd,ok,hm,q⟩:=h
 have q0:=q H (Same.refl H)
 refine⟨_,(zae (za2 (zam zbh (zal (ixT (K:=K)) (pv 0) zad (fun _ _=>rfl)) za3 (zao _)) (zah (zak (zdi (zac af hr.lv rfl T.K_has (zaa (pv 1) (zaa (zal (ixT (K:=K)) (pv 0) zad (fun _ _=>rfl)) zab))) (zca (zac af hr.lv rfl T.K_has (zaa (pv 2) (zaa (zal (ixT (K:=K)) (pv 0) zad (fun _ _=>rfl)) zab))))))) zat)
   (zae (za2 (zam zbh (zal (ixT (K:=K)) (pv 0) zad (fun _ _=>rfl)) za3 (zao _)) (zah (zak (zdi (zac af hr.lv rfl T.K_has (zaa (pv 1) (zaa (zal (ixT (K:=K)) (pv 0) zad (fun _ _=>rfl)) zab))) (zca (zac af hr.lv rfl T.K_has (zaa (pv 1) (zaa (zal (ixT (K:=K)) (pv 0) zad (fun _ _=>rfl)) zab))))))) zat)
   (zae (za2 (zam zbh (zal (ixT (K:=K)) (pv 0) zad (fun _ _=>rfl)) za3 (zao _)) (zah (zak (zbp zhu (zac ae hr.lv rfl T.K_least_sum (zaa (zal (ixT (K:=K)) (pv 0) zad (fun _ _=>rfl)) (zaa (pv 1) (zaa (pv 2) zab)))) (zal (ixT (K:=K)) (pv 0) zad (fun _ _=>rfl)) (zao _)))) zat)
   (zah (zak (zac ad hr.lv rfl T.K_sure_broken_bough (zaa (pv 0) (zaa (pv 1) (zaa (pv 2) zab))))))))),?_⟩
 cases t with
 |needs x z=>
  obtain⟨p,rfl,hp⟩:=zhg hd
  refine⟨_,rfl,p,_,_,_,rfl,rfl,sqT hp,at0,rfl,_,rfl,?_⟩
  refine zdl rfl ?_
  refine⟨_,rfl,_,rfl,p,_,_,_,rfl,rfl,sqT hp,at1,_,_,rfl,_,rfl,?_⟩
  rw[za4]
  have q1:Q (.bl (y.testBit x&&n.testBit z)) H:=q0
  refine zbv (fun c=>?_) (fun c=>?_)
  ·rw[c,Bool.true_and] at q1
   refine⟨_,rfl,_,rfl,p,_,_,_,rfl,rfl,sqT hp,at2,_,_,rfl,?_⟩
   rw[za4]
   exact q1
  ·rw[Bool.eq_false_iff.mpr c,Bool.false_and] at q1
   exact q1
 |bans x z=>
  obtain⟨p,rfl,hp⟩:=zhg hd
  refine⟨_,rfl,p,_,_,_,rfl,rfl,sqT hp,at0,rfl,_,rfl,?_⟩
  refine zbm zik ?_
  refine⟨_,rfl,p,_,_,_,rfl,rfl,sqT hp,at0,rfl,_,rfl,?_⟩
  refine zdl rfl ?_
  refine⟨_,rfl,_,rfl,p,_,_,_,rfl,rfl,sqT hp,at1,_,_,rfl,_,rfl,?_⟩
  rw[za4]
  have q1:Q (.bl (y.testBit x&&y.testBit z)) H:=q0
  refine zbv (fun c=>?_) (fun c=>?_)
  ·rw[c,Bool.true_and] at q1
   refine⟨_,rfl,_,rfl,p,_,_,_,rfl,rfl,sqT hp,at2,_,_,rfl,?_⟩
   rw[za4]
   exact q1
  ·rw[Bool.eq_false_iff.mpr c,Bool.false_and] at q1
   exact q1
 |most top ps=>
  obtain⟨p,pq,xs,rfl,hp,hq,ah⟩:=znp hd
  have few:ps.length≤m:=ok.2.2.2
  refine⟨_,rfl,p,_,_,_,rfl,rfl,sqT hp,at0,rfl,_,rfl,?_⟩
  refine zbm zij ?_
  refine⟨_,rfl,p,_,_,_,rfl,rfl,sqT hp,at0,rfl,_,rfl,?_⟩
  refine zbm zjm ?_
  refine⟨_,rfl,p,_,_,_,rfl,rfl,sqT hp,at0,rfl,_,rfl,?_⟩
  refine zdl rfl ?_
  refine⟨_,rfl,p,_,_,_,rfl,rfl,sqT hp,at2,_,rfl,_,rfl,pq,xs,ps,y,n,rfl,hq,ah,by omega,fun H1 s1=>?_⟩
  exact⟨_,rfl,p,_,_,_,rfl,rfl,sqT (s1 _ _ hp),at1,_,_,rfl,rfl,q H1 s1⟩
 |bough u lo hi ks=>
  obtain⟨p,pk,e,hp,ai⟩:=zcu hd
  subst e
  refine⟨_,rfl,p,_,_,_,rfl,rfl,sqT hp,at0,rfl,_,rfl,?_⟩
  refine zbm int_str ?_
  refine⟨_,rfl,p,_,_,_,rfl,rfl,sqT hp,at0,rfl,_,rfl,?_⟩
  refine zbm int_str ?_
  refine⟨_,rfl,p,_,_,_,rfl,rfl,sqT hp,at0,rfl,_,rfl,?_⟩
  refine zbm int_str ?_
  exact⟨_,rfl,_,rfl,_,rfl,u,lo,hi,ks,m,y,n,_,rfl,hd,ok,hm,q⟩
theorem zib(T:Txt K mg a d):FnOk P w K mg base CX0 3 a.f_sure_kept_bough d.f_sure_kept_bough ["bough", "yes", "no"] (zsw Tie.sk):=by
 have ae:=zcq (P:=P) (w:=w) (base:=base) T
 have ad:=zdu (P:=P) (w:=w) (base:=base) T
 refine T.K_sure_kept_bough.ok sc_sure_kept_bough (fun vs H Q E h=>?_) (fun cdv A outer s H vs Q E hr h=>?_)
 ·obtain⟨u,lo,hi,ks,m,y,n,v,rfl,_⟩:=h
  rfl
 obtain⟨u,lo,hi,ks,m,y,n,v,rfl,hd,ok,hm,q⟩:=h
 obtain⟨p,pk,rfl,hp,al⟩:=zcu hd
 have few:=ok.few
 have aj:∃t,PSs (zci CX0 P w K mg base ["bough", "yes", "no", "least", "greatest", "all_with_up", "all_without_up"] "sure_kept_bough" (zag zbb) a.f_sure_kept_bough cdv A outer s H E).nox ((za8 zbb).drop 4) t∧∀(v3 v4:Option V)(b5 b6:Bool)(H1:Hp),Same H H1→(b5&&b6)=(Tie.bough u lo hi ks).sk y n→t { nx:=fun _ H'=>Q .non H',rt:=Q } [some (.ref p),some (.int y),some (.int n),v3,v4,some (.bl b5),some (.bl b6)] H1:=by
  refine⟨_,(zah (zak (zdi (pv 5) (zca (pv 6))))),?_⟩
  intro v3 v4 b5 b6 H1 s1 e
  have q1:=q H1 s1
  rw[←e] at q1
  refine⟨_,rfl,_,rfl,?_⟩
  refine zbv (fun c=>?_) (fun c=>?_)
  ·rw[c,Bool.true_and] at q1
   exact⟨_,rfl,q1⟩
  ·rw[Bool.eq_false_iff.mpr c,Bool.false_and] at q1
   exact q1
 obtain⟨t4,h4,r4⟩:=aj
 have ah:∃t,PSs (zci CX0 P w K mg base ["bough", "yes", "no", "least", "greatest", "all_with_up", "all_without_up"] "sure_kept_bough" (zag zbb) a.f_sure_kept_bough cdv A outer s H E).nox ((za8 zbb).drop 3) t∧∀(g:Int)(b5:Bool)(H1:Hp),Same H H1→g=(ks.length:Int)-cnt ks n→b5=(n.testBit u||(decide (lo≤(cnt ks y:Int))&&decide (g≤hi)))→t { nx:=fun _ H'=>Q .non H',rt:=Q } [some (.ref p),some (.int y),some (.int n),some (.int (cnt ks y:Nat)),some (.int g),some (.bl b5),none] H1:=by
  refine⟨_,(zae (zar (i:=6) sc_sure_kept_bough.nd rfl (Or.inl rfl) (zkm (zac ae hr.lv rfl T.K_has (zaa (pv 1) (zaa (zal (ixT (K:=K)) (pv 0) zad (fun _ _=>rfl)) zab))) (zca (zbp zbh (pv 4) zad (zao _)))))
   h4),?_⟩
  intro g b5 H1 s1 eg e5
  have af:=s1 _ _ hp
  refine⟨_,rfl,_,rfl,p,_,_,_,rfl,rfl,sqT af,at0,_,_,rfl,_,rfl,?_⟩
  rw[za4]
  refine zbv (fun c=>?_) (fun c=>?_)
  ·refine r4 _ _ _ _ _ s1 ?_
   rw[e5,eg]
   show _=((n.testBit u||(decide (lo≤(cnt ks y:Int))&&decide ((ks.length:Int)-cnt ks n≤hi)))&&(y.testBit u||decide ((ks.length:Int)-cnt ks n=0)))
   rw[c,Bool.true_or]
  ·refine⟨_,rfl,rfl,?_⟩
   refine r4 _ _ _ _ _ s1 ?_
   rw[e5,zvu,eg]
   show _=((n.testBit u||(decide (lo≤(cnt ks y:Int))&&decide ((ks.length:Int)-cnt ks n≤hi)))&&(y.testBit u||decide ((ks.length:Int)-cnt ks n=0)))
   rw[Bool.eq_false_iff.mpr c,Bool.false_or]
 obtain⟨t3,h3,r3⟩:=ah
 have ak:∃t,PSs (zci CX0 P w K mg base ["bough", "yes", "no", "least", "greatest", "all_with_up", "all_without_up"] "sure_kept_bough" (zag zbb) a.f_sure_kept_bough cdv A outer s H E).nox ((za8 zbb).drop 2) t∧∀(g:Int)(H1:Hp),Same H H1→g=(ks.length:Int)-cnt ks n→t { nx:=fun _ H'=>Q .non H',rt:=Q } [some (.ref p),some (.int y),some (.int n),some (.int (cnt ks y:Nat)),some (.int g),none,none] H1:=by
  refine⟨_,(zae (zar (i:=5) sc_sure_kept_bough.nd rfl (Or.inl rfl) (zkm (zac ae hr.lv rfl T.K_has (zaa (pv 2) (zaa (zal (ixT (K:=K)) (pv 0) zad (fun _ _=>rfl)) zab))) (zca (zdi (zbp ziz (zal (ixT (K:=K)) (pv 0) zad (fun _ _=>rfl)) (pv 3) (zao _)) (zca (zbp ziz (pv 4) (zal (ixT (K:=K)) (pv 0) zad (fun _ _=>rfl)) (zao _)))))))
   h3),?_⟩
  intro g H1 s1 eg
  have af:=s1 _ _ hp
  refine⟨_,rfl,_,rfl,p,_,_,_,rfl,rfl,sqT af,at0,_,_,rfl,_,rfl,?_⟩
  rw[za4]
  refine zbv (fun c=>?_) (fun c=>?_)
  ·exact r3 _ _ _ s1 eg (by rw[c,Bool.true_or])
  ·refine⟨_,rfl,p,_,_,_,rfl,rfl,sqT af,at1,_,rfl,_,_,rfl,rfl,_,rfl,?_⟩
   refine zbv (fun c2=>?_) (fun c2=>?_)
   ·refine⟨_,rfl,_,rfl,p,_,_,_,rfl,rfl,sqT af,at2,_,_,rfl,rfl,?_⟩
    exact r3 _ _ _ s1 eg (by rw[Bool.eq_false_iff.mpr c,Bool.false_or,c2,Bool.true_and])
   ·exact r3 _ _ _ s1 eg (by rw[Bool.eq_false_iff.mpr c,Bool.false_or,Bool.eq_false_iff.mpr c2,Bool.false_and])
 obtain⟨t2,h2,r2⟩:=ak
 refine⟨_,(zae (zar (i:=3) sc_sure_kept_bough.nd rfl (Or.inl rfl) (zac ad hr.lv rfl T.K_count_in (zaa (zal (ixT (K:=K)) (pv 0) zad (fun _ _=>rfl)) (zaa (pv 1) zab))))
   (zae (zar (i:=4) sc_sure_kept_bough.nd rfl (Or.inl rfl) (zba zh9 (zav (zcs (K:=K)) rfl T.m_len PySem.boot_len (zaa (zal (ixT (K:=K)) (pv 0) zad (fun _ _=>rfl)) zab)) (zac ad hr.lv rfl T.K_count_in (zaa (zal (ixT (K:=K)) (pv 0) zad (fun _ _=>rfl)) (zaa (pv 2) zab)))))
   h2)),?_⟩
 refine⟨_,rfl,p,_,_,_,rfl,rfl,sqT hp,at3,_,rfl,pk,ks,y,rfl,al,by omega,fun H1 s1=>?_⟩
 have af:=s1 _ _ hp
 have ai:=s1 _ _ al
 refine⟨_,rfl,p,_,_,_,rfl,rfl,sqT af,at3,pk,_,rfl,.inr (sqT ai),?_⟩
 refine⟨_,rfl,p,_,_,_,rfl,rfl,sqT af,at3,_,rfl,pk,ks,n,rfl,ai,by omega,fun H2 s2=>?_⟩
 refine⟨_,_,rfl,rfl,?_⟩
 exact r2 _ _ (s1.trans s2) (by rw[List.length_map])
theorem zj8(T:Txt K mg a d):FnOk P w K mg base CX0 2 a.f_greatest_sum d.f_greatest_sum ["pairs", "yes", "no"] (zwb zfm):=by
 have ad:=zcq (P:=P) (w:=w) (base:=base) T
 refine T.K_greatest_sum.ok zkc (fun vs H Q E h=>?_) (fun cdv A outer s H vs Q E hr h=>?_)
 ·obtain⟨pq,xs,ps,y,n,rfl,_⟩:=h
  rfl
 obtain⟨pq,xs,ps,y,n,rfl,hq,ah,few,q⟩:=h
 have lx:xs.length=ps.length:=by rw[←ah.length,List.length_map]
 refine⟨_,(zah (zak (zav (zdr rfl) rfl T.m_sum PyProof.Rows.boot_sum (zaa (zdc (N':=["k", "number", "yes", "no"]) (n:=2) (kp:=[1,2]) rfl (piT (K:=K) (pv 0)) rfl rfl rfl (fun _ _ _ _ _=>(pgT (K:=K) (n:=2) rfl (zbq (zaw (i:=0) (of_decide_eq_true rfl) rfl (Or.inl rfl)) (zbq (zaw (i:=1) (of_decide_eq_true rfl) rfl (Or.inl rfl)) zfu)))) (fun _ _ _ _ _=>(zb2 (PW.pt (zkp (zbx (zac ad hr.lv rfl T.K_has (zaa (pv 2) (zaa (pv 0) zab)))) (zjl (PW.pt (zja (zam zhu (pv 1) zad (zao _)) (zhi (zfw (zbx (zac ad hr.lv rfl T.K_has (zaa (pv 3) (zaa (pv 0) zab))))))))))))) (fun _ _ _ _ _=>(pv 1))) zab)))),?_⟩
 refine⟨_,rfl,pq,rfl,⟨_,sqT hq⟩,?_⟩
 refine zgt (K:=K) (a:=pq) (xs:=xs) (fun i ys σ H2=>(∃v v',σ=[v,v',some (.int y),some (.int n)])∧H2=H∧i≤ps.length∧ys=(((ps.take i).filter fun p=>y.testBit p.1||(decide (0<p.2)&&!n.testBit p.1)).map (·.2)).map V.int) ⟨⟨none,none,rfl⟩,rfl,Nat.zero_le _,rfl⟩ (fun i ys σ H2 hi pv=>?_) (fun i ys σ H2 hi pv=>?_) (fun i x ys σ H2 hx pv=>?_) (fun ys σ H2 pv l hl=>?_)
 ·obtain⟨_,_,h1,rfl⟩:=pv
  rw[List.length_map,List.length_map]
  refine small (Nat.le_trans (List.length_filter_le _ _) ?_)
  rw[List.length_take]
  omega
 ·rw[pv.2.1]
  exact sqT hq
 ·obtain⟨⟨v,v',rfl⟩,rfl,h1,rfl⟩:=pv
  obtain⟨pr,r,ae,rfl,ai⟩:=zkh ah hx
  have hj:i<ps.length:=(List.getElem?_eq_some_iff.mp ae).1
  have ee:=PySem.take_succ_filter (fun p:Nat×Int=>y.testBit p.1||(decide (0<p.2)&&!n.testBit p.1)) ps i pr ae
  have yes:(y.testBit pr.1||(decide (0<pr.2)&&!n.testBit pr.1))=true→((((ps.take i).filter fun p=>y.testBit p.1||(decide (0<p.2)&&!n.testBit p.1)).map (·.2)).map V.int)++[V.int pr.2]=(((ps.take (i+1)).filter fun p=>y.testBit p.1||(decide (0<p.2)&&!n.testBit p.1)).map (·.2)).map V.int:=fun c=>by
   rw[ee,if_pos c,List.map_append,List.map_append]
   rfl
  have af:(y.testBit pr.1||(decide (0<pr.2)&&!n.testBit pr.1))=false→((((ps.take i).filter fun p=>y.testBit p.1||(decide (0<p.2)&&!n.testBit p.1)).map (·.2)).map V.int)=(((ps.take (i+1)).filter fun p=>y.testBit p.1||(decide (0<p.2)&&!n.testBit p.1)).map (·.2)).map V.int:=fun c=>by
   rw[ee,if_neg (by rw[c];exact Bool.false_ne_true),List.append_nil]
  refine⟨r,_,rfl,sqT ai,rfl,_,_,rfl,_,_,rfl,rfl,?_⟩
  refine⟨_,rfl,_,rfl,_,_,rfl,_,rfl,?_⟩
  rw[za4]
  refine zbv (fun c=>?_) (fun c=>?_)
  ·refine zrb ?_
   exact⟨_,rfl,⟨_,_,rfl⟩,rfl,hj,yes (by rw[c,Bool.true_or])⟩
  ·have c':=Bool.eq_false_iff.mpr c
   refine⟨_,rfl,_,_,rfl,rfl,_,rfl,?_⟩
   refine zbv (fun c2=>?_) (fun c2=>?_)
   ·refine⟨_,rfl,_,rfl,_,_,rfl,_,rfl,?_⟩
    rw[za4]
    refine zbv (fun c3=>?_) (fun c3=>?_)
    ·exact⟨_,rfl,⟨_,_,rfl⟩,rfl,hj,yes (by rw[c',Bool.false_or,c2,Bool.true_and,c3])⟩
    ·exact⟨⟨_,_,rfl⟩,rfl,hj,af (by rw[c',Bool.false_or,c2,Bool.true_and,Bool.eq_false_iff.mpr c3])⟩
   ·refine zga ?_
    exact⟨⟨_,_,rfl⟩,rfl,hj,af (by rw[c',Bool.false_or,Bool.eq_false_iff.mpr c2,Bool.false_and])⟩
 ·obtain⟨_,rfl,_,rfl⟩:=pv
  refine⟨l,_,rfl,SqL.of zaf,?_⟩
  have q1:=q _ (zai hl (.lst ((((ps.take xs.length).filter fun p=>y.testBit p.1||(decide (0<p.2)&&!n.testBit p.1)).map (·.2)).map V.int)))
  have e:zfm ps y n=(((ps.take xs.length).filter fun p=>y.testBit p.1||(decide (0<p.2)&&!n.testBit p.1)).map (·.2)).sum:=by
   rw[lx,List.take_length]
   rfl
  rw[e] at q1
  exact q1
theorem zny(T:Txt K mg a d):FnOk P w K mg base CX0 4 a.f_sure_kept d.f_sure_kept ["tie", "yes", "no"] (zv1 Tie.sk):=by
 have af:=zcq (P:=P) (w:=w) (base:=base) T
 have ae:=zj8 (P:=P) (w:=w) (base:=base) T
 have ad:=zib (P:=P) (w:=w) (base:=base) T
 refine T.K_sure_kept.ok znk (fun vs H Q E h=>?_) (fun cdv A outer s H vs Q E hr h=>?_)
 ·obtain⟨t,m,y,n,v,rfl,_⟩:=h
  rfl
 obtain⟨t,m,y,n,v,rfl,hd,ok,hm,q⟩:=h
 have q0:=q H (Same.refl H)
 refine⟨_,(zae (za2 (zam zbh (zal (ixT (K:=K)) (pv 0) zad (fun _ _=>rfl)) za3 (zao _)) (zah (zak (zkm (zac af hr.lv rfl T.K_has (zaa (pv 2) (zaa (zal (ixT (K:=K)) (pv 0) zad (fun _ _=>rfl)) zab))) (zca (zac af hr.lv rfl T.K_has (zaa (pv 1) (zaa (zal (ixT (K:=K)) (pv 0) zad (fun _ _=>rfl)) zab))))))) zat)
   (zae (za2 (zam zbh (zal (ixT (K:=K)) (pv 0) zad (fun _ _=>rfl)) za3 (zao _)) (zah (zak (zkm (zac af hr.lv rfl T.K_has (zaa (pv 2) (zaa (zal (ixT (K:=K)) (pv 0) zad (fun _ _=>rfl)) zab))) (zca (zac af hr.lv rfl T.K_has (zaa (pv 2) (zaa (zal (ixT (K:=K)) (pv 0) zad (fun _ _=>rfl)) zab))))))) zat)
   (zae (za2 (zam zbh (zal (ixT (K:=K)) (pv 0) zad (fun _ _=>rfl)) za3 (zao _)) (zah (zak (zbp ziz (zac ae hr.lv rfl T.K_greatest_sum (zaa (zal (ixT (K:=K)) (pv 0) zad (fun _ _=>rfl)) (zaa (pv 1) (zaa (pv 2) zab)))) (zal (ixT (K:=K)) (pv 0) zad (fun _ _=>rfl)) (zao _)))) zat)
   (zah (zak (zac ad hr.lv rfl T.K_sure_kept_bough (zaa (pv 0) (zaa (pv 1) (zaa (pv 2) zab))))))))),?_⟩
 cases t with
 |needs x z=>
  obtain⟨p,rfl,hp⟩:=zhg hd
  refine⟨_,rfl,p,_,_,_,rfl,rfl,sqT hp,at0,rfl,_,rfl,?_⟩
  refine zdl rfl ?_
  refine⟨_,rfl,_,rfl,p,_,_,_,rfl,rfl,sqT hp,at1,_,_,rfl,_,rfl,?_⟩
  rw[za4]
  have q1:Q (.bl (n.testBit x||y.testBit z)) H:=q0
  refine zbv (fun c=>?_) (fun c=>?_)
  ·rw[c,Bool.true_or] at q1
   exact q1
  ·rw[Bool.eq_false_iff.mpr c,Bool.false_or] at q1
   refine⟨_,rfl,_,rfl,p,_,_,_,rfl,rfl,sqT hp,at2,_,_,rfl,?_⟩
   rw[za4]
   exact q1
 |bans x z=>
  obtain⟨p,rfl,hp⟩:=zhg hd
  refine⟨_,rfl,p,_,_,_,rfl,rfl,sqT hp,at0,rfl,_,rfl,?_⟩
  refine zbm zik ?_
  refine⟨_,rfl,p,_,_,_,rfl,rfl,sqT hp,at0,rfl,_,rfl,?_⟩
  refine zdl rfl ?_
  refine⟨_,rfl,_,rfl,p,_,_,_,rfl,rfl,sqT hp,at1,_,_,rfl,_,rfl,?_⟩
  rw[za4]
  have q1:Q (.bl (n.testBit x||n.testBit z)) H:=q0
  refine zbv (fun c=>?_) (fun c=>?_)
  ·rw[c,Bool.true_or] at q1
   exact q1
  ·rw[Bool.eq_false_iff.mpr c,Bool.false_or] at q1
   refine⟨_,rfl,_,rfl,p,_,_,_,rfl,rfl,sqT hp,at2,_,_,rfl,?_⟩
   rw[za4]
   exact q1
 |most top ps=>
  obtain⟨p,pq,xs,rfl,hp,hq,ah⟩:=znp hd
  have few:ps.length≤m:=ok.2.2.2
  refine⟨_,rfl,p,_,_,_,rfl,rfl,sqT hp,at0,rfl,_,rfl,?_⟩
  refine zbm zij ?_
  refine⟨_,rfl,p,_,_,_,rfl,rfl,sqT hp,at0,rfl,_,rfl,?_⟩
  refine zbm zjm ?_
  refine⟨_,rfl,p,_,_,_,rfl,rfl,sqT hp,at0,rfl,_,rfl,?_⟩
  refine zdl rfl ?_
  refine⟨_,rfl,p,_,_,_,rfl,rfl,sqT hp,at2,_,rfl,_,rfl,pq,xs,ps,y,n,rfl,hq,ah,by omega,fun H1 s1=>?_⟩
  exact⟨_,rfl,p,_,_,_,rfl,rfl,sqT (s1 _ _ hp),at1,_,_,rfl,rfl,q H1 s1⟩
 |bough u lo hi ks=>
  obtain⟨p,pk,e,hp,ai⟩:=zcu hd
  subst e
  refine⟨_,rfl,p,_,_,_,rfl,rfl,sqT hp,at0,rfl,_,rfl,?_⟩
  refine zbm int_str ?_
  refine⟨_,rfl,p,_,_,_,rfl,rfl,sqT hp,at0,rfl,_,rfl,?_⟩
  refine zbm int_str ?_
  refine⟨_,rfl,p,_,_,_,rfl,rfl,sqT hp,at0,rfl,_,rfl,?_⟩
  refine zbm int_str ?_
  exact⟨_,rfl,_,rfl,_,rfl,u,lo,hi,ks,m,y,n,_,rfl,hd,ok,hm,q⟩
theorem zdy(T:Txt K mg a d):FnOk P w K mg base CX0 5 a.f_first_sure_broken d.f_first_sure_broken ["wood", "ties", "yes", "no"] zs7:=by
 have ae:=zhn (P:=P) (w:=w) (base:=base) T
 have ad:=zg1 (P:=P) (w:=w) (base:=base) T
 refine T.K_first_sure_broken.ok sc_first_sure_broken (fun vs H Q E h=>?_) (fun cdv A outer s H vs Q E hr h=>?_)
 ·obtain⟨wd,m,ts,tl,il,y,n,rfl,_⟩:=h
  rfl
 obtain⟨wd,m,ts,tl,il,y,n,rfl,W,ah,ak,q⟩:=h
 have m9:=W.m9
 refine⟨_,(zae (zes PassesOwn.never rfl (piL (K:=K) (pv 1)) (zaw (i:=4) sc_first_sure_broken.nd rfl (Or.inl rfl)) (zah (za2 (zbx (zac ad hr.lv rfl T.K_sure_broken (zaa (zac ae hr.lv rfl T.K_tie_at (zaa (pv 0) (zaa (pv 4) zab))) (zaa (pv 2) (zaa (pv 3) zab))))) (zah (zak (pv 4))) zat)))
   (zah (zak zby))),?_⟩
 refine⟨_,rfl,tl,rfl,⟨_,SqL.of ah⟩,?_⟩
 refine zg0 (K:=K) (a:=tl) (xs:=zaj il) (fun i σ H2=>(∃v,σ=[some (.ref wd),some (.ref tl),some (.int y),some (.int n),v])∧Same H H2∧(il.take i).find? (fun i=>zh8 ts i y n)=none) ⟨⟨_,rfl⟩,Same.refl _,rfl⟩ (fun i σ H2 _ z=>SqL.of (z.2.1 _ _ ah)) ?_ ?_
 ·rintro i x σ H2 hx ⟨⟨v,rfl⟩,s2,hb⟩
  rw[List.getElem?_map] at hx
  obtain⟨t,ht,rfl⟩:=Option.map_eq_some_iff.mp hx
  have af:=ak t (List.mem_of_getElem? ht)
  have W2:=W.same s2
  obtain⟨xs,ys,WA,dn⟩:=W2.ex
  have aj:ts[t]?=some ts[t]:=List.getElem?_eq_getElem af
  obtain⟨v2,al,hd⟩:=DnL.get' dn (i:=t) (d:=ts[t].toD) (by rw[List.getElem?_map,aj];rfl)
  have ai:zh8 ts t y n=ts[t].sb y n:=by unfold zh8;rw[aj]
  refine⟨_,rfl,_,rfl,wd,m,xs,ys,t,v2,rfl,WA,al,?_⟩
  refine⟨_,rfl,_,rfl,ts[t],m,y,n,v2,rfl,hd,W.ok _ (List.getElem_mem af),by omega,fun H3 s3=>?_⟩
  refine⟨_,rfl,?_⟩
  refine zbv (fun c=>?_) (fun c=>?_)
  ·have q1:=q H3 (s2.trans s3)
   have e:za5 ts il y n=some t:=by
    unfold za5
    have el:il=il.take i++t::il.drop (i+1):=by
     obtain⟨hi,e⟩:=List.getElem?_eq_some_iff.mp ht
     rw[←e,List.getElem_cons_drop,List.take_append_drop]
    rw[el,List.find?_append,hb]
    simp[ai,c]
   rw[e] at q1
   exact⟨_,rfl,q1⟩
  ·refine⟨⟨_,rfl⟩,s2.trans s3,?_⟩
   rw[List.take_add_one,ht,Option.toList_some,List.find?_append,hb]
   simp[ai,c]
 ·rintro σ H2 ⟨⟨v,rfl⟩,s2,hb⟩
  have q1:=q H2 s2
  rw[List.length_map,List.take_length] at hb
  have e:za5 ts il y n=none:=hb
  rw[e] at q1
  exact q1
theorem zfd(T:Txt K mg a d):FnOk P w K mg base CX0 5 a.f_all_sure_kept d.f_all_sure_kept ["wood", "yes", "no"] zyy:=by
 have ad:=zb9 (P:=P) (w:=w) (base:=base) T
 have af:=zhn (P:=P) (w:=w) (base:=base) T
 have ae:=zny (P:=P) (w:=w) (base:=base) T
 refine T.K_all_sure_kept.ok zjg (fun vs H Q E h=>?_) (fun cdv A outer s H vs Q E hr h=>?_)
 ·obtain⟨wd,m,ts,y,n,rfl,_⟩:=h
  rfl
 obtain⟨wd,m,ts,y,n,rfl,W,q⟩:=h
 have m9:=W.m9
 have few:=W.few
 refine⟨_,(zah (zak (zav (zpo rfl) rfl T.m_all PyProof.Rows.boot_all (zaa (zdc (N':=["t", "yes", "no", "wood"]) (n:=1) (kp:=[1,2,0]) rfl (piL (K:=K) (zac ad hr.lv rfl T.K_every_tie (zaa (pv 0) zab))) rfl rfl rfl (fun _ _ _ _ _=>(zaw (i:=0) (of_decide_eq_true rfl) rfl (Or.inl rfl))) (fun _ _ _ _ _=>zd9) (fun _ _ _ _ _=>(zac ae hr.lv rfl T.K_sure_kept (zaa (zac af hr.lv rfl T.K_tie_at (zaa (pv 3) (zaa (pv 0) zab))) (zaa (pv 1) (zaa (pv 2) zab)))))) zab)))),?_⟩
 refine⟨_,rfl,wd,m,ts,rfl,W,fun l H1 s1 nl hl=>?_⟩
 refine⟨l,rfl,⟨_,SqL.of hl⟩,?_⟩
 have lr:((List.range ts.length).map fun i:Nat=>V.int (i:Int)).length=ts.length:=by rw[List.length_map,List.length_range]
 refine zcw (K:=K) (a:=l) (xs:=(List.range ts.length).map fun i:Nat=>V.int (i:Int)) (fun i ys σ H2=>(∃v,σ=[v,some (.int y),some (.int n),some (.ref wd)])∧Same H1 H2∧ys=((ts.take i).map fun t=>t.sk y n).map V.bl) ⟨⟨none,rfl⟩,Same.refl _,rfl⟩ (fun i ys σ H2 hi pv=>?_) (fun i ys σ H2 hi pv=>?_) (fun i x ys σ H2 hx pv=>?_) (fun ys σ H2 pv p hp=>?_)
 ·obtain⟨_,_,rfl⟩:=pv
  rw[List.length_map,List.length_map,List.length_take]
  exact small (by omega)
 ·exact SqL.of (pv.2.1 _ _ hl)
 ·obtain⟨⟨v,rfl⟩,s2,rfl⟩:=pv
  rw[List.getElem?_map] at hx
  obtain⟨i',ah,rfl⟩:=Option.map_eq_some_iff.mp hx
  have il:i<ts.length:=by
   have:=(List.getElem?_eq_some_iff.mp ah).1
   rwa [List.length_range] at this
  rw[List.getElem?_range il] at ah
  cases ah
  have W2:=W.same (s1.trans s2)
  obtain⟨xs,zs,WA,dn⟩:=W2.ex
  have ai:ts[i]?=some ts[i]:=List.getElem?_eq_getElem il
  obtain⟨v2,aj,hd⟩:=DnL.get' dn (i:=i) (d:=ts[i].toD) (by rw[List.getElem?_map,ai];rfl)
  refine⟨_,rfl,_,rfl,wd,m,xs,zs,i,v2,rfl,WA,aj,?_⟩
  refine⟨_,rfl,_,rfl,ts[i],m,y,n,v2,rfl,hd,W.ok _ (List.getElem_mem il),by omega,fun H3 s3=>?_⟩
  refine⟨⟨_,rfl⟩,s2.trans s3,?_⟩
  rw[List.take_add_one,ai,Option.toList_some,List.map_append,List.map_append]
  rfl
 obtain⟨_,s2,rfl⟩:=pv
 rw[lr,List.take_length] at *
 refine⟨p,_,rfl,SqL.of zaf,?_⟩
 have e:(ts.map fun t=>t.sk y n).all id=ts.all fun t=>t.sk y n:=by rw[List.all_map];rfl
 rw[e]
 exact q _ ((s1.trans s2).trans (zai hp _))
theorem zm2(T:Txt K mg a d)(f:Nat){p:Addr}{C:Hp→Prop}{m:Nat}{leaf:Nat→Nat→Option PyData}{fdL:FuncData}{pl:List Str}{φ:Heap→Prop}
  (L_leaf_at:FnOk P w K mg base CX0 7 p fdL pl (zzt C leaf)) (LB_leaf_at:Binds K fdL pl []) (LP_leaf_at:∀h:Heap,φ h→∃o fd',h.get? p=some o∧o.data=.func fd') (hC:∀H H',Same H H'→C H→C H') (hCp:∀H,C H→H p=some (.ext φ))
  (G_told_tree:f≠0→FnOk P w K mg base CX0 (f+7) a.f_told_tree d.f_told_tree ["wood", "ties", "yes", "no", "leaf_at"] (zom (f-1) p C m leaf)):FnOk P w K mg base CX0 (f+8) a.f_told_tree d.f_told_tree ["wood", "ties", "yes", "no", "leaf_at"] (zom f p C m leaf):=by
 have ad:=zdy (P:=P) (w:=w) (base:=base) T
 have af:=zcz (P:=P) (w:=w) (base:=base) T
 have ae:=zbi (P:=P) (w:=w) (base:=base) T
 refine T.K_told_tree.ok sc_told_tree (fun vs H Q E h=>?_) (fun cdv A outer s H vs Q E hr h=>?_)
 ·obtain⟨wd,ts,tl,il,y,n,rfl,_⟩:=h
  rfl
 obtain⟨wd,ts,tl,il,y,n,rfl,W,aj,ai,hf,c0,ah,q⟩:=h
 have m9:=W.m9
 obtain⟨R,r0,rs,re⟩:=ah
 have rest:∃t,PSs (zci CX0 P w K mg base ["wood", "ties", "yes", "no", "leaf_at", "broken", "leaf", "k", "one", "other"] "told_tree" (zag zdx) a.f_told_tree cdv A outer s H E).nox ((za8 zdx).drop 5) t∧(∀(k:Nat)(r:List Nat)(v5 v6:Option V)(H1:Hp),Same H H1→zay m y n=k::r→za5 ts il y n=none→leaf y n=none→t { nx:=fun _ H'=>Q .non H',rt:=Q } [some (.ref wd),some (.ref tl),some (.int y),some (.int n),some (.ref p),v5,v6,some (.int (k:Int)),none,none] H1):=by
  by_cases ap:f=0
  ·refine⟨znt,zfa,?_⟩
   intro k r v5 v6 H1 s1 ho hb
   rw[ho,ap] at hf
   simp at hf
  ·have G_told_tree:=G_told_tree ap
   refine⟨_,(zae (zar (i:=8) sc_told_tree.nd rfl (Or.inl rfl) (zac G_told_tree hr.lv rfl T.K_told_tree (zaa (pv 0) (zaa (pv 1) (zaa (zac ae hr.lv rfl T.K_with_option (zaa (pv 2) (zaa (pv 7) zab))) (zaa (pv 3) (zaa (pv 4) zab)))))))
   (zae (zar (i:=9) sc_told_tree.nd rfl (Or.inl rfl) (zac G_told_tree hr.lv rfl T.K_told_tree (zaa (pv 0) (zaa (pv 1) (zaa (pv 2) (zaa (zac ae hr.lv rfl T.K_with_option (zaa (pv 3) (zaa (pv 7) zab))) (zaa (pv 4) zab)))))))
   (zah (zak (za6 (zaa za3 (zaa (pv 7) (zaa (pv 8) (zaa (pv 9) zab))))))))),?_⟩
   intro k r v5 v6 H1 s1 ho hb aq
   have hk:k∈zay m y n:=by rw[ho];exact List.mem_cons_self
   have km:=(mem_open.mp hk).1
   have l1:=zc0 hk
   have l2:=zc1 hk
   refine⟨_,rfl,_,rfl,_,rfl,_,rfl,y,k,rfl,by omega,_,rfl,_,rfl,wd,ts,tl,il,y|||2^k,n,rfl,W.same s1,s1 _ _ aj,ai,by omega,hC _ _ s1 c0,⟨R,(rs y n k r0 hk).1,rs,re⟩,fun v1 H2 s2 d1=>?_⟩
   refine⟨_,rfl,_,rfl,_,rfl,_,rfl,_,rfl,n,k,rfl,by omega,_,rfl,wd,ts,tl,il,y,n|||2^k,rfl,W.same (s1.trans s2),(s1.trans s2) _ _ aj,ai,by omega,hC _ _ (s1.trans s2) c0,⟨R,(rs y n k r0 hk).2,rs,re⟩,fun v2 H3 s3 d2=>?_⟩
   refine⟨_,rfl,_,rfl,_,rfl,small (by show 4≤1000;decide),fun tp al=>?_⟩
   have s4:=zai al (.tup [.str ("split" : Str),.int (k:Int),v1,v2])
   refine q _ _ (((s1.trans s2).trans s3).trans s4) ?_
   obtain⟨f',rfl⟩:∃f',f=f'+1:=⟨f-1,by omega⟩
   rw[zgk hb aq ho]
   exact⟨tp,_,rfl,zaf,_,_,rfl,rfl,_,_,rfl,rfl,_,_,rfl,Dn.same (s3.trans s4) _ _ d1,_,_,rfl,Dn.same s4 _ _ d2,rfl⟩
 obtain⟨t4,h4,r4⟩:=rest
 refine⟨_,(zae (zar (i:=5) sc_told_tree.nd rfl (Or.inl rfl) (zac ad hr.lv rfl T.K_first_sure_broken (zaa (pv 0) (zaa (pv 1) (zaa (pv 2) (zaa (pv 3) zab))))))
   (zae (za2 (zam zke (pv 5) zby (zao _)) (zah (zak (za6 (zaa za3 (zaa (pv 5) zab))))) zat)
   (zae (zar (i:=6) sc_told_tree.nd rfl (Or.inl rfl) (zp4 (i:=4) L_leaf_at hr.lv rfl (.inl rfl) LB_leaf_at LP_leaf_at (zaa (pv 2) (zaa (pv 3) zab))))
   (zae (za2 (zam zke (pv 6) zby (zao _)) (zah (zak (pv 6))) zat)
   (zae (zar (i:=7) sc_told_tree.nd rfl (Or.inl rfl) (zal (ixL (K:=K)) (zac af hr.lv rfl T.K_open_options (zaa (zal (ixT (K:=K)) (pv 0) zad (fun _ _=>rfl)) (zaa (pv 2) (zaa (pv 3) zab)))) zad (fun _ _=>rfl)))
   h4))))),?_⟩
 refine⟨_,rfl,_,rfl,_,rfl,_,rfl,wd,m,ts,tl,il,y,n,rfl,W,aj,ai,fun H1 s1=>?_⟩
 obtain⟨o,ho⟩:∃o,za5 ts il y n=o:=⟨_,rfl⟩
 rw[ho]
 obtain⟨xs,ys,⟨tb,tc,hw,hb,hc⟩,dn⟩:=W.ex
 rcases o with _|t
 ·refine⟨_,rfl,rfl,_,rfl,?_⟩
  refine zlp rfl ?_
  refine⟨rfl,_,rfl,_,rfl,hCp _ (hC _ _ s1 c0),y,n,rfl,hC _ _ s1 c0,fun v H2 s2 lv=>?_⟩
  unfold zi0 at lv
  cases hl:leaf y n with
  |some dd=>
   rw[hl] at lv
   obtain⟨dv,pp,rfl⟩:=lv
   refine⟨_,rfl,rfl,_,rfl,?_⟩
   refine zm4 (by intro z;cases z) ?_
   refine⟨_,rfl,?_⟩
   refine q _ _ (s1.trans s2) ?_
   rw[zh4 ho hl]
   exact dv
  |none=>
   rw[hl] at lv
   subst lv
   refine⟨_,rfl,rfl,_,rfl,?_⟩
   refine zlp rfl ?_
   have am:=s1.trans s2
   refine⟨_,rfl,wd,_,_,_,rfl,rfl,sqT (am _ _ hw),at0,_,rfl,_,rfl,m,y,n,rfl,by omega,fun l H3 s3 nl ao=>?_⟩
   obtain⟨ol,ak⟩:∃ol,zay m y n=ol:=⟨_,rfl⟩
   rw[ak] at ao
   rcases ol with _|⟨k,r⟩
   ·exact absurd hl (re y n r0 ho ak)
   ·refine⟨l,_,_,_,rfl,rfl,SqL.of ao,at0,?_⟩
    exact r4 k r _ _ H3 (am.trans s3) ak ho hl
 ·refine⟨_,rfl,rfl,_,rfl,?_⟩
  refine zm4 (by intro z;cases z) ?_
  refine⟨_,rfl,small (by show 2≤1000;decide),fun tp al=>?_⟩
  have s2:=zai al (.tup [.str ("broken" : Str),.int (t:Int)])
  refine q _ _ (s1.trans s2) ?_
  rw[zfr ho]
  exact⟨tp,_,rfl,zaf,_,_,rfl,rfl,_,_,rfl,rfl,rfl⟩
theorem zf2(T:Txt K mg a d){p:Addr}{C:Hp→Prop}{m:Nat}{leaf:Nat→Nat→Option PyData}{fdL:FuncData}{pl:List Str}{φ:Heap→Prop}
  (L:FnOk P w K mg base CX0 7 p fdL pl (zzt C leaf)) (LB:Binds K fdL pl []) (LP:∀h:Heap,φ h→∃o fd',h.get? p=some o∧o.data=.func fd') (hC:∀H H',Same H H'→C H→C H') (hCp:∀H,C H→H p=some (.ext φ)):
  ∀f:Nat,FnOk P w K mg base CX0 (f+8) a.f_told_tree d.f_told_tree ["wood", "ties", "yes", "no", "leaf_at"] (zom f p C m leaf)
 |0=>zm2 T 0 L LB LP hC hCp fun h=>absurd rfl h
 |f+1=>zm2 T (f+1) L LB LP hC hCp fun _=>zf2 T L LB LP hC hCp f
def zrh:Sp:=fun vs H Q _=>∃(wd:Addr)(m:Nat)(ts:List Tie)(y n:Nat),vs=[.ref wd,.int y,.int n]∧WoodT H wd m ts∧∀(v:V)(H':Hp),Same H H'→zi0 (zdt m) y n H' v→Q v H'
theorem zn1(T:Txt K mg a d):FnOk P w K mg base CX0 3 a.f_ware_leaf d.f_ware_leaf ["wood", "yes", "no"] zrh:=by
 have ad:=zcz (P:=P) (w:=w) (base:=base) T
 refine T.K_ware_leaf.ok zox (fun vs H Q E h=>?_) (fun cdv A outer s H vs Q E hr h=>?_)
 ·obtain⟨wd,m,ts,y,n,rfl,_⟩:=h
  rfl
 obtain⟨wd,m,ts,y,n,rfl,W,q⟩:=h
 have m9:=W.m9
 refine⟨_,(zae (za2 (zam zbh (zav (zcs (K:=K)) rfl T.m_len PySem.boot_len (zaa (zac ad hr.lv rfl T.K_open_options (zaa (zal (ixT (K:=K)) (pv 0) zad (fun _ _=>rfl)) (zaa (pv 1) (zaa (pv 2) zab)))) zab)) zad (zao _)) (zah (zak (za6 (zaa za3 zab)))) zat)
   (zah (zak zby))),?_⟩
 obtain⟨xs,ys,⟨tb,tc,hw,hb,hc⟩,dn⟩:=W.ex
 refine⟨_,rfl,wd,_,_,_,rfl,rfl,sqT hw,at0,_,rfl,_,rfl,m,y,n,rfl,by omega,fun l H2 s2 nl hl=>?_⟩
 refine⟨l,_,rfl,.inl (SqL.of hl),rfl,_,rfl,?_⟩
 rw[zk7,List.length_map]
 obtain⟨ol,ae⟩:∃ol,zay m y n=ol:=⟨_,rfl⟩
 rw[ae]
 rcases ol with _|⟨k,r⟩
 ·refine zdl rfl ?_
  refine⟨small (by show 1≤1000;decide),fun tp af=>?_⟩
  have s3:=zai af (.tup [.str ("ware" : Str)])
  refine q _ _ (s2.trans s3) ?_
  unfold zi0 zdt
  rw[if_pos ae]
  exact⟨⟨tp,_,rfl,zaf,_,_,rfl,rfl,rfl⟩,tp,rfl⟩
 ·refine zbm (by simp) ?_
  refine q _ _ s2 ?_
  unfold zi0 zdt
  rw[if_neg (by rw[ae];simp)]
theorem zjy(T:Txt K mg a d)(LB:zdm mg base a.c_cases_of a.t_cases_of)(f:Nat):FnOk P w K mg base CX0 (f+9) a.f_cases_of d.f_cases_of ["wood", "ties", "yes", "no"] (spT a.t_cases_of (zvl f)):=by
 refine T.K_cases_of.okC zpp (fun vs H Q E h=>?_) (fun cdv A outer s H vs Q E al hr h=>?_)
 ·obtain⟨_,wd,m,ts,tl,il,y,n,rfl,_⟩:=h
  rfl
 obtain⟨tb,wd,m,ts,tl,il,y,n,rfl,W,ak,aj,hf,q⟩:=h
 have LC:((zci CX0 P w K mg base ["wood", "ties", "yes", "no"] "cases_of" (zag zcg) a.f_cases_of cdv A outer s H E).nox).env.code=.ref a.c_cases_of:=al.symm.trans T.code_cases_of
 have LF:∀y∈(zfc (zho (zub (za8 zcg)[0]?))).names,y.2=.free→∃c,((zci CX0 P w K mg base ["wood", "ties", "yes", "no"] "cases_of" (zag zcg) a.f_cases_of cdv A outer s H E).nox).env.cells.lookup y.1=some c:=by
  intro y hy hz
  have e:y=(("wood" : Str),NameKind.free):=by
   have h:=(by decide +kernel:∀y∈(zfc (zho (zub (za8 zcg)[0]?))).names,y.2=NameKind.free→y=(("wood" : Str),NameKind.free))
   exact h y hy hz
  subst e
  exact⟨_,rfl⟩
 refine⟨_,(zah (zak (zk1 (k:=f+8) hr.lv rfl T.K_told_tree.g T.K_told_tree.kp T.K_told_tree.B (fun _=>rfl) (zaa (pv 0) (zaa (pv 1) (zaa (pv 2) (zaa (pv 3) (zaa (zrp LC LB rfl LF) zab)))))))),?_⟩
 refine⟨_,rfl,_,rfl,_,rfl,_,rfl,tb,fun p c' H1 np s1 hp hc ae ci _ _=>?_⟩
 obtain⟨cw,u,e1,r1,ic⟩:=ci 0 "wood" (.ref wd) rfl rfl rfl
 have af:((zci CX0 P w K mg base ["wood", "ties", "yes", "no"] "cases_of" (zag zcg) a.f_cases_of cdv A outer s H E).nox).env.cells=[(("wood" : Str),cw)]:=by
  have z:cw=s.heap.objs.size+1:=(Option.some.inj (show some (s.heap.objs.size+1)=some cw from e1)).symm
  rw[z]
  rfl
 have ad:=zn1 (P:=P) (w:=w) (base:=ae) T
 have L:=zvg (P:=P) (w:=w) (K:=K) (mg:=mg) (base:=ae) (ps:=["come", "gone"]) (fr:=["wood"]) (fv:=[.ref wd]) (k:=6) (leaf:=zdt m) (fun H=>WoodT H wd m ts) hp ⟨rfl,rfl,rfl,by decide +kernel,by decide +kernel,by decide +kernel,by decide +kernel⟩
  (fun x cc h=>by
   have h':=za9 LF h
   rw[af] at h'
   obtain⟨_,rfl⟩:=zb8 h'
   exact⟨_,ic⟩)
  (fun x y cc h1 h2=>by
   have ai:=za9 LF h1
   have ah:=za9 LF h2
   rw[af] at ai ah
   rw[(zb8 ai).1,(zb8 ah).1])
  (fun y hy hz=>by
   obtain⟨c,hc⟩:=LF y hy hz
   exact⟨c,zdq LF (by rw[←hz];exact hy) hc⟩)
  (fun i x v h1 h2=>by
   cases i with
   |zero=>
    cases h1
    cases h2
    exact⟨cw,u,zdq LF (by decide +kernel) e1,r1,ic⟩
   |succ i=>cases h1)
  rfl (fun _ _ _=>rfl) rfl
  (fun q A outer s H y n Q hr W0 q'=>⟨_,zfz ad (hr.mono (by decide)) rfl T.K_ware_leaf.g T.K_ware_leaf.kp T.K_ware_leaf.B .nil zlx (zaa (pv 2) (zaa (pv 0) (zaa (pv 1) zab))),⟨_,rfl,_,rfl,_,rfl,wd,m,ts,y,n,rfl,W0,q'⟩⟩)
 have G:=zf2 (P:=P) (w:=w) (base:=ae) (m:=m) T L (.all fun us hl=>match us,hl with|[_,_],_=>rfl) znn (fun H H' s h=>⟨h.1.same s,s _ _ h.2.1,s _ _ h.2.2⟩) (fun H h=>h.2.1) f
 refine⟨_,G,wd,ts,tl,il,y,n,rfl,W.same s1,s1 _ _ ak,aj,hf,⟨W.same s1,hp,hc⟩,EndsR.all (fun y n hb ho=>by unfold zdt;rw[if_pos ho];simp) _ _,fun v H' s2 dv=>q v H' (s1.trans s2) ?_⟩
 rw[←zih f y n hf]
 exact dv
theorem zvq(T:Txt K mg a d)(LB:zdm mg base a.c_cases_of a.t_cases_of):FnOk P w K mg base CX0 19 a.f_cases d.f_cases ["wood", "yes", "no"] (spT a.t_cases_of zxe):=by
 have ae:=zjy (P:=P) (w:=w) (base:=base) T LB 9
 have ad:=zb9 (P:=P) (w:=w) (base:=base) T
 refine T.K_cases.ok zvz (fun vs H Q E h=>?_) (fun cdv A outer s H vs Q E hr h=>?_)
 ·obtain⟨_,wd,m,ts,y,n,rfl,_⟩:=h
  rfl
 obtain⟨tb,wd,m,ts,y,n,rfl,W,m9,q⟩:=h
 have of:=zb4 m y n
 refine⟨_,(zah (zak (zac ae hr.lv rfl T.K_cases_of (zaa (pv 0) (zaa (zac ad hr.lv rfl T.K_every_tie (zaa (pv 0) zab)) (zaa (pv 1) (zaa (pv 2) zab))))))),?_⟩
 refine⟨_,rfl,_,rfl,wd,m,ts,rfl,W,fun l H1 s1 nl hl=>?_⟩
 refine⟨_,rfl,_,rfl,s1.tab tb,wd,m,ts,l,zbk ts,y,n,rfl,W.same s1,hl,fun i hi=>List.mem_range.mp hi,by omega,fun v H2 s2 dv=>?_⟩
 exact q v H2 (s1.trans s2) dv
theorem zil(T:Txt K mg a d):FnOk P w K mg base CX0 5 a.f_is_broken_leaf d.f_is_broken_leaf ["wood", "yes", "no", "t"] zur:=by
 have ae:=ziv (P:=P) (w:=w) (base:=base) T
 have af:=zhn (P:=P) (w:=w) (base:=base) T
 have ad:=zg1 (P:=P) (w:=w) (base:=base) T
 refine T.K_is_broken_leaf.ok ziq (fun vs H Q E h=>?_) (fun cdv A outer s H vs Q E hr h=>?_)
 ·obtain⟨wd,m,ts,y,n,t,rfl,_⟩:=h
  rfl
 obtain⟨wd,m,ts,y,n,t,rfl,W,q⟩:=h
 have m9:=W.m9
 have q0:=q H (Same.refl H)
 obtain⟨xs,ys,WA,dn⟩:=W.ex
 have lx:(xs.length:Int)+(ys.length:Int)=(ts.length:Int):=by
  have:=dn.length
  rw[List.length_map,List.length_append] at this
  omega
 refine⟨_,(zah (zak (zdi (zpt ziz zm9 zad (pv 3) (zac ae hr.lv rfl T.K_many_ties (zaa (pv 0) zab))) (zca (zac ad hr.lv rfl T.K_sure_broken (zaa (zac af hr.lv rfl T.K_tie_at (zaa (pv 0) (zaa (pv 3) zab))) (zaa (pv 1) (zaa (pv 2) zab)))))))),?_⟩
 refine⟨_,rfl,_,_,rfl,rfl,_,rfl,?_⟩
 by_cases c0:0≤t
 ·refine zit (decide_eq_true c0) ?_
  refine⟨_,rfl,wd,m,xs,ys,rfl,WA,_,_,rfl,rfl,_,rfl,?_⟩
  rw[lx]
  by_cases c1:t<(ts.length:Int)
  ·refine zit (decide_eq_true c1) ?_
   obtain⟨j,rfl⟩:∃j:Nat,t=(j:Int):=⟨t.toNat,by omega⟩
   have jl:j<ts.length:=by omega
   have ah:ts[j]?=some ts[j]:=List.getElem?_eq_getElem jl
   obtain⟨v2,ai,hd⟩:=DnL.get' dn (i:=j) (d:=ts[j].toD) (by rw[List.getElem?_map,ah];rfl)
   refine⟨_,rfl,_,rfl,wd,m,xs,ys,j,v2,rfl,WA,ai,?_⟩
   refine⟨_,rfl,_,rfl,ts[j],m,y,n,v2,rfl,hd,W.ok _ (List.getElem_mem jl),by omega,fun H3 s3=>?_⟩
   have e:brB ts (j:Int) y n=ts[j].sb y n:=by
    unfold brB zh8
    rw[decide_eq_true c0,decide_eq_true c1,Int.toNat_natCast,ah]
    rfl
   have q1:=q H3 s3
   rw[e] at q1
   exact q1
  ·refine ze2 (decide_eq_false c1) ?_
   have e:brB ts t y n=false:=by
    unfold brB
    rw[decide_eq_false c1,Bool.false_and,Bool.and_false]
   rw[e] at q0
   exact q0
 ·refine ze2 (decide_eq_false c0) ?_
  have e:brB ts t y n=false:=by
   unfold brB
   rw[decide_eq_false c0,Bool.false_and]
  rw[e] at q0
  exact⟨_,rfl,q0⟩
theorem ztb(T:Txt K mg a d)(f:Nat){p:Addr}{C:Hp→Prop}{R:Nat→Nat→Prop}{m:Nat}{ts:List Tie}{lf:Str→Nat→Nat→Bool}{fdL:FuncData}{pl:List Str}{φ:Heap→Prop}
  (L_is_leaf:FnOk P w K mg base CX0 9 p fdL pl (zq6 C R lf)) (LB_is_leaf:Binds K fdL pl []) (LP_is_leaf:∀h:Heap,φ h→∃o fd',h.get? p=some o∧o.data=.func fd') (hC:∀H H',Same H H'→C H→C H') (hCp:∀H,C H→H p=some (.ext φ)) (hR:∀y n k,R y n→k∈zay m y n→R (y|||2^k) n∧R y (n|||2^k))
  (G_is_tree:FnOk P w K mg base CX0 (f+9) a.f_is_tree d.f_is_tree ["wood", "yes", "no", "tree", "is_leaf"] (zhm f p C R m ts lf)):FnOk P w K mg base CX0 (f+10) a.f_is_tree d.f_is_tree ["wood", "yes", "no", "tree", "is_leaf"] (zhm (f+1) p C R m ts lf):=by
 have ae:=zil (P:=P) (w:=w) (base:=base) T
 have af:=zcz (P:=P) (w:=w) (base:=base) T
 have ad:=zbi (P:=P) (w:=w) (base:=base) T
 refine T.K_is_tree.ok sc_is_tree (fun vs H Q E h=>?_) (fun cdv A outer s H vs Q E hr h=>?_)
 ·obtain⟨wd,y,n,t,v,rfl,_⟩:=h
  rfl
 obtain⟨wd,y,n,t,v,rfl,W,dn,gd,dp,c0,q⟩:=h
 have m9:=W.m9
 obtain⟨xs,ys,⟨tb,tc,hw,hb,hc⟩,_⟩:=W.ex
 refine⟨_,(zae (za2 (zam zbh (zal (ixT (K:=K)) (pv 3) zad (fun _ _=>rfl)) za3 (zao _)) (zah (zak (zac ae hr.lv rfl T.K_is_broken_leaf (zaa (pv 0) (zaa (pv 1) (zaa (pv 2) (zaa (zal (ixT (K:=K)) (pv 3) zad (fun _ _=>rfl)) zab))))))) zat)
   (zae (za2 (zam zmq (zal (ixT (K:=K)) (pv 3) zad (fun _ _=>rfl)) za3 (zao _)) (zah (zak (zp4 (i:=4) L_is_leaf hr.lv rfl (.inl rfl) LB_is_leaf LP_is_leaf (zaa (zal (ixT (K:=K)) (pv 3) zad (fun _ _=>rfl)) (zaa (pv 1) (zaa (pv 2) zab)))))) zat)
   (zae (zar (i:=5) sc_is_tree.nd rfl (Or.inl rfl) (zal (ixT (K:=K)) (pv 3) zad (fun _ _=>rfl)))
   (zae (za2 (zam zor (pv 5) (zac af hr.lv rfl T.K_open_options (zaa (zal (ixT (K:=K)) (pv 0) zad (fun _ _=>rfl)) (zaa (pv 1) (zaa (pv 2) zab)))) (by with_unfolding_all rfl)) (zah (zak zhw)) zat)
   (zae (za2 (zfw (zbx (zac G_is_tree hr.lv rfl T.K_is_tree (zaa (pv 0) (zaa (zac ad hr.lv rfl T.K_with_option (zaa (pv 1) (zaa (pv 5) zab))) (zaa (pv 2) (zaa (zal (ixT (K:=K)) (pv 3) zad (fun _ _=>rfl)) (zaa (pv 4) zab)))))))) (zah (zak zhw)) zat)
   (zah (zak (zac G_is_tree hr.lv rfl T.K_is_tree (zaa (pv 0) (zaa (pv 1) (zaa (zac ad hr.lv rfl T.K_with_option (zaa (pv 2) (zaa (pv 5) zab))) (zaa (zal (ixT (K:=K)) (pv 3) zad (fun _ _=>rfl)) (zaa (pv 4) zab))))))))))))),?_⟩
 cases t with
 |broken t=>
  obtain⟨q0,xs,rfl,hp,xu,r1,rfl,hu,xl,r2,rfl,aj,ah⟩:=zcc dn
  cases(show r2=[] from ah)
  cases(show xu=.str ("broken" : Str) from hu)
  cases(show xl=.int t from aj)
  refine⟨_,rfl,q0,_,_,_,rfl,rfl,sqT hp,at0,rfl,_,rfl,?_⟩
  refine zdl rfl ?_
  exact⟨_,rfl,_,rfl,_,rfl,_,rfl,q0,_,_,_,rfl,rfl,sqT hp,at1,wd,m,ts,y,n,t,rfl,W,q⟩
 |leaf wo=>
  obtain⟨q0,xs,rfl,hp,xu,r1,rfl,hu,ah⟩:=zcc dn
  cases(show r1=[] from ah)
  cases(show xu=.str wo from hu)
  refine⟨_,rfl,q0,_,_,_,rfl,rfl,sqT hp,at0,rfl,_,rfl,?_⟩
  refine zbm gd.1 ?_
  refine⟨_,rfl,q0,_,_,_,rfl,rfl,sqT hp,at0,rfl,_,rfl,?_⟩
  refine zm4 gd.2 ?_
  exact⟨rfl,_,rfl,q0,_,_,_,rfl,rfl,sqT hp,at0,_,rfl,_,rfl,hCp _ c0.1,wo,y,n,rfl,c0,q⟩
 |split k ta tb'=>
  obtain⟨q0,xs,rfl,hp,xu,r1,rfl,hu,xl,r2,rfl,aj,va,r3,rfl,ha,vb,r4,rfl,ak,ah⟩:=zcc dn
  cases(show r4=[] from ah)
  cases(show xu=.str ("split" : Str) from hu)
  cases(show xl=.int k from aj)
  have da:ta.depth<f:=by have e:(WT.split k ta tb').depth=max ta.depth tb'.depth+1:=rfl;have:=Nat.le_max_left ta.depth tb'.depth;omega
  have db:tb'.depth<f:=by have e:(WT.split k ta tb').depth=max ta.depth tb'.depth+1:=rfl;have:=Nat.le_max_right ta.depth tb'.depth;omega
  refine⟨_,rfl,q0,_,_,_,rfl,rfl,sqT hp,at0,rfl,_,rfl,?_⟩
  refine zbm znx ?_
  refine⟨_,rfl,q0,_,_,_,rfl,rfl,sqT hp,at0,rfl,_,rfl,?_⟩
  refine zlp rfl ?_
  refine⟨_,rfl,q0,_,_,_,rfl,rfl,sqT hp,at1,?_⟩
  refine⟨_,rfl,_,rfl,wd,_,_,_,rfl,rfl,sqT hw,at0,_,rfl,_,rfl,m,y,n,rfl,by omega,fun l H2 s2 nl hl=>?_⟩
  refine⟨l,_,rfl,.inl (SqL.of hl),rfl,zbw _,_,rfl,?_⟩
  by_cases c:0≤k∧k.toNat∈zay m y n
  ·refine ze2 (show(!inV (.int k) (zaj (zay m y n)))=false by rw[zst,decide_eq_true c];rfl) ?_
   obtain⟨j,rfl⟩:∃j:Nat,k=(j:Int):=⟨k.toNat,by omega⟩
   have jo:j∈zay m y n:=by have:=c.2;rwa [Int.toNat_natCast] at this
   have jm:=(mem_open.mp jo).1
   refine⟨_,rfl,_,rfl,_,rfl,y,j,rfl,by omega,_,rfl,_,rfl,q0,_,_,_,rfl,rfl,sqT (s2 _ _ hp),at2,_,rfl,wd,y|||2^j,n,ta,va,rfl,W.same s2,Dn.same s2 _ _ ha,gd.1,da,⟨hC _ _ s2 c0.1,(hR y n j c0.2 jo).1⟩,fun H3 s3=>?_⟩
   refine⟨_,rfl,?_⟩
   have ai:=s2.trans s3
   have e:∀H',Same H H'→Q (.bl (isT ts m lf ta (y|||2^j) n&&isT ts m lf tb' y (n|||2^j))) H':=fun H' s'=>by
    have:=q H' s'
    unfold isT at this
    rw[if_pos c,Int.toNat_natCast] at this
    exact this
   cases ea:isT ts m lf ta (y|||2^j) n with
   |false=>
    refine zit rfl ?_
    have q3:=e _ ai
    rw[ea,Bool.false_and] at q3
    exact q3
   |true=>
    refine ze2 rfl ?_
    refine⟨_,rfl,_,rfl,_,rfl,_,rfl,n,j,rfl,by omega,_,rfl,q0,_,_,_,rfl,rfl,sqT (ai _ _ hp),at3,_,rfl,wd,y,n|||2^j,tb',vb,rfl,W.same ai,Dn.same ai _ _ ak,gd.2,db,⟨hC _ _ ai c0.1,(hR y n j c0.2 jo).2⟩,fun H4 s4=>?_⟩
    have q3:=e _ (ai.trans s4)
    rw[ea,Bool.true_and] at q3
    exact q3
  ·refine zit (show(!inV (.int k) (zaj (zay m y n)))=true by rw[zst,decide_eq_false c];rfl) ?_
   have q2:=q _ s2
   unfold isT at q2
   rw[if_neg c] at q2
   exact q2
theorem zj0(T:Txt K mg a d){p:Addr}{C:Hp→Prop}{R:Nat→Nat→Prop}{m:Nat}{ts:List Tie}{lf:Str→Nat→Nat→Bool}{fdL:FuncData}{pl:List Str}{φ:Heap→Prop}
  (L:FnOk P w K mg base CX0 9 p fdL pl (zq6 C R lf)) (LB:Binds K fdL pl []) (LP:∀h:Heap,φ h→∃o fd',h.get? p=some o∧o.data=.func fd') (hC:∀H H',Same H H'→C H→C H') (hCp:∀H,C H→H p=some (.ext φ)) (hR:∀y n k,R y n→k∈zay m y n→R (y|||2^k) n∧R y (n|||2^k)):
  ∀f:Nat,FnOk P w K mg base CX0 (f+9) a.f_is_tree d.f_is_tree ["wood", "yes", "no", "tree", "is_leaf"] (zhm f p C R m ts lf)
 |0=>⟨fun _ _ _ _ h=>by obtain⟨_,_,_,_,_,_,_,_,_,z,_⟩:=h;exact absurd z (Nat.not_lt_zero _),fun _ _ _ _ _ _ _ _ _ _ _ _ _ h=>by obtain⟨_,_,_,_,_,_,_,_,_,z,_⟩:=h;exact absurd z (Nat.not_lt_zero _)⟩
 |f+1=>ztb T f L LB LP hC hCp hR (zj0 T L LB LP hC hCp hR f)
theorem zru(T:Txt K mg a d){p:Addr}{C:Hp→Prop}{m:Nat}{ts:List Tie}{lf:Str→Nat→Nat→Bool}{fdL:FuncData}{pl:List Str}{φ:Heap→Prop}
  (L:FnOk P w K mg base CX0 9 p fdL pl (zv7 C lf)) (LB:Binds K fdL pl []) (LP:∀h:Heap,φ h→∃o fd',h.get? p=some o∧o.data=.func fd') (hC:∀H H',Same H H'→C H→C H') (hCp:∀H,C H→H p=some (.ext φ)) (f:Nat):FnOk P w K mg base CX0 (f+9) a.f_is_tree d.f_is_tree ["wood", "yes", "no", "tree", "is_leaf"] (zo2 f p C m ts lf):=
 (zj0 T (L.imp fun _ _ _ _=>zza) LB LP hC hCp (fun _ _ _ _ _=>⟨trivial,trivial⟩) f).imp fun _ _ _ _=>zsz
theorem zhv(T:Txt K mg a d)(f:Nat)(G_wares_in:f≠0→FnOk P w K mg base CX0 (f+1) a.f_wares_in d.f_wares_in ["yes", "tree"] (zly (f-1))):FnOk P w K mg base CX0 (f+2) a.f_wares_in d.f_wares_in ["yes", "tree"] (zly f):=by
 have ad:=zbi (P:=P) (w:=w) (base:=base) T
 refine T.K_wares_in.ok zo3 (fun vs H Q E h=>?_) (fun cdv A outer s H vs Q E hr h=>?_)
 ·obtain⟨y,t,v,rfl,_⟩:=h
  rfl
 obtain⟨y,t,v,rfl,hd,ae,f9,af,q⟩:=h
 cases t with
 |ware=>
  refine⟨_,zae (za2 (zam zbh (zal zob (pv 1) zad (fun _ _=>rfl)) za3 (zao _)) (zah (zak (zc3 (zaa (pv 0) zab)))) zat) zfa,?_⟩
  obtain⟨p,rfl,hp⟩:=zwx hd
  refine⟨_,rfl,p,_,_,_,rfl,rfl,sqT hp,at0,rfl,_,rfl,?_⟩
  refine zdl rfl ?_
  refine⟨_,rfl,small (by show 1≤1000;decide),fun l hl=>?_⟩
  exact q l _ (zai hl _) hl zaf
 |broken tt=>
  refine⟨_,zae (za2 (zam zbh (zal zob (pv 1) zad (fun _ _=>rfl)) za3 (zao _)) zfa zat) (zae (za2 (zam zbh (zal zob (pv 1) zad (fun _ _=>rfl)) za3 (zao _)) zfa zat) (zah (zak (zc3 zab)))),?_⟩
  obtain⟨p,rfl,hp⟩:=ztp hd
  refine⟨_,rfl,p,_,_,_,rfl,rfl,sqT hp,at0,rfl,_,rfl,?_⟩
  refine zbm zq2 ?_
  refine⟨_,rfl,p,_,_,_,rfl,rfl,sqT hp,at0,rfl,_,rfl,?_⟩
  refine zbm zoo ?_
  refine⟨small (by decide),fun l hl=>?_⟩
  exact q l _ (zai hl _) hl zaf
 |split k ta tb=>
  have ai:f≠0:=fun z=>by rw[z] at ae;simp[CT.depth] at ae
  have G_wares_in:=G_wares_in ai
  have ah:max ta.depth tb.depth+1≤f:=ae
  refine⟨_,(zae (za2 (zam zbh (zal (ixT (K:=K)) (pv 1) zad (fun _ _=>rfl)) za3 (zao _)) (zah (zak (zc3 (zaa (pv 0) zab)))) zat)
   (zae (za2 (zam zbh (zal (ixT (K:=K)) (pv 1) zad (fun _ _=>rfl)) za3 (zao _)) (zah (zak (zba zy3 (zac G_wares_in hr.lv rfl T.K_wares_in (zaa (zac ad hr.lv rfl T.K_with_option (zaa (pv 0) (zaa (zal (ixT (K:=K)) (pv 1) zad (fun _ _=>rfl)) zab))) (zaa (zal (ixT (K:=K)) (pv 1) zad (fun _ _=>rfl)) zab))) (zac G_wares_in hr.lv rfl T.K_wares_in (zaa (pv 0) (zaa (zal (ixT (K:=K)) (pv 1) zad (fun _ _=>rfl)) zab)))))) zat)
   (zah (zak (zc3 zab))))),?_⟩
  obtain⟨p,va,vb,rfl,hp,da,db⟩:=zwn hd
  obtain⟨k1,sa,sb⟩:=af
  refine⟨_,rfl,p,_,_,_,rfl,rfl,sqT hp,at0,rfl,_,rfl,?_⟩
  refine zbm zrf ?_
  refine⟨_,rfl,p,_,_,_,rfl,rfl,sqT hp,at0,rfl,_,rfl,?_⟩
  refine zdl rfl ?_
  refine⟨_,rfl,_,rfl,p,_,_,_,rfl,rfl,sqT hp,at1,y,k,rfl,k1,_,rfl,p,_,_,_,rfl,rfl,sqT hp,at2,y|||2^k,ta,va,rfl,da,by omega,by omega,sa,fun l1 H1 s1 n1 h1=>?_⟩
  refine⟨_,rfl,_,rfl,p,_,_,_,rfl,rfl,sqT (s1 _ _ hp),at3,y,tb,vb,rfl,Dn.same s1 _ _ db,by omega,by omega,sb,fun l2 H2 s2 n2 h2=>?_⟩
  have f1:=zfq ta (y|||2^k)
  have f2:=zfq tb y
  have p1:2^ta.depth≤2^8:=Nat.pow_le_pow_right (by decide) (by omega)
  have p2:2^tb.depth≤2^8:=Nat.pow_le_pow_right (by decide) (by omega)
  refine⟨l1,l2,_,_,rfl,rfl,s2 _ _ h1,h2,(by rw[List.length_map,List.length_map];exact small (by omega)),fun l3 h3=>?_⟩
  have e:zaj (ta.leaves (y|||2^k))++zaj (tb.leaves y)=zaj ((CT.split k ta tb).leaves y):=by
   show _=zaj (ta.leaves (y|||2^k)++tb.leaves y)
   rw[zaj,zaj,zaj,List.map_append]
  rw[e]
  exact q l3 _ ((s1.trans s2).trans (zai h3 _)) ((s1.trans s2).free h3) zaf
theorem zjs(T:Txt K mg a d):∀f:Nat,FnOk P w K mg base CX0 (f+2) a.f_wares_in d.f_wares_in ["yes", "tree"] (zly f)
 |0=>zhv T 0 fun h=>absurd rfl h
 |f+1=>zhv T (f+1) fun _=>zjs T f
theorem zg3(T:Txt K mg a d)(LB:zdm mg base a.c_cases_of a.t_cases_of):FnOk P w K mg base CX0 20 a.f_wares d.f_wares ["wood"] (spT a.t_cases_of zx0):=by
 have af:=zvq (P:=P) (w:=w) (base:=base) T LB
 have ae:=zjs (P:=P) (w:=w) (base:=base) T 9
 have ad:=zbi (P:=P) (w:=w) (base:=base) T
 refine T.K_wares.ok sc_wares (fun vs H Q E h=>?_) (fun cdv A outer s H vs Q E hr h=>?_)
 ·obtain⟨_,wd,m,ts,rfl,_⟩:=h
  rfl
 obtain⟨tb,wd,m,ts,rfl,W,m1,m9,q⟩:=h
 have of:=zb4 m 1 0
 have dp:=zfy (ts:=ts) (il:=zbk ts) (m:=m) 9 1 0
 have ah:=zf7 (ts:=ts) (il:=zbk ts) (m:=m) (by omega) 9 1 0
 have pm:=zq8 W.ok m1 9 (by omega)
 refine⟨_,(zae (zar (i:=1) sc_wares.nd rfl (Or.inl rfl) (zac ad hr.lv rfl T.K_with_option (zaa zad (zaa zad zab))))
   (zah (zak (zav zoj rfl T.m_sorted PyProof.Rows.boot_sorted (zaa (zac ae hr.lv rfl T.K_wares_in (zaa (pv 1) (zaa (zac af hr.lv rfl T.K_cases (zaa (pv 0) (zaa (pv 1) (zaa zad zab)))) zab))) zab))))),?_⟩
 refine⟨0,0,rfl,by decide,?_⟩
 refine⟨_,rfl,_,rfl,_,rfl,tb,wd,m,ts,1,0,rfl,W,m9,fun v H1 s1 dv=>?_⟩
 refine⟨1,_,v,rfl,dv,dp,by omega,ah,fun l H2 s2 n2 ai=>?_⟩
 refine⟨l,((zbo ts (zbk ts) m 9 1 0).leaves 1).map (fun k:Nat=>(k:Int)),rfl,SqL.of (by rw[ai];exact congrArg some (congrArg HO.lst (zss _).symm)),fun ms h1 h2 l3 h3=>?_⟩
 rw[zp9 h1 h2 pm (ziw m ts),zss]
 exact q l3 _ ((s1.trans s2).trans (zai h3 _)) ((s1.trans s2).free h3) zaf
theorem zi2(T:Txt K mg a d)(f:Nat)(G_first_keeping:f≠0→FnOk P w K mg base CX0 (f+6) a.f_first_keeping d.f_first_keeping ["wood", "ties", "yes", "no"] (zn9 (f-1))):FnOk P w K mg base CX0 (f+7) a.f_first_keeping d.f_first_keeping ["wood", "ties", "yes", "no"] (zn9 f):=by
 have ad:=zdy (P:=P) (w:=w) (base:=base) T
 have af:=zcz (P:=P) (w:=w) (base:=base) T
 have ae:=zbi (P:=P) (w:=w) (base:=base) T
 refine T.K_first_keeping.ok sc_first_keeping (fun vs H Q E h=>?_) (fun cdv A outer s H vs Q E hr h=>?_)
 ·obtain⟨wd,m,ts,tl,il,y,n,rfl,_⟩:=h
  rfl
 obtain⟨wd,m,ts,tl,il,y,n,rfl,W,ai,ah,hf,q⟩:=h
 have m9:=W.m9
 have rest:∃t,PSs (zci CX0 P w K mg base ["wood", "ties", "yes", "no", "left", "k", "found"] "first_keeping" (zag zcb) a.f_first_keeping cdv A outer s H E).nox ((za8 zcb).drop 4) t∧(∀(k:Nat)(v4:Option V)(H1:Hp),Same H H1→(zay m y n).getLast?=some k→za5 ts il y n=none→t { nx:=fun _ H'=>Q .non H',rt:=Q } [some (.ref wd),some (.ref tl),some (.int y),some (.int n),v4,some (.int (k:Int)),none] H1):=by
  by_cases ak:f=0
  ·refine⟨znt,zfa,?_⟩
   intro k v4 H1 s1 ho hb
   rw[ak] at hf
   rw[List.eq_nil_of_length_eq_zero (Nat.le_zero.mp hf)] at ho
   cases ho
  ·have G_first_keeping:=G_first_keeping ak
   refine⟨_,(zae (zar (i:=6) sc_first_keeping.nd rfl (Or.inl rfl) (zac G_first_keeping hr.lv rfl T.K_first_keeping (zaa (pv 0) (zaa (pv 1) (zaa (pv 2) (zaa (zac ae hr.lv rfl T.K_with_option (zaa (pv 3) (zaa (pv 5) zab))) zab))))))
   (zae (za2 (zam zke (pv 6) zby (zao _)) (zah (zak (pv 6))) zat)
   (zah (zak (zac G_first_keeping hr.lv rfl T.K_first_keeping (zaa (pv 0) (zaa (pv 1) (zaa (zac ae hr.lv rfl T.K_with_option (zaa (pv 2) (zaa (pv 5) zab))) (zaa (pv 3) zab))))))))),?_⟩
   intro k v4 H1 s1 ho hb
   have hk:=(zmp ho).1
   have km:=(mem_open.mp hk).1
   have l1:=zc0 hk
   have l2:=zc1 hk
   have e:zbt ts il m f y n=(match zbt ts il m (f-1) y (n|||2^k) with|some s=>some s|none=>zbt ts il m (f-1) (y|||2^k) n):=by
    obtain⟨f',rfl⟩:∃f',f=f'+1:=⟨f-1,by omega⟩
    exact zqn hb ho
   refine⟨_,rfl,_,rfl,_,rfl,_,rfl,_,rfl,n,k,rfl,by omega,wd,m,ts,tl,il,y,n|||2^k,rfl,W.same s1,s1 _ _ ai,ah,by omega,fun H2 s2=>?_⟩
   obtain⟨o,aj⟩:∃o,zbt ts il m (f-1) y (n|||2^k)=o:=⟨_,rfl⟩
   rw[aj]
   rcases o with _|g
   ·refine⟨_,rfl,rfl,_,rfl,?_⟩
    refine zlp rfl ?_
    refine⟨_,rfl,_,rfl,_,rfl,_,rfl,y,k,rfl,by omega,_,rfl,wd,m,ts,tl,il,y|||2^k,n,rfl,W.same (s1.trans s2),(s1.trans s2) _ _ ai,ah,by omega,fun H3 s3=>?_⟩
    have q1:=q H3 ((s1.trans s2).trans s3)
    rw[e,aj] at q1
    exact q1
   ·refine⟨_,rfl,rfl,_,rfl,?_⟩
    refine zm4 (by intro z;cases z) ?_
    have q1:=q H2 (s1.trans s2)
    rw[e,aj] at q1
    exact⟨_,rfl,q1⟩
 obtain⟨t4,h4,r4⟩:=rest
 refine⟨_,(zae (za2 (zam zke (zac ad hr.lv rfl T.K_first_sure_broken (zaa (pv 0) (zaa (pv 1) (zaa (pv 2) (zaa (pv 3) zab))))) zby (zao _)) (zah (zak zby)) zat)
   (zae (zar (i:=4) sc_first_keeping.nd rfl (Or.inl rfl) (zac af hr.lv rfl T.K_open_options (zaa (zal (ixT (K:=K)) (pv 0) zad (fun _ _=>rfl)) (zaa (pv 2) (zaa (pv 3) zab)))))
   (zae (za2 (zam zbh (zav (zcs (K:=K)) rfl T.m_len PySem.boot_len (zaa (pv 4) zab)) zad (zao _)) (zah (zak (pv 2))) zat)
   (zae (zar (i:=5) sc_first_keeping.nd rfl (Or.inl rfl) (zal (ixL (K:=K)) (pv 4) (zAo zy2 zad) (fun _ _=>rfl)))
   h4)))),?_⟩
 refine⟨_,rfl,_,rfl,_,rfl,_,rfl,wd,m,ts,tl,il,y,n,rfl,W,ai,ah,fun H1 s1=>?_⟩
 obtain⟨o,ho⟩:∃o,za5 ts il y n=o:=⟨_,rfl⟩
 rw[ho]
 obtain⟨xs,ys,⟨tb,tc,hw,hb,hc⟩,dn⟩:=W.ex
 rcases o with _|t
 ·refine⟨rfl,_,rfl,?_⟩
  refine zlp rfl ?_
  refine⟨_,rfl,wd,_,_,_,rfl,rfl,sqT (s1 _ _ hw),at0,_,rfl,_,rfl,m,y,n,rfl,by omega,fun l H2 s2 nl hl=>?_⟩
  refine⟨_,rfl,l,_,rfl,.inl (SqL.of hl),rfl,_,rfl,?_⟩
  rw[zk7,List.length_map]
  by_cases hn:zay m y n=[]
  ·refine zdl (by rw[hn];rfl) ?_
   have q1:=q H2 (s1.trans s2)
   have e:zbt ts il m f y n=some y:=by
    exact zrl ho hn
   rw[e] at q1
   exact⟨_,rfl,q1⟩
  ·refine zbm (fun z=>hn (List.eq_nil_of_length_eq_zero z)) ?_
   obtain⟨k,hk⟩:∃k,(zay m y n).getLast?=some k:=by
    cases e:(zay m y n).getLast? with
    |none=>exact absurd (List.getLast?_eq_none_iff.mp e) hn
    |some k=>exact⟨k,rfl⟩
   have al:atI (zaj (zay m y n)) (-1)=some (.int (k:Int)):=by
    obtain⟨l',e⟩:=List.getLast?_eq_some_iff.mp hk
    rw[e]
    exact zxp l' k
   refine⟨_,rfl,_,rfl,l,_,_,_,rfl,rfl,SqL.of hl,al,?_⟩
   exact r4 k _ H2 (s1.trans s2) hk ho
 ·refine⟨rfl,_,rfl,?_⟩
  refine zm4 (by intro z;cases z) ?_
  have q1:=q H1 s1
  have e:zbt ts il m f y n=none:=by
   exact zn0 ho
  rw[e] at q1
  exact q1
theorem zcm(T:Txt K mg a d):∀f:Nat,FnOk P w K mg base CX0 (f+7) a.f_first_keeping d.f_first_keeping ["wood", "ties", "yes", "no"] (zn9 f)
 |0=>zi2 T 0 fun h=>absurd rfl h
 |f+1=>zi2 T (f+1) fun _=>zcm T f
theorem zl8(T:Txt K mg a d):FnOk P w K mg base CX0 17 a.f_first_ware d.f_first_ware ["wood", "yes", "no"] zwc:=by
 have ah:=zcq (P:=P) (w:=w) (base:=base) T
 have ae:=zbi (P:=P) (w:=w) (base:=base) T
 have af:=zb9 (P:=P) (w:=w) (base:=base) T
 have ad:=zcm (P:=P) (w:=w) (base:=base) T 9
 refine T.K_first_ware.ok zmf (fun vs H Q E h=>?_) (fun cdv A outer s H vs Q E hr h=>?_)
 ·obtain⟨wd,m,ts,y,n,rfl,_⟩:=h
  rfl
 obtain⟨wd,m,ts,y,n,rfl,W,m9,m1,S,q⟩:=h
 refine⟨_,(zae (za2 (zbx (zac ah hr.lv rfl T.K_has (zaa (pv 2) (zaa zad zab)))) (zah (zak zby)) zat)
   (zah (zak (zac ad hr.lv rfl T.K_first_keeping (zaa (pv 0) (zaa (zac af hr.lv rfl T.K_every_tie (zaa (pv 0) zab)) (zaa (zac ae hr.lv rfl T.K_with_option (zaa (pv 1) (zaa zad zab))) (zaa (pv 2) zab)))))))),?_⟩
 refine⟨_,rfl,_,_,rfl,_,rfl,?_⟩
 have e0:znj (n:Int) 0=n.testBit 0:=za4 n 0
 rw[e0]
 refine zbv (fun c=>?_) (fun c=>?_)
 ·refine q H none (Same.refl H) fun s' sm hs=>?_
  unfold za0
  rw[hs.2 0 c,Bool.false_and]
 ·have c':=Bool.eq_false_iff.mpr c
  have of:=zb4 m (y|||2^0) n
  have S':Stand m (y|||2^0) n:=⟨zu3 S.dj c',zrr S.ym (by omega),S.nm⟩
  refine⟨_,rfl,_,rfl,wd,m,ts,rfl,W,fun l H1 s1 nl hl=>?_⟩
  refine⟨_,rfl,y,0,rfl,by omega,_,rfl,wd,m,ts,l,zbk ts,y|||2^0,n,rfl,W.same s1,hl,fun i hi=>List.mem_range.mp hi,by omega,fun H2 s2=>?_⟩
  have F:=zcl (il:=zbk ts) W.ok 9 (y|||2^0) n (by omega) S'
  have ai:∀s',InS (y|||2^0) n s'∧zdp ts (zbk ts) s'=true↔InS y n s'∧za0 ts s'=true:=fun s'=>by
   unfold za0
   rw[zey,Bool.and_eq_true]
   constructor
   ·rintro⟨a1,a2⟩
    exact⟨⟨fun j hj=>a1.1 j (by rw[zce,hj,Bool.true_or]),a1.2⟩,a1.1 0 (by rw[zce,decide_eq_true rfl,Bool.or_true]),a2⟩
   ·rintro⟨a1,a2,a3⟩
    refine⟨⟨fun j hj=>?_,a1.2⟩,a3⟩
    rw[zce,Bool.or_eq_true,decide_eq_true_eq] at hj
    rcases hj with z|rfl
    ·exact a1.1 j z
    ·exact a2
  generalize zbt ts (zbk ts) m 9 (y|||2^0) n=o at F ⊢
  refine q H2 o (s1.trans s2) ?_
  cases o with
  |none=>
   intro s' sm hs
   cases e:za0 ts s' with
   |false=>rfl
   |true=>
    have:=(ai s').mpr ⟨hs,e⟩
    rw[F s' sm this.1] at this
    cases this.2
  |some g=>
   obtain⟨b1,b2,b3,b4⟩:=F
   obtain⟨c1,c2⟩:=(ai g).mp ⟨b2,b3⟩
   refine⟨b1,c1,c2,fun s' sm hs hw=>?_⟩
   have:=(ai s').mpr ⟨hs,hw⟩
   exact b4 s' sm this.1 this.2
theorem zls(T:Txt K mg a d):FnOk P w K mg base CX0 1 a.f_boughs_left d.f_boughs_left ["boughs", "kept"] zoz:=by
 refine T.K_boughs_left.ok sc_boughs_left (fun vs H Q E h=>?_) (fun cdv A outer s H vs Q E hr h=>?_)
 ·obtain⟨tb,lk,L,kept,m,rfl,_⟩:=h
  rfl
 obtain⟨tb,lk,L,kept,m,rfl,⟨xs,ap,dn⟩,aI,pw,kl,Ll,m9,ok,up,q⟩:=h
 have lx:xs.length=L.length:=by
  have:=dn.length
  rw[List.length_map,List.length_map] at this
  exact this.symm
 refine⟨_,(zae (zar (i:=2) sc_boughs_left.nd rfl (Or.inl rfl) (zc3 zab))
   (zae (zes PassesOwn.never rfl (piT (K:=K) (pv 0)) (pgT (K:=K) (n:=4) rfl (zbq (zaw (i:=3) sc_boughs_left.nd rfl (Or.inl rfl)) (zbq (zaw (i:=4) sc_boughs_left.nd rfl (Or.inl rfl)) (zbq (zaw (i:=5) sc_boughs_left.nd rfl (Or.inl rfl)) (zbq (zaw (i:=6) sc_boughs_left.nd rfl (Or.inl rfl)) zfu))))) (zae (zar (i:=7) sc_boughs_left.nd rfl (Or.inl rfl) (zbn zbr rfl T.m_tuple PyProof.Rows.boot_tuple (zaa (zdc (N':=["k", "kept"]) (n:=1) (kp:=[1]) rfl (piT (K:=K) (pv 6)) rfl rfl rfl (fun _ _ _ _ _=>(zaw (i:=0) (of_decide_eq_true rfl) rfl (Or.inl rfl))) (fun _ _ _ _ _=>(zb2 (zam (inS (K:=K)) (pv 0) (pv 1) (by with_unfolding_all rfl)))) (fun _ _ _ _ _=>(zd0 (K:=K) PySem.F.plainAttrs_list PySem.F.slot_list_index PySem.F.type_list_index zgr (pv 1) (zaa (pv 0) zab)))) zab)))
   (zah (za2 (zam zhu (zav (zcs (K:=K)) rfl T.m_len PySem.boot_len (zaa (pv 7) zab)) zad (zao _)) (zah (zea (zd0 (K:=K) PySem.F.plainAttrs_list PySem.F.slot_list_append PySem.F.type_list_append zec (pv 2) (zaa (za6 (zaa (zd0 (K:=K) PySem.F.plainAttrs_list PySem.F.slot_list_index PySem.F.type_list_index zgr (pv 1) (zaa (pv 3) zab)) (zaa (pv 4) (zaa (pv 5) (zaa (pv 7) zab))))) zab)))) zat))))
   (zah (zak (zbn zbr rfl T.m_tuple PyProof.Rows.boot_tuple (zaa (pv 2) zab)))))),?_⟩
 refine⟨small (by show 0≤1000;decide),fun lf av=>?_⟩
 have s1:=zai av (.lst [])
 have g1:L2.upd H lf (.lst []) lf=some (.lst []):=zaf
 generalize L2.upd H lf (.lst [])=H1 at s1 g1 ⊢
 refine⟨_,rfl,tb,rfl,⟨_,sqT (s1 _ _ ap)⟩,?_⟩
 have az:∀i,∀t∈((L.take i).filterMap (mvB kept)).map Bg.tie,t.Ok kept.length:=fun i t ht=>by
  obtain⟨b',aF,rfl⟩:=List.mem_map.mp ht
  obtain⟨b,hb,e⟩:=List.mem_filterMap.mp aF
  have ae:=List.mem_of_mem_take hb
  exact zn2 pw (ok b ae) (up b ae) e
 refine zsc (K:=K) (a:=tb) (xs:=xs) (fun i σ H2=>∃(v3 v4 v5 v6 v7:Option V)(ys:List V),σ=[some (.ref tb),some (.ref lk),some (.ref lf),v3,v4,v5,v6,v7]∧Same H H2∧H2 lf=some (.lst ys)∧DnL H2 ((((L.take i).filterMap (mvB kept)).map Bg.tie).map Tie.toD) ys∧ys.length≤i) ⟨none,none,none,none,none,[],rfl,s1,g1,rfl,Nat.le_refl _⟩ (fun i σ H2 _ z=>?_) ?_ ?_
 ·obtain⟨_,_,_,_,_,_,_,s2,_⟩:=z
  exact sqT (s2 _ _ ap)
 ·rintro i x σ H2 hx ⟨v3,v4,v5,v6,v7,ys,rfl,s2,g2,dy,yl⟩
  obtain⟨d0,ar,hd⟩:=dn.get hx
  rw[List.getElem?_map,List.getElem?_map] at ar
  obtain⟨t0,aC,rfl⟩:=Option.map_eq_some_iff.mp ar
  obtain⟨b,hb,rfl⟩:=Option.map_eq_some_iff.mp aC
  have ae:=List.mem_of_getElem? hb
  have au:=ok b ae
  have aJ:=au.few
  obtain⟨p,pk,rfl,hp,aA⟩:=zcu hd
  have et:L.take (i+1)=L.take i++[b]:=by rw[List.take_add_one,hb,Option.toList_some]
  have il:=(List.getElem?_eq_some_iff.mp hb).1
  have ad:H2 lk=some (.lst (zaj kept)):=s2 _ _ aI
  have af:=s2 _ _ aA
  refine⟨p,_,rfl,sqT (s2 _ _ hp),rfl,_,_,rfl,_,_,rfl,_,_,rfl,_,_,rfl,rfl,?_⟩
  refine⟨_,rfl,pk,rfl,⟨_,sqT af⟩,?_⟩
  refine zgt (K:=K) (a:=pk) (xs:=zaj b.ks) (fun j zs σ H3=>(∃v,σ=[v,some (.ref lk)])∧H3=H2∧zs=zaj (((b.ks.take j).filter fun k=>decide (k∈kept)).map (mv kept))) ⟨⟨none,rfl⟩,rfl,rfl⟩ (fun j zs σ H3 hj pv=>?_) (fun j zs σ H3 hj pv=>?_) (fun j x zs σ H3 hx pv=>?_) (fun zs σ H3 pv l1 aD=>?_)
  ·obtain⟨_,_,rfl⟩:=pv
   rw[List.length_map,List.length_map]
   refine small (Nat.le_trans (List.length_filter_le _ _) ?_)
   rw[List.length_take]
   omega
  ·rw[pv.2.1]
   exact sqT af
  ·obtain⟨⟨v,rfl⟩,rfl,rfl⟩:=pv
   rw[List.getElem?_map] at hx
   obtain⟨k,hk,rfl⟩:=Option.map_eq_some_iff.mp hx
   have ek:(b.ks.take (j+1)).filter (fun k=>decide (k∈kept))=(b.ks.take j).filter (fun k=>decide (k∈kept))++(if k∈kept then [k] else []):=by
    rw[List.take_add_one,hk,Option.toList_some,List.filter_append]
    by_cases z:k∈kept<;>simp[z]
   refine⟨_,rfl,_,rfl,lk,_,rfl,.inl (SqL.of ad),rfl,zbw _,_,rfl,?_⟩
   by_cases c:k∈kept
   ·refine zit (show inV (.int (k:Int)) (zaj kept)=true by rw[zb3,decide_eq_true c]) ?_
    obtain⟨r1,r2⟩:=zeo c
    refine⟨_,rfl,.inl ⟨rfl,_,SqL.of ad⟩,_,rfl,lk,_,_,mv kept k,rfl,rfl,ad,rfl,zbw _,r1,r2,⟨_,rfl⟩,rfl,?_⟩
    rw[ek,if_pos c,List.map_append,zdj]
    rfl
   ·refine ze2 (show inV (.int (k:Int)) (zaj kept)=false by rw[zb3,decide_eq_false c]) ?_
    refine⟨⟨_,rfl⟩,rfl,?_⟩
    rw[ek,if_neg c,List.append_nil]
  obtain⟨_,rfl,rfl⟩:=pv
  have aE:(zaj b.ks).length=b.ks.length:=List.length_map _
  rw[aE,List.take_length]
  have s4:=zai aD (.lst (zaj ((b.ks.filter fun k=>decide (k∈kept)).map (mv kept))))
  have g4:L2.upd H3 l1 (.lst (zaj ((b.ks.filter fun k=>decide (k∈kept)).map (mv kept)))) l1=some (.lst (zaj ((b.ks.filter fun k=>decide (k∈kept)).map (mv kept)))):=zaf
  have ay:=DnL.same s4 _ _ dy
  generalize L2.upd H3 l1 (.lst (zaj ((b.ks.filter fun k=>decide (k∈kept)).map (mv kept))))=H4 at s4 g4 ay ⊢
  refine⟨l1,_,rfl,.inl ⟨SqL.of g4,fun tk aB=>?_⟩⟩
  have ak:=zai aB (.tup (zaj ((b.ks.filter fun k=>decide (k∈kept)).map (mv kept))))
  have s5:=s4.trans ak
  have g5:L2.upd H4 tk (.tup (zaj ((b.ks.filter fun k=>decide (k∈kept)).map (mv kept)))) tk=some (.tup (zaj ((b.ks.filter fun k=>decide (k∈kept)).map (mv kept)))):=zaf
  have al:=DnL.same ak _ _ ay
  generalize L2.upd H4 tk (.tup (zaj ((b.ks.filter fun k=>decide (k∈kept)).map (mv kept))))=H5 at s5 g5 al ak ⊢
  have ax:=s2.trans s5
  have am:H5 lf=some (.lst ys):=s5 _ _ g2
  refine⟨_,rfl,tk,_,rfl,.inr (sqT g5),_,_,rfl,rfl,_,rfl,?_⟩
  have len:(zaj ((b.ks.filter fun k=>decide (k∈kept)).map (mv kept))).length=(b.ks.filter fun k=>decide (k∈kept)).length:=by rw[List.length_map,List.length_map]
  by_cases e:b.ks.filter (fun k=>decide (k∈kept))=[]
  ·refine ze2 (decide_eq_false (show ¬(((zaj ((b.ks.filter fun k=>decide (k∈kept)).map (mv kept))).length:Nat):Int)>0 by rw[len,e];decide)) ?_
   refine⟨_,_,_,_,_,ys,rfl,ax,am,?_,by omega⟩
   have:(L.take (i+1)).filterMap (mvB kept)=(L.take i).filterMap (mvB kept):=by
    rw[et,List.filterMap_append]
    simp[mvB,e]
   rw[this]
   exact al
  ·have lp:=List.length_pos_iff.mpr e
   refine zit (decide_eq_true (show(((zaj ((b.ks.filter fun k=>decide (k∈kept)).map (mv kept))).length:Nat):Int)>0 by rw[len];omega)) ?_
   obtain⟨k,hk⟩:=List.exists_mem_of_ne_nil _ e
   have ao:=List.mem_filter.mp hk
   have hu:=up b ae ⟨k,ao.1,of_decide_eq_true ao.2⟩
   obtain⟨r1,r2⟩:=zeo hu
   have ah:H5 lk=some (.lst (zaj kept)):=s5 _ _ ad
   refine⟨_,rfl,.inl ⟨rfl,_,SqL.of am⟩,_,rfl,.inl ⟨rfl,_,SqL.of ah⟩,_,rfl,lk,_,_,mv kept b.u,rfl,rfl,ah,rfl,zbw _,r1,r2,_,rfl,_,rfl,_,rfl,small (by show 4≤1000;decide),fun tn aH=>?_⟩
   have ai:=zai aH (.tup [.int ((mv kept b.u:Nat):Int),.int b.lo,.int b.hi,.ref tk])
   have s6:=ax.trans ai
   have g6:L2.upd H5 tn (.tup [.int ((mv kept b.u:Nat):Int),.int b.lo,.int b.hi,.ref tk]) tn=some (.tup [.int ((mv kept b.u:Nat):Int),.int b.lo,.int b.hi,.ref tk]):=zaf
   have aj:=ai _ _ am
   have aw:=ai _ _ g5
   have aq:=DnL.same ai _ _ al
   generalize L2.upd H5 tn (.tup [.int ((mv kept b.u:Nat):Int),.int b.lo,.int b.hi,.ref tk])=H6 at s6 g6 aj aw aq ai ⊢
   refine⟨lf,_,_,rfl,rfl,aj,zb0 (by omega),?_⟩
   have em:mvB kept b=some ⟨mv kept b.u,b.lo,b.hi,(b.ks.filter fun k=>decide (k∈kept)).map (mv kept)⟩:=by
    unfold mvB
    rw[if_neg e]
   have ee:(L.take (i+1)).filterMap (mvB kept)=(L.take i).filterMap (mvB kept)++[⟨mv kept b.u,b.lo,b.hi,(b.ks.filter fun k=>decide (k∈kept)).map (mv kept)⟩]:=by
    rw[et,List.filterMap_append,List.filterMap_cons,em]
    rfl
   have aG:=zn2 pw au (up b ae) em
   refine⟨_,_,_,_,_,ys++[.ref tn],rfl,Same.put s6 av aj,zaf,?_,by rw[List.length_append,List.length_singleton];omega⟩
   rw[ee,List.map_append,List.map_append]
   refine(DnL.pen aj (zfl (az i) (by omega)) aq).append ⟨_,[],rfl,Dn.pen aj (zk8 (Nat.le_trans aG.few (by omega))) ⟨tn,_,rfl,g6,_,_,rfl,rfl,_,_,rfl,rfl,_,_,rfl,rfl,_,_,rfl,⟨tk,_,rfl,aw,zfn _⟩,rfl⟩,rfl⟩
 ·rintro σ H2 ⟨v3,v4,v5,v6,v7,ys,rfl,s2,g2,dy,yl⟩
  rw[lx,List.take_length] at dy
  refine⟨_,rfl,lf,_,rfl,.inl ⟨SqL.of g2,fun t ht=>?_⟩⟩
  have s3:=zai ht (.tup ys)
  exact q t _ (s2.trans s3) ⟨ys,zaf,DnL.same s3 _ _ dy⟩
theorem zl7(T:Txt K mg a d):FnOk P w K mg base CX0 1 a.f_cross_left d.f_cross_left ["cross", "kept"] zqw:=by
 refine T.K_cross_left.ok sc_cross_left (fun vs H Q E h=>?_) (fun cdv A outer s H vs Q E hr h=>?_)
 ·obtain⟨tc,lk,C,kept,m,rfl,_⟩:=h
  rfl
 obtain⟨tc,lk,C,kept,m,rfl,⟨xs,aq,dn⟩,aD,pw,kl,Cl,m9,ok,nb,q⟩:=h
 have lx:xs.length=C.length:=by
  have:=dn.length
  rw[List.length_map] at this
  exact this.symm
 refine⟨_,(zae (zar (i:=2) sc_cross_left.nd rfl (Or.inl rfl) (zc3 zab))
   (zae (zes PassesOwn.never rfl (piT (K:=K) (pv 0)) (zaw (i:=3) sc_cross_left.nd rfl (Or.inl rfl)) (zah (za2 (zam zbh (zal (ixT (K:=K)) (pv 3) zad (fun _ _=>rfl)) za3 (zao _)) (zae (zar (i:=4) sc_cross_left.nd rfl (Or.inl rfl) (zbn zbr rfl T.m_tuple PyProof.Rows.boot_tuple (zaa (zdc (N':=["k", "number", "kept"]) (n:=2) (kp:=[1]) rfl (piT (K:=K) (zal (ixT (K:=K)) (pv 3) zad (fun _ _=>rfl))) rfl rfl rfl (fun _ _ _ _ _=>(pgT (K:=K) (n:=2) rfl (zbq (zaw (i:=0) (of_decide_eq_true rfl) rfl (Or.inl rfl)) (zbq (zaw (i:=1) (of_decide_eq_true rfl) rfl (Or.inl rfl)) zfu)))) (fun _ _ _ _ _=>(zb2 (zam (inS (K:=K)) (pv 0) (pv 2) (by with_unfolding_all rfl)))) (fun _ _ _ _ _=>(za6 (zaa (zd0 (K:=K) PySem.F.plainAttrs_list PySem.F.slot_list_index PySem.F.type_list_index zgr (pv 2) (zaa (pv 0) zab)) (zaa (pv 1) zab))))) zab)))
   (zah (za2 (zam zhu (zav (zcs (K:=K)) rfl T.m_len PySem.boot_len (zaa (pv 4) zab)) zad (zao _)) (zah (zea (zd0 (K:=K) PySem.F.plainAttrs_list PySem.F.slot_list_append PySem.F.type_list_append zec (pv 2) (zaa (za6 (zaa za3 (zaa (zal (ixT (K:=K)) (pv 3) zad (fun _ _=>rfl)) (zaa (pv 4) zab)))) zab)))) zat))) (zah (za2 (PW.pt (zja (zam (inS (K:=K)) (zal (ixT (K:=K)) (pv 3) zad (fun _ _=>rfl)) (pv 1) (by with_unfolding_all rfl)) (zhi (zam (inS (K:=K)) (zal (ixT (K:=K)) (pv 3) zad (fun _ _=>rfl)) (pv 1) (by with_unfolding_all rfl))))) (zah (zea (zd0 (K:=K) PySem.F.plainAttrs_list PySem.F.slot_list_append PySem.F.type_list_append zec (pv 2) (zaa (za6 (zaa (zal (ixT (K:=K)) (pv 3) zad (fun _ _=>rfl)) (zaa (zd0 (K:=K) PySem.F.plainAttrs_list PySem.F.slot_list_index PySem.F.type_list_index zgr (pv 1) (zaa (zal (ixT (K:=K)) (pv 3) zad (fun _ _=>rfl)) zab)) (zaa (zd0 (K:=K) PySem.F.plainAttrs_list PySem.F.slot_list_index PySem.F.type_list_index zgr (pv 1) (zaa (zal (ixT (K:=K)) (pv 3) zad (fun _ _=>rfl)) zab)) zab)))) zab)))) zat)))))
   (zah (zak (zbn zbr rfl T.m_tuple PyProof.Rows.boot_tuple (zaa (pv 2) zab)))))),?_⟩
 refine⟨small (by show 0≤1000;decide),fun lf ax=>?_⟩
 have s1:=zai ax (.lst [])
 have g1:L2.upd H lf (.lst []) lf=some (.lst []):=zaf
 generalize L2.upd H lf (.lst [])=H1 at s1 g1 ⊢
 refine⟨_,rfl,tc,rfl,⟨_,sqT (s1 _ _ aq)⟩,?_⟩
 have okC:∀i,∀t∈(C.take i).filterMap (mvT kept),t.Ok kept.length:=fun i t ht=>by
  obtain⟨c,hc,e⟩:=List.mem_filterMap.mp ht
  have ak:=List.mem_of_mem_take hc
  exact zou pw (ok c ak) (nb c ak) e
 refine zsc (K:=K) (a:=tc) (xs:=xs) (fun i σ H2=>∃(v3 v4:Option V)(ys:List V),σ=[some (.ref tc),some (.ref lk),some (.ref lf),v3,v4]∧Same H H2∧H2 lf=some (.lst ys)∧DnL H2 (((C.take i).filterMap (mvT kept)).map Tie.toD) ys∧ys.length≤i) ⟨none,none,[],rfl,s1,g1,rfl,Nat.le_refl _⟩ (fun i σ H2 _ z=>?_) ?_ ?_
 ·obtain⟨_,_,_,_,s2,_⟩:=z
  exact sqT (s2 _ _ aq)
 ·rintro i x σ H2 hx ⟨v3,v4,ys,rfl,s2,g2,dy,yl⟩
  obtain⟨c,hc,hd⟩:=zry dn hx
  have ak:=List.mem_of_getElem? hc
  have au:=ok c ak
  have ar:=nb c ak
  have et:C.take (i+1)=C.take i++[c]:=by rw[List.take_add_one,hc,Option.toList_some]
  have il:=(List.getElem?_eq_some_iff.mp hc).1
  have ad:H2 lk=some (.lst (zaj kept)):=s2 _ _ aD
  have af:∀(v4:Option V)(H5:Hp),Same H2 H5→mvT kept c=none→∃(v3 v4':Option V)(ys:List V),[some (.ref tc),some (.ref lk),some (.ref lf),some x,v4]=[some (.ref tc),some (.ref lk),some (.ref lf),v3,v4']∧Same H H5∧H5 lf=some (.lst ys)∧DnL H5 (((C.take (i+1)).filterMap (mvT kept)).map Tie.toD) ys∧ys.length≤i+1:=fun v4 H5 s5 e=>⟨_,_,ys,rfl,s2.trans s5,s5 _ _ g2,by
   have:(C.take (i+1)).filterMap (mvT kept)=(C.take i).filterMap (mvT kept):=by
    rw[et,List.filterMap_append,List.filterMap_cons,e]
    simp
   rw[this]
   exact DnL.same s5 _ _ dy,by omega⟩
  have put:∀(v4:Option V)(H6:Hp)(c':Tie)(v:V),Same H2 H6→mvT kept c=some c'→Dn H6 c'.toD v→∃(v3 v4':Option V)(ys':List V),[some (.ref tc),some (.ref lk),some (.ref lf),some x,v4]=[some (.ref tc),some (.ref lk),some (.ref lf),v3,v4']∧Same H (L2.upd H6 lf (.lst (ys++[v])))∧(L2.upd H6 lf (.lst (ys++[v]))) lf=some (.lst ys')∧DnL (L2.upd H6 lf (.lst (ys++[v]))) (((C.take (i+1)).filterMap (mvT kept)).map Tie.toD) ys'∧ys'.length≤i+1:=fun v4 H6 c' v s6 e dv=>by
   have g6:H6 lf=some (.lst ys):=s6 _ _ g2
   refine⟨_,_,ys++[v],rfl,Same.put (s2.trans s6) ax g6,zaf,?_,by rw[List.length_append,List.length_singleton];omega⟩
   have:(C.take (i+1)).filterMap (mvT kept)=(C.take i).filterMap (mvT kept)++[c']:=by
    rw[et,List.filterMap_append,List.filterMap_cons,e]
    rfl
   rw[this,List.map_append]
   have ap:=zou pw au ar e
   exact(DnL.pen g6 (zfl (okC i) (by omega)) (DnL.same s6 _ _ dy)).append ⟨v,[],rfl,Dn.pen g6 (zqv ap (by omega)) dv,rfl⟩
  cases c with
  |bough u lo hi ks=>exact absurd rfl (ar u lo hi ks)
  |most top ps=>
   obtain⟨p,pk,zs,rfl,hp,az,dz⟩:=zvr hd
   have lz:=dz.length
   rw[List.length_map] at lz
   have pl:=au.2.2.2
   have ae:=s2 _ _ hp
   have aj:=s2 _ _ az
   refine⟨_,rfl,p,_,_,_,rfl,rfl,sqT ae,at0,rfl,_,rfl,?_⟩
   refine zdl rfl ?_
   refine⟨_,rfl,p,_,_,_,rfl,rfl,sqT ae,at2,pk,rfl,⟨_,sqT aj⟩,?_⟩
   refine zgt (K:=K) (a:=pk) (xs:=zs) (fun j rs σ H3=>(∃v v',σ=[v,v',some (.ref lk)])∧Same H2 H3∧DnL H3 ((((ps.take j).filter fun p=>decide (p.1∈kept)).map fun p=>(mv kept p.1,p.2)).map zix) rs∧rs.length≤j) ⟨⟨none,none,rfl⟩,Same.refl _,rfl,Nat.le_refl _⟩ (fun j rs σ H3 hj pv=>?_) (fun j rs σ H3 hj pv=>?_) (fun j x rs σ H3 hx pv=>?_) (fun rs σ H3 pv l1 aC=>?_)
   ·exact small (by have:=pv.2.2.2;omega)
   ·exact sqT (pv.2.1 _ _ aj)
   ·obtain⟨⟨v,v',rfl⟩,s3,dr,rl⟩:=pv
    obtain⟨pp,r,ay,rfl,aB⟩:=zkh (DnL.same (s2.trans s3) _ _ dz) hx
    have ek:(ps.take (j+1)).filter (fun p=>decide (p.1∈kept))=(ps.take j).filter (fun p=>decide (p.1∈kept))++(if pp.1∈kept then [pp] else []):=by
     rw[List.take_add_one,ay,Option.toList_some,List.filter_append]
     by_cases z:pp.1∈kept<;>simp[z]
    have ah:H3 lk=some (.lst (zaj kept)):=s3 _ _ ad
    refine⟨r,_,rfl,sqT aB,rfl,_,_,rfl,_,_,rfl,rfl,?_⟩
    refine⟨_,rfl,_,rfl,lk,_,rfl,.inl (SqL.of ah),rfl,zbw _,_,rfl,?_⟩
    by_cases c:pp.1∈kept
    ·refine zit (show inV (.int (pp.1:Int)) (zaj kept)=true by rw[zb3,decide_eq_true c]) ?_
     obtain⟨r1,r2⟩:=zeo c
     refine⟨_,rfl,.inl ⟨rfl,_,SqL.of ah⟩,_,rfl,lk,_,_,mv kept pp.1,rfl,rfl,ah,rfl,zbw _,r1,r2,_,rfl,small (by show 2≤1000;decide),fun tn ai=>?_⟩
     have s4:=zai ai (.tup [.int ((mv kept pp.1:Nat):Int),.int pp.2])
     refine⟨⟨_,_,rfl⟩,s3.trans s4,?_,by rw[List.length_append,List.length_singleton];omega⟩
     rw[ek,if_pos c,List.map_append,List.map_append]
     exact(DnL.same s4 _ _ dr).append ⟨_,[],rfl,⟨tn,_,rfl,zaf,_,_,rfl,rfl,_,_,rfl,rfl,rfl⟩,rfl⟩
    ·refine ze2 (show inV (.int (pp.1:Int)) (zaj kept)=false by rw[zb3,decide_eq_false c]) ?_
     refine⟨⟨_,_,rfl⟩,s3,?_,by omega⟩
     rw[ek,if_neg c,List.append_nil]
     exact dr
   obtain⟨_,s3,dr,rl⟩:=pv
   rw[←lz,List.take_length] at dr
   have lr:=dr.length
   rw[List.length_map,List.length_map] at lr
   have ao:=zai aC (.lst rs)
   have s4:=s3.trans ao
   have g4:L2.upd H3 l1 (.lst rs) l1=some (.lst rs):=zaf
   have av:=DnL.same ao _ _ dr
   generalize L2.upd H3 l1 (.lst rs)=H4 at s4 g4 av ao ⊢
   refine⟨l1,_,rfl,.inl ⟨SqL.of g4,fun tk aA=>?_⟩⟩
   have al:=zai aA (.tup rs)
   have s5:=s4.trans al
   have g5:L2.upd H4 tk (.tup rs) tk=some (.tup rs):=zaf
   have aw:=DnL.same al _ _ av
   generalize L2.upd H4 tk (.tup rs)=H5 at s5 g5 aw al ⊢
   refine⟨_,rfl,tk,_,rfl,.inr (sqT g5),_,_,rfl,rfl,_,rfl,?_⟩
   by_cases e:ps.filter (fun p=>decide (p.1∈kept))=[]
   ·refine ze2 (decide_eq_false (show ¬((rs.length:Nat):Int)>0 by rw[←lr,e];decide)) ?_
    exact af _ H5 s5 (by simp only[mvT];rw[if_pos e])
   ·have lp:=List.length_pos_iff.mpr e
    refine zit (decide_eq_true (show((rs.length:Nat):Int)>0 by omega)) ?_
    refine⟨_,rfl,.inl ⟨rfl,_,SqL.of (s5 _ _ g2)⟩,_,rfl,p,_,_,_,rfl,rfl,sqT (s5 _ _ ae),at1,_,rfl,small (by show 3≤1000;decide),fun tn ai=>?_⟩
    have am:=zai ai (.tup [.str ("most" : Str),.int top,.ref tk])
    have s6:=s5.trans am
    refine⟨lf,_,_,rfl,rfl,s6 _ _ g2,zb0 (by omega),?_⟩
    exact put _ _ (.most top ((ps.filter (fun p=>decide (p.1∈kept))).map fun p=>(mv kept p.1,p.2))) (.ref tn) s6 (by simp only[mvT];rw[if_neg e]) ⟨tn,_,rfl,zaf,_,_,rfl,rfl,_,_,rfl,rfl,_,_,rfl,⟨tk,_,rfl,am _ _ g5,DnL.same am _ _ aw⟩,rfl⟩
  |needs aa bb=>
   obtain⟨p,rfl,hp⟩:=zve hd
   have ae:=s2 _ _ hp
   refine⟨_,rfl,p,_,_,_,rfl,rfl,sqT ae,at0,rfl,_,rfl,?_⟩
   refine zbm (by decide +kernel) ?_
   refine⟨_,rfl,p,_,_,_,rfl,rfl,sqT ae,at1,_,rfl,lk,_,rfl,.inl (SqL.of ad),rfl,zbw _,_,rfl,?_⟩
   by_cases ca:aa∈kept
   ·refine zit (show inV (.int (aa:Int)) (zaj kept)=true by rw[zb3,decide_eq_true ca]) ?_
    refine⟨_,rfl,p,_,_,_,rfl,rfl,sqT ae,at2,_,rfl,lk,_,rfl,.inl (SqL.of ad),rfl,zbw _,_,rfl,?_⟩
    by_cases cb:bb∈kept
    ·refine zit (show inV (.int (bb:Int)) (zaj kept)=true by rw[zb3,decide_eq_true cb]) ?_
     obtain⟨r1,r2⟩:=zeo ca
     obtain⟨r3,r4⟩:=zeo cb
     refine⟨_,rfl,.inl ⟨rfl,_,SqL.of g2⟩,_,rfl,p,_,_,_,rfl,rfl,sqT ae,at0,_,rfl,.inl ⟨rfl,_,SqL.of ad⟩,_,rfl,p,_,_,_,rfl,rfl,sqT ae,at1,lk,_,_,mv kept aa,rfl,rfl,ad,rfl,zbw _,r1,r2,_,rfl,.inl ⟨rfl,_,SqL.of ad⟩,_,rfl,p,_,_,_,rfl,rfl,sqT ae,at2,lk,_,_,mv kept bb,rfl,rfl,ad,rfl,zbw _,r3,r4,small (by show 3≤1000;decide),fun tn ai=>?_⟩
     have s6:=zai ai (.tup [.str ("needs" : Str),.int ((mv kept aa:Nat):Int),.int ((mv kept bb:Nat):Int)])
     refine⟨lf,_,_,rfl,rfl,s6 _ _ g2,zb0 (by omega),?_⟩
     exact put _ _ (.needs (mv kept aa) (mv kept bb)) (.ref tn) s6 (by simp only[mvT];rw[if_pos ⟨ca,cb⟩]) ⟨tn,_,rfl,zaf,_,_,rfl,rfl,_,_,rfl,rfl,_,_,rfl,rfl,rfl⟩
    ·refine ze2 (show inV (.int (bb:Int)) (zaj kept)=false by rw[zb3,decide_eq_false cb]) ?_
     exact af _ H2 (Same.refl _) (by simp only[mvT];rw[if_neg fun z=>cb z.2])
   ·refine ze2 (show inV (.int (aa:Int)) (zaj kept)=false by rw[zb3,decide_eq_false ca]) ?_
    refine zga ?_
    exact af _ H2 (Same.refl _) (by simp only[mvT];rw[if_neg fun z=>ca z.1])
  |bans aa bb=>
   obtain⟨p,rfl,hp⟩:=zve hd
   have ae:=s2 _ _ hp
   refine⟨_,rfl,p,_,_,_,rfl,rfl,sqT ae,at0,rfl,_,rfl,?_⟩
   refine zbm (by decide +kernel) ?_
   refine⟨_,rfl,p,_,_,_,rfl,rfl,sqT ae,at1,_,rfl,lk,_,rfl,.inl (SqL.of ad),rfl,zbw _,_,rfl,?_⟩
   by_cases ca:aa∈kept
   ·refine zit (show inV (.int (aa:Int)) (zaj kept)=true by rw[zb3,decide_eq_true ca]) ?_
    refine⟨_,rfl,p,_,_,_,rfl,rfl,sqT ae,at2,_,rfl,lk,_,rfl,.inl (SqL.of ad),rfl,zbw _,_,rfl,?_⟩
    by_cases cb:bb∈kept
    ·refine zit (show inV (.int (bb:Int)) (zaj kept)=true by rw[zb3,decide_eq_true cb]) ?_
     obtain⟨r1,r2⟩:=zeo ca
     obtain⟨r3,r4⟩:=zeo cb
     refine⟨_,rfl,.inl ⟨rfl,_,SqL.of g2⟩,_,rfl,p,_,_,_,rfl,rfl,sqT ae,at0,_,rfl,.inl ⟨rfl,_,SqL.of ad⟩,_,rfl,p,_,_,_,rfl,rfl,sqT ae,at1,lk,_,_,mv kept aa,rfl,rfl,ad,rfl,zbw _,r1,r2,_,rfl,.inl ⟨rfl,_,SqL.of ad⟩,_,rfl,p,_,_,_,rfl,rfl,sqT ae,at2,lk,_,_,mv kept bb,rfl,rfl,ad,rfl,zbw _,r3,r4,small (by show 3≤1000;decide),fun tn ai=>?_⟩
     have s6:=zai ai (.tup [.str ("bans" : Str),.int ((mv kept aa:Nat):Int),.int ((mv kept bb:Nat):Int)])
     refine⟨lf,_,_,rfl,rfl,s6 _ _ g2,zb0 (by omega),?_⟩
     exact put _ _ (.bans (mv kept aa) (mv kept bb)) (.ref tn) s6 (by simp only[mvT];rw[if_pos ⟨ca,cb⟩]) ⟨tn,_,rfl,zaf,_,_,rfl,rfl,_,_,rfl,rfl,_,_,rfl,rfl,rfl⟩
    ·refine ze2 (show inV (.int (bb:Int)) (zaj kept)=false by rw[zb3,decide_eq_false cb]) ?_
     exact af _ H2 (Same.refl _) (by simp only[mvT];rw[if_neg fun z=>cb z.2])
   ·refine ze2 (show inV (.int (aa:Int)) (zaj kept)=false by rw[zb3,decide_eq_false ca]) ?_
    refine zga ?_
    exact af _ H2 (Same.refl _) (by simp only[mvT];rw[if_neg fun z=>ca z.1])
 ·rintro σ H2 ⟨v3,v4,ys,rfl,s2,g2,dy,yl⟩
  rw[lx,List.take_length] at dy
  refine⟨_,rfl,lf,_,rfl,.inl ⟨SqL.of g2,fun t ht=>?_⟩⟩
  have s3:=zai ht (.tup ys)
  exact q t _ (s2.trans s3) ⟨ys,zaf,DnL.same s3 _ _ dy⟩
theorem zfe(T:Txt K mg a d):FnOk P w K mg base CX0 1 a.f_without_place d.f_without_place ["cross", "place"] ztm:=by
 refine T.K_without_place.ok zjk (fun vs H Q E h=>?_) (fun cdv A outer s H vs Q E hr h=>?_)
 ·obtain⟨tc,C,p,rfl,_⟩:=h
  rfl
 obtain⟨tc,C,p,rfl,⟨xs,ad,dn⟩,pC,few,q⟩:=h
 have lx:xs.length=C.length:=by
  have:=dn.length
  rw[List.length_map] at this
  exact this.symm
 refine⟨_,(zah (zak (zba zqm (zkw zol (pv 0) znl (zov (pv 1))) (zkw zol (pv 0) (zov (zba zcr (pv 1) zad)) znl)))),?_⟩
 refine⟨_,rfl,_,rfl,_,rfl,tc,xs,rfl,ad,fun t1 H1 s1 h1=>?_⟩
 refine⟨_,rfl,_,rfl,_,_,rfl,rfl,_,rfl,tc,xs,rfl,s1 _ _ ad,fun t2 H2 s2 h2=>?_⟩
 rw[zqz xs p (by omega)] at h1
 have e1:((p:Int)+1)=((p+1:Nat):Int):=by omega
 have af:H2 t2=some (.tup (xs.drop (p+1))):=by
  rw[←zwp xs (p+1) (by omega)]
  rw[show(((p+1:Nat):Nat):Int)=(p:Int)+1 by omega]
  exact h2
 refine⟨t1,t2,_,_,rfl,rfl,s2 _ _ h1,af,small (by rw[List.length_take,List.length_drop];omega),fun c H3 s3 h3=>?_⟩
 have ae:=(s1.trans s2).trans s3
 refine q c H3 ae ⟨_,h3,?_⟩
 rw[List.eraseIdx_eq_take_drop_succ,List.map_append,List.map_take,List.map_drop]
 have d3:=DnL.same ae _ _ dn
 exact(DnL.take p d3).append (DnL.drop (p+1) d3)
theorem ze3(T:Txt K mg a d)(LB:zdm mg base a.c_cases_of a.t_cases_of):FnOk P w K mg base CX0 22 a.f_first_breaking d.f_first_breaking ["many", "boughs", "cross", "place"] (spT a.t_cases_of zro):=by
 have af:=zg3 (P:=P) (w:=w) (base:=base) T LB
 have ae:=zqu (P:=P) (w:=w) (base:=base) T
 have ad:=zfe (P:=P) (w:=w) (base:=base) T
 refine T.K_first_breaking.ok sc_first_breaking (fun vs H Q E h=>?_) (fun cdv A outer s H vs Q E hr h=>?_)
 ·obtain⟨_,tb,tc,m,p,B,C,rfl,_⟩:=h
  rfl
 obtain⟨ta,tb,tc,m,p,B,C,rfl,hB,hC,pC,m1,m9,aq,okC,Bl,Cl,q⟩:=h
 refine⟨_,(zae (zes PassesOwn.never rfl (piL (K:=K) (zac af hr.lv rfl T.K_wares (zaa (za6 (zaa (pv 0) (zaa (pv 1) (zaa (zac ad hr.lv rfl T.K_without_place (zaa (pv 2) (zaa (pv 3) zab))) zab)))) zab))) (zaw (i:=4) sc_first_breaking.nd rfl (Or.inl rfl)) (zah (za2 (zfw (zbx (zac ae hr.lv rfl T.K_keeps (zaa (zal (ixT (K:=K)) (pv 2) (pv 3) (fun _ _=>rfl)) (zaa (pv 4) zab))))) (zah (zak (pv 4))) zat)))
   (zah (zak zby))),?_⟩
 refine⟨_,rfl,_,rfl,_,rfl,_,rfl,tc,C,p,rfl,hC,pC,by omega,fun te H1 s1 hE=>?_⟩
 refine⟨small (by show 3≤1000;decide),fun wd ao=>?_⟩
 have s2:=s1.trans (zai ao (.tup [.int (m:Int),.ref tb,.ref te]))
 have g2:L2.upd H1 wd (.tup [.int (m:Int),.ref tb,.ref te]) wd=some (.tup [.int (m:Int),.ref tb,.ref te]):=zaf
 have am:=hE.same (zai ao (.tup [.int (m:Int),.ref tb,.ref te]))
 generalize L2.upd H1 wd (.tup [.int (m:Int),.ref tb,.ref te])=H2 at s2 g2 am ⊢
 have ap:∀t∈C.eraseIdx p,t.Ok m:=fun t ht=>okC t (List.mem_of_mem_eraseIdx ht)
 have El:(C.eraseIdx p).length≤20:=Nat.le_trans (List.length_eraseIdx_le _ _) Cl
 have W:=zf3 g2 (hB.same s2) am (fun t ht=>(List.mem_append.mp ht).elim (aq t) (ap t)) (by rw[List.length_append];omega) (by omega)
 refine⟨s2.tab ta,wd,m,B++C.eraseIdx p,rfl,W,m1,m9,fun ls H3 s3 au al=>?_⟩
 have ai:=s2.trans s3
 refine⟨ls,rfl,⟨_,SqL.of al⟩,?_⟩
 have aj:C[p]?=some C[p]:=List.getElem?_eq_getElem pC
 refine zg0 (K:=K) (a:=ls) (xs:=zaj (zaz m (B++C.eraseIdx p))) (fun i σ H4=>(∃v4:Option V,σ=[some (.int (m:Int)),some (.ref tb),some (.ref tc),some (.int (p:Int)),v4])∧Same H3 H4∧∀w∈(zaz m (B++C.eraseIdx p)).take i,C[p].keep w=true) ⟨⟨none,rfl⟩,Same.refl _,fun _ z=>nomatch z⟩ (fun i σ H4 _ z=>SqL.of (z.2.1 _ _ al)) ?_ ?_
 ·rintro i x σ H4 hx ⟨⟨v4,rfl⟩,s4,all⟩
  rw[List.getElem?_map] at hx
  obtain⟨wa,ak,rfl⟩:=Option.map_eq_some_iff.mp hx
  obtain⟨xs,ar,dC⟩:=hC.same (ai.trans s4)
  obtain⟨v,hv,dv⟩:=DnL.get' (i:=p) (d:=C[p].toD) dC (by rw[List.getElem?_map,aj];rfl)
  refine⟨_,rfl,_,rfl,tc,_,_,v,rfl,rfl,sqT ar,zcx hv,_,rfl,C[p],m,wa,v,rfl,dv,okC _ (List.getElem_mem pC),by omega,fun H5 s5=>?_⟩
  refine⟨_,rfl,?_⟩
  cases hk:C[p].keep wa
  ·refine zrb ?_
   refine⟨_,rfl,?_⟩
   have e:zcd m B C p=some wa:=by
    unfold zcd
    rw[aj,List.find?_eq_some_iff_getElem]
    obtain⟨il,ei⟩:=List.getElem?_eq_some_iff.mp ak
    refine⟨by simp[hk],i,il,ei,fun j hj=>?_⟩
    have:=all (zaz m (B++C.eraseIdx p))[j] (List.mem_take_iff_getElem.mpr ⟨j,by omega,rfl⟩)
    simp[this]
   have q':=q H5 (ai.trans (s4.trans s5))
   rw[e] at q'
   exact q'
  ·refine zga ?_
   refine⟨⟨_,rfl⟩,s4.trans s5,fun w' ah=>?_⟩
   rw[List.take_add_one,ak,Option.toList_some] at ah
   rcases List.mem_append.mp ah with z|z
   ·exact all w' z
   ·rw[List.mem_singleton.mp z];exact hk
 ·rintro σ H4 ⟨⟨v4,rfl⟩,s4,all⟩
  rw[List.length_map,List.take_length] at all
  have e:zcd m B C p=none:=by
   unfold zcd
   rw[aj,List.find?_eq_none]
   intro w' ah
   simp[all w' ah]
  have q':=q H4 (ai.trans s4)
  rw[e] at q'
  exact q'
theorem zhr(T:Txt K mg a d)(LB:zdm mg base a.c_cases_of a.t_cases_of):FnOk P w K mg base CX0 23 a.f_without_needless d.f_without_needless ["many", "boughs", "cross"] (spT a.t_cases_of zri):=by
 have ad:=ze3 (P:=P) (w:=w) (base:=base) T LB
 have ae:=zfe (P:=P) (w:=w) (base:=base) T
 refine T.K_without_needless.ok sc_without_needless (fun vs H Q E h=>?_) (fun cdv A outer s H vs Q E hr h=>?_)
 ·obtain⟨_,tb,tc,m,B,C,rfl,_⟩:=h
  rfl
 obtain⟨ta,tb,tc,m,B,C,rfl,hB,hC,m1,m9,al,okC,Bl,Cl,q⟩:=h
 refine⟨_,(zae (zar (i:=3) sc_without_needless.nd rfl (Or.inl rfl) (pv 2))
   (zae (zar (i:=4) sc_without_needless.nd rfl (Or.inl rfl) zad)
   (zae (zwr PassesOwn.never (zam zm9 (pv 4) (zav (zcs (K:=K)) rfl T.m_len PySem.boot_len (zaa (pv 3) zab)) (zao _)) (zah (za2 (zam zh2 (zac ad hr.lv rfl T.K_first_breaking (zaa (pv 0) (zaa (pv 1) (zaa (pv 3) (zaa (pv 4) zab))))) zby (zao _)) (zah (zar (i:=3) sc_without_needless.nd rfl (Or.inl rfl) (zac ae hr.lv rfl T.K_without_place (zaa (pv 3) (zaa (pv 4) zab))))) (zah (zar (i:=4) sc_without_needless.nd rfl (Or.inl rfl) (zba zcr (pv 4) zad))))))
   (zah (zak (pv 3)))))),?_⟩
 refine⟨_,rfl,?_⟩
 refine zu4 (fun σ H2=>∃(tl:Addr)(D:List Tie)(p f:Nat),σ=[some (.int (m:Int)),some (.ref tb),some (.ref tc),some (.ref tl),some (.int (p:Int))]∧Same H H2∧TiesAt H2 tl D∧(∀t∈D,t.Ok m)∧D.length=p+f∧D.length≤20∧zbf m B f D p=zbf m B C.length C 0) (fun σ H2=>match σ with|[_,_,_,some (.ref tl),some (.int p)]=>(match H2 tl with|some (.tup xs)=>xs.length-p.toNat|_=>0)|_=>0) ⟨tc,C,0,C.length,rfl,Same.refl _,hC,okC,by omega,Cl,rfl⟩ ?_ ?_
 ·rintro σ H2 ⟨tl,D,p,f,rfl,s2,⟨xs,ah,dn⟩,aj,eD,Dl,eN⟩
  have lx:xs.length=D.length:=by
   have:=dn.length
   rw[List.length_map] at this
   exact this.symm
  refine⟨_,rfl,_,rfl,tl,_,rfl,.inr (sqT ah),_,_,rfl,rfl,_,rfl,?_⟩
  by_cases c:p<D.length
  ·refine zit (decide_eq_true (show(p:Int)<((xs.length:Nat):Int) by omega)) ?_
   obtain⟨f',rfl⟩:∃f',f=f'+1:=⟨f-1,by omega⟩
   refine⟨_,rfl,_,rfl,_,rfl,_,rfl,s2.tab ta,tb,tl,m,p,B,D,rfl,hB.same s2,⟨xs,ah,dn⟩,c,m1,m9,al,aj,Bl,Dl,fun H3 s3=>?_⟩
   have af:H3 tl=some (.tup xs):=s3 _ _ ah
   refine⟨rfl,_,rfl,?_⟩
   have ai:(if zcd m B D p=none then zbf m B f' (D.eraseIdx p) p else zbf m B f' D (p+1))=zbf m B C.length C 0:=eN
   cases e:zcd m B D p with
   |none=>
    refine zdl rfl ?_
    rw[if_pos e] at ai
    refine⟨_,rfl,_,rfl,tl,D,p,rfl,⟨xs,af,DnL.same s3 _ _ dn⟩,c,by omega,fun t4 H4 s4 ⟨ys,h4,d4⟩=>?_⟩
    have le:(D.eraseIdx p).length+1=D.length:=by
     rw[List.length_eraseIdx,if_pos c]
     omega
    have ly:=d4.length
    rw[List.length_map] at ly
    refine⟨⟨t4,D.eraseIdx p,p,f',rfl,s2.trans (s3.trans s4),⟨ys,h4,d4⟩,fun t ht=>aj t (List.mem_of_mem_eraseIdx ht),by omega,by omega,ai⟩,?_⟩
    show(match H4 t4 with|some (.tup xs)=>xs.length-((p:Nat):Int).toNat|_=>0)<(match H2 tl with|some (.tup xs)=>xs.length-((p:Nat):Int).toNat|_=>0)
    rw[h4,ah]
    show ys.length-((p:Nat):Int).toNat<xs.length-((p:Nat):Int).toNat
    omega
   |some w0=>
    refine zbm (fun z=>nomatch z) ?_
    rw[e,if_neg (fun z=>nomatch z)] at ai
    refine⟨_,rfl,_,_,rfl,rfl,?_⟩
    have e1:(p:Int)+1=((p+1:Nat):Int):=by omega
    refine⟨⟨tl,D,p+1,f',by rw[←e1];rfl,s2.trans s3,⟨xs,af,DnL.same s3 _ _ dn⟩,aj,by omega,Dl,ai⟩,?_⟩
    show(match H3 tl with|some (.tup xs)=>xs.length-((p:Int)+1).toNat|_=>0)<(match H2 tl with|some (.tup xs)=>xs.length-((p:Nat):Int).toNat|_=>0)
    rw[af,ah]
    show xs.length-((p:Int)+1).toNat<xs.length-((p:Nat):Int).toNat
    omega
  ·refine ze2 (decide_eq_false (show ¬(p:Int)<((xs.length:Nat):Int) by omega)) ?_
   obtain rfl:f=0:=by omega
   refine⟨_,rfl,?_⟩
   have ak:D=zbf m B C.length C 0:=eN
   exact q tl H2 s2 ⟨xs,ah,by rw[←ak];exact dn⟩
 ·rintro σ H2 Q1 Q2 mono ⟨x1,h1,x2,h2,pq,ys,h3,h4,i,j,h5,h6,b,h7,h8⟩
  exact⟨x1,h1,x2,h2,pq,ys,h3,h4,i,j,h5,h6,b,h7,mono _ _ h8⟩
theorem zn7(T:Txt K mg a d):FnOk P w K mg base CX0 3 a.f_tightened d.f_tightened ["bough", "sold"] zx9:=by
 have ae:=zcq (P:=P) (w:=w) (base:=base) T
 have ad:=zdu (P:=P) (w:=w) (base:=base) T
 refine T.K_tightened.ok sc_tightened (fun vs H Q E h=>?_) (fun cdv A outer s H vs Q E hr h=>?_)
 ·obtain⟨v,ls,b,sold,rfl,_⟩:=h
  rfl
 obtain⟨v,ls,b,sold,rfl,hd,kl,af,sl,⟨w0,ar,ap⟩,q⟩:=h
 obtain⟨p,pk,rfl,hp,ah⟩:=zcu hd
 refine⟨_,(zae (zg2 (i:=2) sc_tightened.nd rfl rfl rfl (N':=["ware", "bough"]) (n:=1) (kp:=[0]) rfl (piL (K:=K) (pv 1)) rfl rfl rfl (fun _ _ _ _ _=>(zaw (i:=0) (of_decide_eq_true rfl) rfl (Or.inl rfl))) (fun _ _ _ _ _=>(zb2 (zbx (zac ae hr.lv rfl T.K_has (zaa (pv 0) (zaa (zal (ixT (K:=K)) (pv 1) zad (fun _ _=>rfl)) zab)))))) (fun _ _ _ _ _=>(zac ad hr.lv rfl T.K_count_in (zaa (zal (ixT (K:=K)) (pv 1) zad (fun _ _=>rfl)) (zaa (pv 0) zab)))))
   (zah (zak (za6 (zaa (zal (ixT (K:=K)) (pv 0) zad (fun _ _=>rfl)) (zaa (zav (ztu (K:=K) rfl) rfl T.m_min PyProof.Rows.boot_min (zaa (pv 2) zab)) (zaa (zav (zs3 (K:=K) rfl) rfl T.m_max PyProof.Rows.boot_max (zaa (pv 2) zab)) (zaa (zal (ixT (K:=K)) (pv 0) zad (fun _ _=>rfl)) zab)))))))),?_⟩
 refine⟨_,rfl,ls,rfl,⟨_,SqL.of af⟩,?_⟩
 refine zcw (K:=K) (a:=ls) (xs:=zaj sold) (fun i ys σ H2=>(∃v,σ=[v,some (.ref p)])∧Same H H2∧ys=zaj (((sold.take i).filter fun w=>w.testBit b.u).map (cnt b.ks))) ⟨⟨none,rfl⟩,Same.refl _,rfl⟩ (fun i ys σ H2 hi pv=>?_) (fun i ys σ H2 hi pv=>?_) (fun i x ys σ H2 hx pv=>?_) (fun ys σ H2 pv lc aq=>?_)
 ·obtain⟨_,_,rfl⟩:=pv
  rw[List.length_map,List.length_map]
  refine small (Nat.le_trans (List.length_filter_le _ _) ?_)
  rw[List.length_take]
  omega
 ·exact SqL.of (pv.2.1 _ _ af)
 ·obtain⟨⟨v,rfl⟩,s2,rfl⟩:=pv
  rw[List.getElem?_map] at hx
  obtain⟨wa,ak,rfl⟩:=Option.map_eq_some_iff.mp hx
  have ek:(sold.take (i+1)).filter (fun w=>w.testBit b.u)=(sold.take i).filter (fun w=>w.testBit b.u)++(if wa.testBit b.u=true then [wa] else []):=by
   rw[List.take_add_one,ak,Option.toList_some,List.filter_append]
   cases z:wa.testBit b.u<;>simp[z]
  refine⟨_,rfl,_,rfl,p,_,_,_,rfl,rfl,sqT (s2 _ _ hp),at0,_,_,rfl,_,rfl,?_⟩
  rw[za4]
  refine zbv (fun c=>?_) (fun c=>?_)
  ·refine⟨_,rfl,p,_,_,_,rfl,rfl,sqT (s2 _ _ hp),at3,_,rfl,pk,b.ks,wa,rfl,s2 _ _ ah,kl,fun H3 s3=>?_⟩
   refine⟨⟨_,rfl⟩,s2.trans s3,?_⟩
   rw[ek,if_pos c,List.map_append,zdj]
   rfl
  ·refine⟨⟨_,rfl⟩,s2,?_⟩
   rw[ek,if_neg c,List.append_nil]
 obtain⟨_,s2,rfl⟩:=pv
 have am:(zaj sold).length=sold.length:=List.length_map _
 rw[am,List.take_length]
 have aj:=zai aq (.lst (zaj ((sold.filter fun w=>w.testBit b.u).map (cnt b.ks))))
 have s3:=s2.trans aj
 have g3:L2.upd H2 lc (.lst (zaj ((sold.filter fun w=>w.testBit b.u).map (cnt b.ks)))) lc=some (.lst (zaj ((sold.filter fun w=>w.testBit b.u).map (cnt b.ks)))):=zaf
 generalize L2.upd H2 lc (.lst (zaj ((sold.filter fun w=>w.testBit b.u).map (cnt b.ks))))=H3 at s3 g3 aj ⊢
 have ai:=s3 _ _ hp
 have cm:∀M:Int,M∈((sold.filter fun w=>w.testBit b.u).map (cnt b.ks)).map (fun k:Nat=>(k:Int))↔∃w∈sold,w.testBit b.u=true∧M=(cnt b.ks w:Int):=fun M=>by
  rw[List.map_map,List.mem_map]
  constructor
  ·rintro⟨w,hw,e⟩
   obtain⟨h1,h2⟩:=List.mem_filter.mp hw
   exact⟨w,h1,h2,e.symm⟩
  ·rintro⟨w,h1,h2,e⟩
   exact⟨w,List.mem_filter.mpr ⟨h1,h2⟩,e.symm⟩
 have pos:0<(((sold.filter fun w=>w.testBit b.u).map (cnt b.ks)).map (fun k:Nat=>(k:Int))).length:=by
  rw[List.length_map,List.length_map]
  exact List.length_pos_of_mem (List.mem_filter.mpr ⟨ar,ap⟩)
 have sq:SqL K H3 lc ((((sold.filter fun w=>w.testBit b.u).map (cnt b.ks)).map (fun k:Nat=>(k:Int))).map V.int):=SqL.of (by rw[zss];exact g3)
 refine⟨_,rfl,p,_,_,_,rfl,rfl,sqT ai,at0,_,rfl,lc,_,rfl,sq,pos,fun lo av al=>?_⟩
 refine⟨_,rfl,lc,_,rfl,sq,pos,fun hi au ao=>?_⟩
 refine⟨_,rfl,p,_,_,_,rfl,rfl,sqT ai,at3,small (by show 4≤1000;decide),fun tn aw=>?_⟩
 have s4:=zai aw (.tup [.int (b.u:Int),.int lo,.int hi,.ref pk])
 refine q ⟨b.u,lo,hi,b.ks⟩ _ _ (s3.trans s4) ⟨rfl,rfl,(cm lo).mp av,fun w hw hb=>al _ ((cm _).mpr ⟨w,hw,hb,rfl⟩),(cm hi).mp au,fun w hw hb=>ao _ ((cm _).mpr ⟨w,hw,hb,rfl⟩)⟩ ?_
 exact⟨tn,_,rfl,zaf,_,_,rfl,rfl,_,_,rfl,rfl,_,_,rfl,rfl,_,_,rfl,⟨pk,_,rfl,s4 _ _ (s3 _ _ ah),zfn _⟩,rfl⟩
theorem zml(T:Txt K mg a d):FnOk P w K mg base CX0 3 a.f_first_with d.f_first_with ["sold", "bough", "count"] zqa:=by
 have ae:=zcq (P:=P) (w:=w) (base:=base) T
 have ad:=zdu (P:=P) (w:=w) (base:=base) T
 refine T.K_first_with.ok zme (fun vs H Q E h=>?_) (fun cdv A outer s H vs Q E hr h=>?_)
 ·obtain⟨ls,v,b,sold,c,w0,rfl,_⟩:=h
  rfl
 obtain⟨ls,v,b,sold,c,w0,rfl,hd,kl,af,sl,hf,q⟩:=h
 obtain⟨p,pk,rfl,hp,ak⟩:=zcu hd
 refine⟨_,(zah (zak (zal (ixL (K:=K)) (zdc (N':=["ware", "count", "bough"]) (n:=1) (kp:=[2,1]) rfl (piL (K:=K) (pv 0)) rfl rfl rfl (fun _ _ _ _ _=>(zaw (i:=0) (of_decide_eq_true rfl) rfl (Or.inl rfl))) (fun _ _ _ _ _=>(zb2 (PW.pt (zja (zbx (zac ae hr.lv rfl T.K_has (zaa (pv 0) (zaa (zal (ixT (K:=K)) (pv 2) zad (fun _ _=>rfl)) zab)))) (zhi (zam zbh (zac ad hr.lv rfl T.K_count_in (zaa (zal (ixT (K:=K)) (pv 2) zad (fun _ _=>rfl)) (zaa (pv 0) zab))) (pv 1) (zao _))))))) (fun _ _ _ _ _=>(pv 0))) zad (fun _ _=>rfl)))),?_⟩
 refine⟨_,rfl,ls,rfl,⟨_,SqL.of af⟩,?_⟩
 refine zcw (K:=K) (a:=ls) (xs:=zaj sold) (fun i ys σ H2=>(∃v,σ=[v,some (.int c),some (.ref p)])∧Same H H2∧ys=zaj ((sold.take i).filter fun w=>w.testBit b.u&&decide ((cnt b.ks w:Int)=c))) ⟨⟨none,rfl⟩,Same.refl _,rfl⟩ (fun i ys σ H2 hi pv=>?_) (fun i ys σ H2 hi pv=>?_) (fun i x ys σ H2 hx pv=>?_) (fun ys σ H2 pv lc aj=>?_)
 ·obtain⟨_,_,rfl⟩:=pv
  rw[List.length_map]
  refine small (Nat.le_trans (List.length_filter_le _ _) ?_)
  rw[List.length_take]
  omega
 ·exact SqL.of (pv.2.1 _ _ af)
 ·obtain⟨⟨v,rfl⟩,s2,rfl⟩:=pv
  rw[List.getElem?_map] at hx
  obtain⟨wa,ai,rfl⟩:=Option.map_eq_some_iff.mp hx
  have ek:∀z,(wa.testBit b.u&&decide ((cnt b.ks wa:Int)=c))=z→(sold.take (i+1)).filter (fun w=>w.testBit b.u&&decide ((cnt b.ks w:Int)=c))=(sold.take i).filter (fun w=>w.testBit b.u&&decide ((cnt b.ks w:Int)=c))++(if z=true then [wa] else []):=fun z hz=>by
   rw[List.take_add_one,ai,Option.toList_some,List.filter_append]
   congr 1
   cases z
   ·rw[List.filter_cons_of_neg (by rw[hz];exact Bool.false_ne_true)];rfl
   ·rw[List.filter_cons_of_pos (by exact hz)];rfl
  refine⟨_,rfl,_,rfl,p,_,_,_,rfl,rfl,sqT (s2 _ _ hp),at0,_,_,rfl,_,rfl,?_⟩
  rw[za4]
  refine zbv (fun c1=>?_) (fun c1=>?_)
  ·refine⟨_,rfl,p,_,_,_,rfl,rfl,sqT (s2 _ _ hp),at3,_,rfl,pk,b.ks,wa,rfl,s2 _ _ ak,kl,fun H3 s3=>?_⟩
   refine⟨_,rfl,rfl,_,rfl,?_⟩
   by_cases c2:(cnt b.ks wa:Int)=c
   ·refine zdl (by rw[c2]) ?_
    refine⟨_,rfl,⟨_,rfl⟩,s2.trans s3,?_⟩
    rw[ek true (by rw[c1,decide_eq_true c2];rfl),if_pos rfl,zdj]
    rfl
   ·refine zbm (fun z=>c2 (by injection z)) ?_
    refine⟨⟨_,rfl⟩,s2.trans s3,?_⟩
    rw[ek false (by rw[decide_eq_false c2,Bool.and_false]),if_neg Bool.false_ne_true,List.append_nil]
  ·refine zga ?_
   refine⟨⟨_,rfl⟩,s2,?_⟩
   rw[ek false (by rw[Bool.eq_false_iff.mpr c1,Bool.false_and]),if_neg Bool.false_ne_true,List.append_nil]
 obtain⟨_,s2,rfl⟩:=pv
 have al:(zaj sold).length=sold.length:=List.length_map _
 rw[al,List.take_length]
 have h0:(sold.filter fun w=>w.testBit b.u&&decide ((cnt b.ks w:Int)=c))[0]?=some w0:=by
  rw[←List.head?_eq_getElem?,List.head?_filter]
  exact hf
 have ah:=zai aj (.lst (zaj (sold.filter fun w=>w.testBit b.u&&decide ((cnt b.ks w:Int)=c))))
 have g3:L2.upd H2 lc (.lst (zaj (sold.filter fun w=>w.testBit b.u&&decide ((cnt b.ks w:Int)=c)))) lc=some (.lst (zaj (sold.filter fun w=>w.testBit b.u&&decide ((cnt b.ks w:Int)=c)))):=zaf
 generalize L2.upd H2 lc (.lst (zaj (sold.filter fun w=>w.testBit b.u&&decide ((cnt b.ks w:Int)=c))))=H3 at ah g3 ⊢
 refine⟨lc,_,_,.int (w0:Int),rfl,rfl,SqL.of g3,zcx (by rw[List.getElem?_map,h0];rfl),?_⟩
 exact q H3 (s2.trans ah)
theorem zms(T:Txt K mg a d)(LB:zdm mg base a.c_cases_of a.t_cases_of):FnOk P w K mg base CX0 25 a.f_folded d.f_folded ["wood"] (spT a.t_cases_of zvv):=by
 have al:=zg3 (P:=P) (w:=w) (base:=base) T LB
 have aE:=zcq (P:=P) (w:=w) (base:=base) T
 have ah:=zls (P:=P) (w:=w) (base:=base) T
 have ai:=zl7 (P:=P) (w:=w) (base:=base) T
 have aj:=zn7 (P:=P) (w:=w) (base:=base) T
 have ae:=zml (P:=P) (w:=w) (base:=base) T
 have af:=ze3 (P:=P) (w:=w) (base:=base) T LB
 have ad:=zhr (P:=P) (w:=w) (base:=base) T LB
 refine T.K_folded.ok sc_folded (fun vs H Q E h=>?_) (fun cdv A outer s H vs Q E hr h=>?_)
 ·obtain⟨_,wd,tb,tc,m,L,C,rfl,_⟩:=h
  rfl
 obtain⟨ta,wd,tb,tc,m,L,C,rfl,W,aB,q⟩:=h
 have aM:(2:Int)^62=4611686018427387904:=by decide
 have m1:=W.m1
 have m9:=W.m9
 have kpos:=zpj aB
 have bU:=zi7 m (zan L C)
 have few:=zfk (m:=m) (ts:=zan L C) m9
 obtain⟨cI,bW,bV⟩:=zxm (X:=(zci CX0 P w K mg base ["wood", "sold", "kept", "boughs", "cross", "tight", "needed"] "folded" (zag zb6) a.f_folded cdv A outer s H E).nox) (st:=(za8 zb6).drop 3) (zae (zar (i:=3) sc_folded.nd rfl (Or.inr rfl) (zac ah hr.lv rfl T.K_boughs_left (zaa (zal (ixT (K:=K)) (pv 0) zad (fun _ _=>rfl)) (zaa (pv 2) zab))))
   (zae (zar (i:=4) sc_folded.nd rfl (Or.inr rfl) (zac ai hr.lv rfl T.K_cross_left (zaa (zal (ixT (K:=K)) (pv 0) zad (fun _ _=>rfl)) (zaa (pv 2) zab))))
   (zae (zar (i:=1) sc_folded.nd rfl (Or.inr rfl) (zac al hr.lv rfl T.K_wares (zaa (za6 (zaa (zav (zcs (K:=K)) rfl T.m_len PySem.boot_len (zaa (pv 2) zab)) (zaa (pv 3) (zaa (pv 4) zab)))) zab)))
   (zae (zar (i:=3) sc_folded.nd rfl (Or.inr rfl) (zbn zbr rfl T.m_tuple PyProof.Rows.boot_tuple (zaa (zdc (N':=["bough", "sold"]) (n:=1) (kp:=[1]) rfl (piT (K:=K) (pv 3)) rfl rfl rfl (fun _ _ _ _ _=>(zaw (i:=0) (of_decide_eq_true rfl) rfl (Or.inl rfl))) (fun _ _ _ _ _=>zd9) (fun _ _ _ _ _=>(zac aj hr.lv rfl T.K_tightened (zaa (pv 0) (zaa (pv 1) zab))))) zab)))
   (zae (zar (i:=4) sc_folded.nd rfl (Or.inr rfl) (zac ad hr.lv rfl T.K_without_needless (zaa (zav (zcs (K:=K)) rfl T.m_len PySem.boot_len (zaa (pv 2) zab)) (zaa (pv 3) (zaa (pv 4) zab)))))
   (zae (zg2 (i:=5) sc_folded.nd rfl rfl rfl (N':=["bough", "sold"]) (n:=1) (kp:=[1]) rfl (piT (K:=K) (pv 3)) rfl rfl rfl (fun _ _ _ _ _=>(zaw (i:=0) (of_decide_eq_true rfl) rfl (Or.inl rfl))) (fun _ _ _ _ _=>zd9) (fun _ _ _ _ _=>(za6 (zaa (zac ae hr.lv rfl T.K_first_with (zaa (pv 1) (zaa (pv 0) (zaa (zal (ixT (K:=K)) (pv 0) zad (fun _ _=>rfl)) zab)))) (zaa (zac ae hr.lv rfl T.K_first_with (zaa (pv 1) (zaa (pv 0) (zaa (zal (ixT (K:=K)) (pv 0) zad (fun _ _=>rfl)) zab)))) zab)))))
   (zae (zg2 (i:=6) sc_folded.nd rfl rfl rfl (N':=["place", "boughs", "cross", "kept"]) (n:=1) (kp:=[3,4,2]) rfl (zco rfl T.m_range (zaa (zav (zcs (K:=K)) rfl T.m_len PySem.boot_len (zaa (pv 4) zab)) zab)) rfl rfl rfl (fun _ _ _ _ _=>(zaw (i:=0) (of_decide_eq_true rfl) rfl (Or.inl rfl))) (fun _ _ _ _ _=>zd9) (fun _ _ _ _ _=>(zac af hr.lv rfl T.K_first_breaking (zaa (zav (zcs (K:=K)) rfl T.m_len PySem.boot_len (zaa (pv 3) zab)) (zaa (pv 1) (zaa (pv 2) (zaa (pv 0) zab)))))))
   (zah (zak (za6 (zaa (za6 (zaa (zav (zcs (K:=K)) rfl T.m_len PySem.boot_len (zaa (pv 2) zab)) (zaa (pv 3) (zaa (pv 4) zab)))) (zaa (pv 2) (zaa (pv 5) (zaa (pv 6) zab))))))))))))))
 refine⟨_,(zae (zar (i:=1) sc_folded.nd rfl (Or.inr rfl) (zac al hr.lv rfl T.K_wares (zaa (pv 0) zab)))
   (zae (za2 (zam zbh (zav (zcs (K:=K)) rfl T.m_len PySem.boot_len (zaa (pv 1) zab)) zad (zao _)) (zah zo9) zat)
   (zae (zar (i:=2) sc_folded.nd rfl (Or.inr rfl) (zzr (N':=["k", "sold"]) (n:=1) (kp:=[1]) rfl (zco rfl T.m_range (zaa (zal (ixT (K:=K)) (pv 0) zad (fun _ _=>rfl)) zab)) rfl rfl rfl (fun _ _ _ _ _=>(zaw (i:=0) (of_decide_eq_true rfl) rfl (Or.inr rfl))) (fun _ _ _ _ _=>(zb2 (zbx (zav (zpn (K:=K) rfl) rfl T.m_any PyProof.Rows.boot_any (zaa (zdc (sc0:=(zh6 (lcS (zBk (za8 zb6)[2]?)) (zag zb6))) (N':=["ware", "k"]) (n:=1) (kp:=[0]) rfl (piL (K:=K) (pv 1)) rfl rfl rfl (fun _ _ _ _ _=>(zaw (i:=0) (of_decide_eq_true rfl) rfl (Or.inl rfl))) (fun _ _ _ _ _=>zd9) (fun _ _ _ _ _=>(zac aE hr.lv rfl T.K_has (zaa (pv 0) (zaa (pv 1) zab))))) zab))))) (fun _ _ _ _ _=>(pv 0))))
   bW))),?_⟩
 refine⟨_,rfl,ta,wd,m,zan L C,rfl,W.woodT,m1,m9,fun ls H1 s1 cH bu=>?_⟩
 have cr:zaz m (zan L C)≠[]:=fun z=>by
  obtain⟨w0,h1,h2⟩:=aB
  have:=mem_wareL.mpr ⟨h1,h2⟩
  rw[z] at this
  cases this
 have lw:(zaj (zaz m (zan L C))).length=(zaz m (zan L C)).length:=List.length_map _
 have cp:=List.length_pos_iff.mpr cr
 refine⟨_,rfl,ls,_,rfl,.inl (SqL.of bu),rfl,_,rfl,?_⟩
 refine zbm (fun z=>?_) ?_
 ·injection z with z
  omega
 have W1:=W.same s1
 refine⟨_,rfl,wd,_,_,_,rfl,rfl,sqT W1.at_,at0,_,rfl,by rw[aM];omega,by rw[aM];omega,?_⟩
 rw[Int.toNat_natCast]
 refine zed (k:=m) (fun i zs σ H2=>(∃v,σ=[v,some (.ref ls)])∧Same H1 H2∧zs=zaj ((List.range i).filter fun k=>(zaz m (zan L C)).any fun w=>w.testBit k)) ⟨⟨none,rfl⟩,Same.refl _,rfl⟩ (fun i zs σ H2 hi pv=>?_) (fun i zs σ H2 hi pv=>?_) (fun zs σ H2 pv lk bJ=>?_)
 ·obtain⟨_,_,rfl⟩:=pv
  rw[List.length_map]
  refine small (Nat.le_trans (List.length_filter_le _ _) ?_)
  rw[List.length_range]
  omega
 ·obtain⟨⟨v,rfl⟩,s2,rfl⟩:=pv
  have ao:H2 ls=some (.lst (zaj (zaz m (zan L C)))):=s2 _ _ bu
  refine⟨_,rfl,ls,rfl,⟨_,SqL.of ao⟩,?_⟩
  refine zcw (K:=K) (a:=ls) (xs:=zaj (zaz m (zan L C))) (fun j ys σ H3=>(∃v,σ=[v,some (.int (i:Int))])∧H3=H2∧ys=(((zaz m (zan L C)).take j).map fun w=>w.testBit i).map V.bl) ⟨⟨none,rfl⟩,rfl,rfl⟩ (fun j ys σ H3 hj pv=>?_) (fun j ys σ H3 hj pv=>?_) (fun j x ys σ H3 hx pv=>?_) (fun ys σ H3 pv la cx=>?_)
  ·obtain⟨_,_,rfl⟩:=pv
   rw[List.length_map,List.length_map,List.length_take]
   exact small (by omega)
  ·rw[pv.2.1]
   exact SqL.of ao
  ·obtain⟨⟨v,rfl⟩,rfl,rfl⟩:=pv
   rw[List.getElem?_map] at hx
   obtain⟨wa,bY,rfl⟩:=Option.map_eq_some_iff.mp hx
   refine⟨_,rfl,_,rfl,_,_,rfl,⟨_,rfl⟩,rfl,?_⟩
   rw[za4,ze8 bY,List.map_append]
   rfl
  obtain⟨_,rfl,rfl⟩:=pv
  rw[lw,List.take_length]
  have s3:=zai cx (.lst (((zaz m (zan L C)).map fun w=>w.testBit i).map V.bl))
  have g3:L2.upd H3 la (.lst (((zaz m (zan L C)).map fun w=>w.testBit i).map V.bl)) la=some (.lst (((zaz m (zan L C)).map fun w=>w.testBit i).map V.bl)):=zaf
  generalize L2.upd H3 la (.lst (((zaz m (zan L C)).map fun w=>w.testBit i).map V.bl))=H4 at s3 g3 ⊢
  refine⟨la,_,rfl,SqL.of g3,_,rfl,?_⟩
  have ea:((zaz m (zan L C)).map fun w=>w.testBit i).any id=(zaz m (zan L C)).any fun w=>w.testBit i:=by
   rw[List.any_map]
   rfl
  rw[ea]
  have er:∀z,((zaz m (zan L C)).any fun w=>w.testBit i)=z→(List.range (i+1)).filter (fun k=>(zaz m (zan L C)).any fun w=>w.testBit k)=(List.range i).filter (fun k=>(zaz m (zan L C)).any fun w=>w.testBit k)++(if z=true then [i] else []):=fun z hz=>by
   rw[List.range_succ,List.filter_append]
   congr 1
   cases z
   ·rw[List.filter_cons_of_neg (by rw[hz];exact Bool.false_ne_true)];rfl
   ·rw[List.filter_cons_of_pos (by exact hz)];rfl
  refine zbv (fun c=>?_) (fun c=>?_)
  ·refine⟨_,rfl,⟨_,rfl⟩,s2.trans s3,?_⟩
   rw[er true c,if_pos rfl,zdj]
   rfl
  ·refine⟨⟨_,rfl⟩,s2.trans s3,?_⟩
   rw[er false (Bool.eq_false_iff.mpr c),if_neg Bool.false_ne_true,List.append_nil]
 obtain⟨_,s2,rfl⟩:=pv
 have hk:(List.range m).filter (fun k=>(zaz m (zan L C)).any fun w=>w.testBit k)=zas m (zan L C):=rfl
 rw[hk]
 have cE:H lk=none:=(s1.trans s2).free bJ
 have bt:=zai bJ (.lst (zaj (zas m (zan L C))))
 have s3:=(s1.trans s2).trans bt
 have g3:L2.upd H2 lk (.lst (zaj (zas m (zan L C)))) lk=some (.lst (zaj (zas m (zan L C)))):=zaf
 generalize L2.upd H2 lk (.lst (zaj (zas m (zan L C))))=H3 at bt s3 g3 ⊢
 refine bV _ _ _ ?_
 have W3:=W.same s3
 have pw:=zek m (zan L C)
 refine⟨_,rfl,wd,_,_,_,rfl,rfl,sqT W3.at_,at1,_,rfl,tb,lk,L,zas m (zan L C),m,rfl,W3.bs,g3,pw,by omega,W.fewb,m9,W.okb,fun b hb=>zhe (List.mem_append.mpr (.inl (List.mem_map.mpr ⟨b,hb,rfl⟩))),fun aw H4 s4 bR=>?_⟩
 have W4:=W3.same s4
 have g4:H4 lk=some (.lst (zaj (zas m (zan L C)))):=s4 _ _ g3
 refine⟨_,rfl,wd,_,_,_,rfl,rfl,sqT W4.at_,at2,_,rfl,tc,lk,C,zas m (zan L C),m,rfl,W4.cs,g4,pw,by omega,W.fewc,m9,W.okc,W.nb,fun aD H5 s5 cn=>?_⟩
 have bZ:=s4.trans s5
 have g5:H5 lk=some (.lst (zaj (zas m (zan L C)))):=s5 _ _ g4
 have aJ:(zaj (zas m (zan L C))).length=(zas m (zan L C)).length:=List.length_map _
 have aP:∀b∈fL1 m L C,Tie.BoughOkW (zas m (zan L C)).length b.u b.lo b.hi b.ks:=fun b' aX=>by
  obtain⟨b,hb,e⟩:=List.mem_filterMap.mp aX
  exact zn2 pw (W.okb b hb) (zhe (List.mem_append.mpr (.inl (List.mem_map.mpr ⟨b,hb,rfl⟩)))) e
 have ar:∀t∈fC1 m L C,t.Ok (zas m (zan L C)).length:=fun t ht=>by
  obtain⟨c,hc,e⟩:=List.mem_filterMap.mp ht
  exact zou pw (W.okc c hc) (W.nb c hc) e
 have cJ:True:=trivial
 have bX:(fL1 m L C).length≤20:=Nat.le_trans (List.length_filterMap_le _ _) W.fewb
 have bx:(fC1 m L C).length≤20:=Nat.le_trans (List.length_filterMap_le _ _) W.fewc
 have am:∀(M:List Bg),(∀b∈M,Tie.BoughOkW (zas m (zan L C)).length b.u b.lo b.hi b.ks)→∀t∈M.map Bg.tie,t.Ok (zas m (zan L C)).length:=fun M hM t ht=>by
  obtain⟨b,hb,rfl⟩:=List.mem_map.mp ht
  exact hM b hb
 refine⟨_,rfl,lk,_,rfl,.inl (SqL.of g5),?_⟩
 rw[aJ]
 refine⟨_,rfl,_,rfl,small (by show 3≤1000;decide),fun w1 cu=>?_⟩
 have aG:=zai cu (.tup [.int ((zas m (zan L C)).length:Int),.ref aw,.ref aD])
 have s6:=bZ.trans aG
 have gw:L2.upd H5 w1 (.tup [.int ((zas m (zan L C)).length:Int),.ref aw,.ref aD]) w1=some (.tup [.int ((zas m (zan L C)).length:Int),.ref aw,.ref aD]):=zaf
 generalize L2.upd H5 w1 (.tup [.int ((zas m (zan L C)).length:Int),.ref aw,.ref aD])=H6 at aG s6 gw ⊢
 have bz:=(bR.same s5).same aG
 have bF:=cn.same aG
 have Wf:WoodT H6 w1 (zas m (zan L C)).length (zan (fL1 m L C) (fC1 m L C)):=zf3 gw bz bF (fun t ht=>(List.mem_append.mp ht).elim (am _ aP t) (ar t)) (by rw[List.length_append,List.length_map];omega) (by omega)
 have bM:=s3.trans s6
 refine⟨bM.tab ta,w1,(zas m (zan L C)).length,zan (fL1 m L C) (fC1 m L C),rfl,Wf,kpos,by omega,fun av H7 s7 b7 ao=>?_⟩
 have aU:=zfk (m:=(zas m (zan L C)).length) (ts:=zan (fL1 m L C) (fC1 m L C)) (by omega)
 have bo:(zb7 m L C).length≤512:=aU
 have az:H7 av=some (.lst (zaj (zb7 m L C))):=ao
 obtain⟨xb,bw,bB⟩:=bz.same s7
 have bT:xb.length=(fL1 m L C).length:=by
  have:=bB.length
  rw[List.length_map,List.length_map] at this
  exact this.symm
 refine⟨_,rfl,aw,rfl,⟨_,sqT bw⟩,?_⟩
 refine zgt (K:=K) (a:=aw) (xs:=xb) (fun i ys σ H8=>(∃v,σ=[v,some (.ref av)])∧Same H7 H8∧∃M2:List Bg,TightL (zb7 m L C) ((fL1 m L C).take i) M2∧DnL H8 ((M2.map Bg.tie).map Tie.toD) ys) ⟨⟨none,rfl⟩,Same.refl _,[],rfl,rfl⟩ (fun i ys σ H8 hi pv=>?_) (fun i ys σ H8 hi pv=>?_) (fun i x ys σ H8 hx pv=>?_) (fun ys σ H8 pv aH aR=>?_)
 ·obtain⟨_,_,M2,tl,dl⟩:=pv
  have:=dl.length
  rw[List.length_map,List.length_map,tl.length,List.length_take] at this
  exact small (by omega)
 ·exact sqT (pv.2.1 _ _ bw)
 ·obtain⟨⟨v,rfl⟩,s8,M2,tl,dl⟩:=pv
  obtain⟨t0,aA,hd⟩:=zry (DnL.same s8 _ _ bB) hx
  rw[List.getElem?_map] at aA
  obtain⟨b,hb,rfl⟩:=Option.map_eq_some_iff.mp aA
  have bP:=List.mem_of_getElem? hb
  have bd:=aP b bP
  refine⟨_,rfl,_,rfl,x,av,b,zb7 m L C,rfl,hd,Nat.le_trans bd.few (by omega),s8 _ _ az,by omega,zxv (w0:=0) W.nb bP,fun b' v' H9 s9 tg dv=>?_⟩
  refine⟨⟨_,rfl⟩,s8.trans s9,M2++[b'],?_,?_⟩
  ·have aX:(fL1 m L C)[i]?=some b:=hb
   rw[List.take_add_one,aX,Option.toList_some]
   exact tl.snoc tg
  ·rw[List.map_append,List.map_append]
   exact(DnL.same s9 _ _ dl).append ⟨v',[],rfl,dv,rfl⟩
 obtain⟨_,s8,M2,tl,dl⟩:=pv
 rw[bT,List.take_length] at tl
 have aZ:=zai aR (.lst ys)
 have bK:L2.upd H8 aH (.lst ys) aH=some (.lst ys):=zaf
 have bj:=DnL.same aZ _ _ dl
 generalize L2.upd H8 aH (.lst ys)=H9 at aZ bK bj ⊢
 refine⟨aH,_,rfl,.inl ⟨SqL.of bK,fun ak aY=>?_⟩⟩
 have aT:=zai aY (.tup ys)
 have gA:L2.upd H9 ak (.tup ys) ak=some (.tup ys):=zaf
 have bO:=DnL.same aT _ _ bj
 generalize L2.upd H9 ak (.tup ys)=HA at aT gA bO ⊢
 have bh:=(s8.trans aZ).trans aT
 have aK:TiesAt HA ak (M2.map Bg.tie):=⟨ys,gA,bO⟩
 have aW:=tl.ok aP
 have bq:M2.length≤20:=by rw[tl.length];exact bX
 have aQ:=s7.trans bh
 have aI:=bM.trans aQ
 have ax:HA lk=some (.lst (zaj (zas m (zan L C)))):=(s6.trans aQ) _ _ g3
 refine⟨_,rfl,lk,_,rfl,.inl (SqL.of ax),?_⟩
 rw[aJ]
 refine⟨_,rfl,_,rfl,aI.tab ta,ak,aD,(zas m (zan L C)).length,M2.map Bg.tie,fC1 m L C,rfl,aK,bF.same aQ,kpos,by omega,am _ aW,ar,by rw[List.length_map];exact bq,bx,fun ap HB sB cy=>?_⟩
 have au:TiesAt HB ap (fC2 m L C M2):=cy
 have cz:=aK.same sB
 obtain⟨bL,aF,ay⟩:=cz
 have aN:bL.length=M2.length:=by
  have:=ay.length
  rw[List.length_map,List.length_map] at this
  exact this.symm
 have bS:=bh.trans sB
 have aC:HB av=some (.lst (zaj (zb7 m L C))):=bS _ _ az
 refine⟨_,rfl,ak,rfl,⟨_,sqT aF⟩,?_⟩
 refine zgt (K:=K) (a:=ak) (xs:=bL) (fun i ys σ H8=>(∃v,σ=[v,some (.ref av)])∧Same HB H8∧DnL H8 ((M2.take i).map (zoi (zb7 m L C))) ys) ⟨⟨none,rfl⟩,Same.refl _,rfl⟩ (fun i ys σ H8 hi pv=>?_) (fun i ys σ H8 hi pv=>?_) (fun i x ys σ H8 hx pv=>?_) (fun xt σ H8 pv lt ba=>?_)
 ·have:=pv.2.2.length
  rw[List.length_map,List.length_take] at this
  exact small (by omega)
 ·exact sqT (pv.2.1 _ _ aF)
 ·obtain⟨⟨v,rfl⟩,s8,dl⟩:=pv
  obtain⟨t0,aA,hd⟩:=zry (DnL.same s8 _ _ ay) hx
  rw[List.getElem?_map] at aA
  obtain⟨b,hb,rfl⟩:=Option.map_eq_some_iff.mp aA
  have bd:=aW b (List.mem_of_getElem? hb)
  have bI:b.ks.length≤1000:=Nat.le_trans bd.few (by omega)
  obtain⟨b0,cF,tg⟩:=tl.get hb
  obtain⟨wl,bp⟩:=tg.first_lo
  obtain⟨wh,bG⟩:=tg.first_hi
  obtain⟨p,pk,rfl,hp,cG⟩:=zcu hd
  refine⟨_,rfl,_,rfl,_,rfl,p,_,_,_,rfl,rfl,sqT hp,at1,av,.ref p,b,zb7 m L C,b.lo,wl,rfl,hd,bI,s8 _ _ aC,by omega,bp,fun H9 s9=>?_⟩
  refine⟨_,rfl,_,rfl,_,rfl,p,_,_,_,rfl,rfl,sqT (s9 _ _ hp),at2,av,.ref p,b,zb7 m L C,b.hi,wh,rfl,Dn.same s9 _ _ hd,bI,(s8.trans s9) _ _ aC,by omega,bG,fun HC sC=>?_⟩
  refine⟨small (by show 2≤1000;decide),fun tn cD=>?_⟩
  have sD:=zai cD (.tup [.int (wl:Int),.int (wh:Int)])
  refine⟨⟨_,rfl⟩,s8.trans ((s9.trans sC).trans sD),?_⟩
  rw[ze8 hb]
  refine(DnL.same ((s9.trans sC).trans sD) _ _ dl).append ⟨_,[],rfl,?_,rfl⟩
  unfold zoi
  rw[bp,bG]
  exact⟨tn,_,rfl,zaf,_,_,rfl,rfl,_,_,rfl,rfl,rfl⟩
 obtain⟨_,s8,dt⟩:=pv
 rw[aN,List.take_length] at dt
 have ce:H8 lt=none:=ba
 have aO:=zai ba (.lst xt)
 have gD:L2.upd H8 lt (.lst xt) lt=some (.lst xt):=zaf
 have bi:=DnL.same aO _ _ dt
 generalize L2.upd H8 lt (.lst xt)=HD at aO gD bi ⊢
 have aq:=s8.trans aO
 have bf:=au.same aq
 obtain⟨xc,cj,cB⟩:=bf
 have cA:xc.length=(fC2 m L C M2).length:=by
  have:=cB.length
  rw[List.length_map] at this
  exact this.symm
 have bQ:(fC2 m L C M2).length≤20:=Nat.le_trans (needless_sub.length_le) bx
 have aS:∀t∈fC2 m L C M2,t.Ok (zas m (zan L C)).length:=fun t ht=>ar t (needless_sub.mem ht)
 have bE:=(aI.trans sB).trans aq
 refine⟨_,rfl,ap,_,rfl,.inr (sqT cj),_,rfl,by rw[aM];omega,by rw[aM];omega,?_⟩
 rw[Int.toNat_natCast,cA]
 refine zed (k:=(fC2 m L C M2).length) (fun i ys σ HE=>(∃v,σ=[v,some (.ref ak),some (.ref ap),some (.ref lk)])∧Same HD HE∧ys=(List.range i).map fun p=>zge (zcd (zas m (zan L C)).length (M2.map Bg.tie) (fC2 m L C M2) p)) ⟨⟨none,rfl⟩,Same.refl _,rfl⟩ (fun i ys σ HE hi pv=>?_) (fun i ys σ HE hi pv=>?_) (fun ys σ HE pv ln aL=>?_)
 ·obtain⟨_,_,rfl⟩:=pv
  rw[List.length_map,List.length_range]
  exact small (by omega)
 ·obtain⟨⟨v,rfl⟩,sE,rfl⟩:=pv
  have cq:HE lk=some (.lst (zaj (zas m (zan L C)))):=(((sB.trans aq).trans sE) _ _ ax)
  refine⟨_,rfl,lk,_,rfl,.inl (SqL.of cq),?_⟩
  rw[aJ]
  refine⟨_,rfl,_,rfl,_,rfl,(bE.trans sE).tab ta,ak,ap,(zas m (zan L C)).length,i,M2.map Bg.tie,fC2 m L C M2,rfl,aK.same ((sB.trans aq).trans sE),au.same (aq.trans sE),hi,kpos,by omega,am _ aW,aS,by rw[List.length_map];exact bq,bQ,fun HF sF=>?_⟩
  refine⟨⟨_,rfl⟩,sE.trans sF,?_⟩
  rw[List.range_succ,List.map_append]
  rfl
 obtain⟨_,sE,rfl⟩:=pv
 have bv:=zai aL (.lst ((List.range (fC2 m L C M2).length).map fun p=>zge (zcd (zas m (zan L C)).length (M2.map Bg.tie) (fC2 m L C M2) p)))
 have gF:L2.upd HE ln (.lst ((List.range (fC2 m L C M2).length).map fun p=>zge (zcd (zas m (zan L C)).length (M2.map Bg.tie) (fC2 m L C M2) p))) ln=some (.lst ((List.range (fC2 m L C M2).length).map fun p=>zge (zcd (zas m (zan L C)).length (M2.map Bg.tie) (fC2 m L C M2) p))):=zaf
 generalize L2.upd HE ln (.lst ((List.range (fC2 m L C M2).length).map fun p=>zge (zcd (zas m (zan L C)).length (M2.map Bg.tie) (fC2 m L C M2) p)))=HF at bv gF ⊢
 have bA:=sE.trans bv
 have bN:=(sB.trans aq).trans bA
 have cC:HF lk=some (.lst (zaj (zas m (zan L C)))):=bN _ _ ax
 refine⟨_,rfl,lk,_,rfl,.inl (SqL.of cC),?_⟩
 rw[aJ]
 refine⟨_,rfl,_,rfl,small (by show 3≤1000;decide),fun w2 cg=>?_⟩
 have bH:=zai cg (.tup [.int ((zas m (zan L C)).length:Int),.ref ak,.ref ap])
 have gG:L2.upd HF w2 (.tup [.int ((zas m (zan L C)).length:Int),.ref ak,.ref ap]) w2=some (.tup [.int ((zas m (zan L C)).length:Int),.ref ak,.ref ap]):=zaf
 generalize L2.upd HF w2 (.tup [.int ((zas m (zan L C)).length:Int),.ref ak,.ref ap])=HG at bH gG ⊢
 refine⟨_,rfl,_,rfl,_,rfl,small (by show 4≤1000;decide),fun f hf=>?_⟩
 have br:=zai hf (.tup [.ref w2,.ref lk,.ref lt,.ref ln])
 have be:=bH.trans br
 have bg:=bA.trans be
 have aV:=aq.trans bg
 refine q f M2 _ ((aI.trans sB).trans aV) ⟨tl,w2,lk,lt,ln,ak,ap,xt,zaf,br _ _ gG,aK.same (sB.trans aV),au.same aV,(bN.trans be) _ _ ax,bg _ _ gD,DnL.same bg _ _ bi,be _ _ gF,cE,?_,?_,?_,?_,?_⟩
 ·exact((aI.trans sB).trans s8).free ba
 ·exact(bE.trans sE).free aL
 ·exact fun z=>by
   have:H8 lk=some (.lst (zaj (zas m (zan L C)))):=(sB.trans s8) _ _ ax
   rw[z,ce] at this
   cases this
 ·exact fun z=>by
   have:HE lk=some (.lst (zaj (zas m (zan L C)))):=((sB.trans aq).trans sE) _ _ ax
   rw[z,aL] at this
   cases this
 ·exact fun z=>by
   have:HE lt=some (.lst xt):=sE _ _ gD
   rw[z,aL] at this
   cases this
theorem zrc(T:Txt K mg a d)(LB:zdm mg base a.c_cases_of a.t_cases_of):FnOk P w K mg base (CXR P w) 25 a.f_folded d.f_folded ["wood"] (spT a.t_cases_of (ztd a.x_NoWares)):=by
 have ad:=zg3 (P:=P) (w:=w) (base:=base) T LB
 refine T.K_folded.okR sc_folded (fun vs H Q E h=>?_) (fun cdv A outer s H vs Q E hr h=>?_)
 ·obtain⟨_,wd,tb,tc,m,L,C,rfl,_⟩:=h
  rfl
 obtain⟨ta,wd,tb,tc,m,L,C,rfl,W,ae,hE⟩:=h
 have rest:PSs (zci (CXR P w) P w K mg base ["wood", "sold", "kept", "boughs", "cross", "tight", "needed"] "folded" (zag zb6) a.f_folded cdv A outer s H E) ((za8 zb6).drop 2) (fun _ _ _=>False):=fun _ _ _ _ _ _ h=>h.elim
 refine⟨_,(zae (zar (i:=1) sc_folded.nd rfl (Or.inr rfl) (zac ad hr.lv rfl T.K_wares (zaa (pv 0) zab)))
   (zae (za2 (zam zbh (zav (zcs (K:=K)) rfl T.m_len PySem.boot_len (zaa (pv 1) zab)) zad (zao _)) (zah (zud rfl rfl T.g_NoWares T.x_NoWares.cl (zaa za3 zab) (fun _ _ _ _ _ _ _ I hx hW=>zw6 I hx hW))) zat)
   rest)),?_⟩
 refine⟨_,rfl,ta,wd,m,zan L C,rfl,W.woodT,W.m1,W.m9,fun ls H1 s1 ah af=>?_⟩
 have e:zaz m (zan L C)=[]:=by
  rw[List.eq_nil_iff_forall_not_mem]
  intro s hs
  obtain⟨h1,h2⟩:=mem_wareL.mp hs
  rw[ae s h1] at h2
  cases h2
 rw[e] at af
 refine⟨_,rfl,ls,_,rfl,.inl (SqL.of af),rfl,_,rfl,?_⟩
 refine zdl rfl ?_
 exact⟨by show 1≤1000;decide,hE _ s1⟩
theorem zqb(T:Txt K mg a d):FnOk P w K mg base CX0 3 a.f_unfolded d.f_unfolded ["kept", "some"] zrw:=by
 have ae:=zmj (P:=P) (w:=w) (base:=base) T
 have ad:=zbi (P:=P) (w:=w) (base:=base) T
 refine T.K_unfolded.ok sc_unfolded (fun vs H Q E h=>?_) (fun cdv A outer s H vs Q E hr h=>?_)
 ·obtain⟨lk,kept,n,rfl,_⟩:=h
  rfl
 obtain⟨lk,kept,n,rfl,ah,pw,k9,ai,hn,q⟩:=h
 have n9:n<512:=Nat.lt_of_lt_of_le hn (Nat.le_trans (Nat.pow_le_pow_right (by decide) k9) (by decide))
 refine⟨_,(zae (zar (i:=2) sc_unfolded.nd rfl (Or.inl rfl) zad)
   (zae (zes PassesOwn.never rfl (piL (K:=K) (zac ae hr.lv rfl T.K_options_of (zaa (pv 1) zab))) (zaw (i:=3) sc_unfolded.nd rfl (Or.inl rfl)) (zah (zar (i:=2) sc_unfolded.nd rfl (Or.inl rfl) (zac ad hr.lv rfl T.K_with_option (zaa (pv 2) (zaa (zal (ixL (K:=K)) (pv 0) (pv 3) (fun _ _=>rfl)) zab))))))
   (zah (zak (pv 2))))),?_⟩
 refine⟨_,rfl,n,rfl,n9,fun l H1 s1 nl hl=>?_⟩
 refine⟨l,rfl,⟨_,SqL.of hl⟩,?_⟩
 refine zg0 (K:=K) (a:=l) (xs:=zaj (znd n)) (fun i σ H2=>∃(v3:Option V)(wh:Nat),σ=[some (.ref lk),some (.int (n:Int)),some (.int (wh:Int)),v3]∧H2=H1∧∀k,wh.testBit k=decide (∃j∈(znd n).take i,kept[j]?=some k)) ⟨none,0,rfl,rfl,fun k=>by rw[Nat.zero_testBit,decide_eq_false (fun z=>by obtain⟨j,hj,_⟩:=z;cases hj)]⟩ (fun i σ H2 _ z=>by obtain⟨_,_,_,rfl,_⟩:=z;exact SqL.of hl) ?_ ?_
 ·rintro i x σ H2 hx ⟨v3,wh,rfl,rfl,af⟩
  rw[List.getElem?_map] at hx
  obtain⟨j,hj,rfl⟩:=Option.map_eq_some_iff.mp hx
  have jb:=mem_bitsL.mp (List.mem_of_getElem? hj)
  have jl:j<kept.length:=by
   rcases Nat.lt_or_ge j kept.length with z|z
   ·exact z
   ·have p:2^kept.length≤2^j:=Nat.pow_le_pow_right (by decide) z
    rw[Nat.testBit_lt_two_pow (by omega)] at jb
    cases jb
  have kj:kept[j]?=some kept[j]:=List.getElem?_eq_getElem jl
  refine⟨_,rfl,_,rfl,_,rfl,lk,_,_,.int (kept[j]:Int),rfl,rfl,SqL.of (s1 _ _ ah),zcx (by rw[List.getElem?_map,kj];rfl),wh,kept[j],rfl,by have:=ai _ (List.getElem_mem jl);omega,?_⟩
  refine⟨_,wh|||2^kept[j],rfl,rfl,fun k=>?_⟩
  rw[Nat.testBit_or,af k,Nat.testBit_two_pow,Bool.eq_iff_iff,Bool.or_eq_true,decide_eq_true_iff,decide_eq_true_iff,decide_eq_true_iff]
  rw[List.take_add_one,hj,Option.toList_some]
  constructor
  ·rintro(⟨j',h1,h2⟩|e)
   ·exact⟨j',List.mem_append.mpr (.inl h1),h2⟩
   ·exact⟨j,List.mem_append.mpr (.inr (List.mem_singleton.mpr rfl)),by rw[kj,e]⟩
  ·rintro⟨j',h1,h2⟩
   rcases List.mem_append.mp h1 with z|z
   ·exact .inl ⟨j',z,h2⟩
   ·rw[List.mem_singleton.mp z,kj] at h2
    injection h2 with h2
    exact .inr h2
 ·rintro σ H2 ⟨v3,wh,rfl,rfl,af⟩
  rw[List.length_map,List.take_length] at af
  have e:=zzo pw hn af
  rw[e]
  exact⟨_,rfl,q H2 s1⟩
theorem zgu(T:Txt K mg a d):FnOk P w K mg base CX0 1 a.f_check_alike d.f_check_alike ["one", "other"] zuu:=by
 refine T.K_check_alike.ok zko (fun vs H Q E h=>?_) (fun cdv A outer s H vs Q E hr h=>?_)
 ·obtain⟨w1,w2,m,t1,t2,rfl,_⟩:=h
  rfl
 obtain⟨w1,w2,m,t1,t2,rfl,W1,W2,q⟩:=h
 obtain⟨xs,ys,⟨tb,tc,hw,hb,hc⟩,_⟩:=W1.ex
 obtain⟨af,ak,⟨ae,ai,ad,ah,aj⟩,_⟩:=W2.ex
 refine⟨_,(zah (za2 (zam zmq (zal (ixT (K:=K)) (pv 0) zad (fun _ _=>rfl)) (zal (ixT (K:=K)) (pv 1) zad (fun _ _=>rfl)) (zao _)) (zah zo9) zat)),?_⟩
 refine⟨_,rfl,w1,_,_,_,rfl,rfl,sqT hw,at0,_,rfl,w2,_,_,_,rfl,rfl,sqT ad,at0,rfl,_,rfl,?_⟩
 refine zlp rfl ?_
 exact q
theorem zon(T:Txt K mg a d):FnOk P w K mg base CX0 6 a.f_kept_leaf d.f_kept_leaf ["other", "yes", "no"] zxw:=by
 have ad:=zfd (P:=P) (w:=w) (base:=base) T
 refine T.K_kept_leaf.ok zn6 (fun vs H Q E h=>?_) (fun cdv A outer s H vs Q E hr h=>?_)
 ·obtain⟨wd,m,ts,y,n,rfl,_⟩:=h
  rfl
 obtain⟨wd,m,ts,y,n,rfl,W,q⟩:=h
 refine⟨_,(zae (za2 (zbx (zac ad hr.lv rfl T.K_all_sure_kept (zaa (pv 0) (zaa (pv 1) (zaa (pv 2) zab))))) (zah (zak (za6 (zaa za3 zab)))) zat)
   (zah (zak zby))),?_⟩
 refine⟨_,rfl,_,rfl,_,rfl,wd,m,ts,y,n,rfl,W,fun H1 s1=>?_⟩
 refine⟨_,rfl,?_⟩
 refine zbv (fun c=>?_) (fun c=>?_)
 ·refine⟨small (by show 1≤1000;decide),fun tp ae=>?_⟩
  refine q _ _ (s1.trans (zai ae (.tup [.str ("kept" : Str)]))) ?_
  unfold zi0 zbu
  rw[if_pos c]
  exact⟨⟨tp,_,rfl,zaf,_,_,rfl,rfl,rfl⟩,tp,rfl⟩
 ·refine q _ _ s1 ?_
  unfold zi0 zbu
  rw[if_neg c]
theorem zt3(T:Txt K mg a d)(LBc:zdm mg base a.c_cases_of a.t_cases_of)(LB:zdm mg base a.c_within a.t_within):FnOk P w K mg base CX0 21 a.f_within d.f_within ["one", "other"] (spT a.t_cases_of (spT a.t_within zth)):=by
 have ae:=zgu (P:=P) (w:=w) (base:=base) T
 have am:=zg3 (P:=P) (w:=w) (base:=base) T LBc
 have ai:=zrd (P:=P) (w:=w) (base:=base) T
 have ad:=zbi (P:=P) (w:=w) (base:=base) T
 have af:=zb9 (P:=P) (w:=w) (base:=base) T
 refine T.K_within.okC sc_within (fun vs H Q E h=>?_) (fun cdv A outer s H vs Q E ax hr h=>?_)
 ·obtain⟨_,_,w1,w2,m,t1,t2,rfl,_⟩:=h
  rfl
 obtain⟨tb,aA,w1,w2,m,t1,t2,rfl,W1,W2,m1,m9,q⟩:=h
 have LC:((zci CX0 P w K mg base ["one", "other", "outside", "root"] "within" (zag zch) a.f_within cdv A outer s H E).nox).env.code=.ref a.c_within:=ax.symm.trans T.code_within
 have LF:∀y∈(zfc (zho (zAk (zub (za8 zch)[4]?)))).names,y.2=.free→∃c,((zci CX0 P w K mg base ["one", "other", "outside", "root"] "within" (zag zch) a.f_within cdv A outer s H E).nox).env.cells.lookup y.1=some c:=by
  intro y hy hz
  have e:y=(("other" : Str),NameKind.free):=by
   have h:=(by decide +kernel:∀y∈(zfc (zho (zAk (zub (za8 zch)[4]?)))).names,y.2=NameKind.free→y=(("other" : Str),NameKind.free))
   exact h y hy hz
  subst e
  exact⟨_,rfl⟩
 have last:∃t,PSs ((zci CX0 P w K mg base ["one", "other", "outside", "root"] "within" (zag zch) a.f_within cdv A outer s H E).nox) ((za8 zch).drop 4) t∧∀(v2:Option V)(H2:Hp),Same H H2→outside m t1 t2=[]→t { nx:=fun _ H'=>Q .non H',rt:=Q } [some (.ref w1),some (.ref w2),v2,some (.int 1)] H2:=by
  refine⟨_,(zah (zak (za6 (zaa za3 (zaa (zk1 (k:=17) hr.lv rfl T.K_told_tree.g T.K_told_tree.kp T.K_told_tree.B (fun _=>rfl) (zaa (pv 0) (zaa (zfz af hr.lv rfl T.K_every_tie.g T.K_every_tie.kp T.K_every_tie.B .nil zlx (zaa (pv 0) zab)) (zaa (pv 3) (zaa zad (zaa (zrp LC LB rfl LF) zab)))))) zab))))),?_⟩
  intro v2 H2 s2 ho
  refine⟨_,rfl,_,rfl,w1,m,t1,rfl,W1.same s2,fun tl H3 s3 aB aw=>?_⟩
  have av:=s2.trans s3
  refine⟨_,rfl,av.tab aA,fun p c' H4 np s4 hp hc aj ci _ _=>?_⟩
  obtain⟨cw,u,e1,r1,ic⟩:=ci 1 "other" (.ref w2) rfl rfl rfl
  have al:((zci CX0 P w K mg base ["one", "other", "outside", "root"] "within" (zag zch) a.f_within cdv A outer s H E).nox).env.cells=[(("other" : Str),cw)]:=by
   have z:cw=s.heap.objs.size+1:=(Option.some.inj (show some (s.heap.objs.size+1)=some cw from e1)).symm
   rw[z]
   rfl
  have ah:=zon (P:=P) (w:=w) (base:=aj) T
  have L:=zvg (P:=P) (w:=w) (K:=K) (mg:=mg) (base:=aj) (ps:=["yes", "no"]) (fr:=["other"]) (fv:=[.ref w2]) (k:=6) (leaf:=zbu t2) (fun H=>WoodT H w2 m t2) hp ⟨rfl,rfl,rfl,by decide +kernel,by decide +kernel,by decide +kernel,by decide +kernel⟩
   (fun x cc h=>by
    have h':=za9 LF h
    rw[al] at h'
    obtain⟨_,rfl⟩:=zb8 h'
    exact⟨_,ic⟩)
   (fun x y cc h1 h2=>by
    have au:=za9 LF h1
    have ar:=za9 LF h2
    rw[al] at au ar
    rw[(zb8 au).1,(zb8 ar).1])
   (fun y hy hz=>by
    obtain⟨c,hc⟩:=LF y hy hz
    exact⟨c,zdq LF (by rw[←hz];exact hy) hc⟩)
   (fun i x v h1 h2=>by
    cases i with
    |zero=>
     cases h1
     cases h2
     exact⟨cw,u,zdq LF (by decide +kernel) e1,r1,ic⟩
    |succ i=>cases h1)
   rfl (fun _ _ _=>rfl) rfl
   (fun q A outer s H y n Q hr W0 q'=>⟨_,zfz ah (hr.mono (by decide)) rfl T.K_kept_leaf.g T.K_kept_leaf.kp T.K_kept_leaf.B .nil zlx (zaa (pv 2) (zaa (pv 0) (zaa (pv 1) zab))),⟨_,rfl,_,rfl,_,rfl,w2,m,t2,y,n,rfl,W0,q'⟩⟩)
  have G:=zf2 (P:=P) (w:=w) (base:=aj) (m:=m) T L (.all fun us hl=>match us,hl with|[_,_],_=>rfl) znn (fun H H' s h=>⟨h.1.same s,s _ _ h.2.1,s _ _ h.2.2⟩) (fun H h=>h.2.1) 9
  have of:=zb4 m 1 0
  have ap:=av.trans s4
  refine⟨_,G,w1,t1,tl,zbk t1,1,0,rfl,W1.same ap,s4 _ _ aw,fun i hi=>List.mem_range.mp hi,by omega,⟨W2.same ap,hp,hc⟩,zpk W1.ok W2.ok ho m1,fun v H5 s5 dv=>?_⟩
  refine⟨small (by show 2≤1000;decide),fun tp aq=>?_⟩
  have s6:=zai aq (.tup [.str ("in" : Str),v])
  refine q _ _ ((ap.trans s5).trans s6) ?_
  unfold zio
  rw[ho]
  exact⟨tp,_,rfl,zaf,_,_,rfl,rfl,_,_,rfl,Dn.same s6 _ _ dv,rfl⟩
 obtain⟨t4,h4,r4⟩:=last
 refine⟨_,(zae (zea (zac ae hr.lv rfl T.K_check_alike (zaa (pv 0) (zaa (pv 1) zab))))
   (zae (zg2 (i:=2) sc_within.nd rfl rfl rfl (N':=["ware", "other"]) (n:=1) (kp:=[1]) rfl (piL (K:=K) (zac am hr.lv rfl T.K_wares (zaa (pv 0) zab))) rfl rfl rfl (fun _ _ _ _ _=>(zaw (i:=0) (of_decide_eq_true rfl) rfl (Or.inl rfl))) (fun _ _ _ _ _=>(zb2 (zfw (zbx (zac ai hr.lv rfl T.K_is_ware (zaa (pv 1) (zaa (pv 0) zab))))))) (fun _ _ _ _ _=>(pv 0)))
   (zae (za2 (zam zhu (zav (zcs (K:=K)) rfl T.m_len PySem.boot_len (zaa (pv 2) zab)) zad (zao _)) (zah (zak (za6 (zaa za3 (zaa (zal (ixL (K:=K)) (pv 2) zad (fun _ _=>rfl)) zab))))) zat)
   (zae (zar (i:=3) sc_within.nd rfl (Or.inl rfl) (zac ad hr.lv rfl T.K_with_option (zaa zad (zaa zad zab))))
   h4)))),?_⟩
 refine⟨_,rfl,_,rfl,w1,w2,m,t1,t2,rfl,W1,W2,?_⟩
 have few:=zfk (m:=m) (ts:=t1) m9
 refine⟨_,rfl,tb,w1,m,t1,rfl,W1,m1,m9,fun l H1 s1 nl hl=>?_⟩
 refine⟨l,rfl,⟨_,SqL.of hl⟩,?_⟩
 have lw:(zaj (zaz m t1)).length=(zaz m t1).length:=List.length_map _
 refine zcw (K:=K) (a:=l) (xs:=zaj (zaz m t1)) (fun i ys σ H2=>(∃v,σ=[v,some (.ref w2)])∧Same H1 H2∧ys=zaj (((zaz m t1).take i).filter fun s=>!za0 t2 s)) ⟨⟨none,rfl⟩,Same.refl _,rfl⟩ (fun i ys σ H2 hi pv=>?_) (fun i ys σ H2 hi pv=>?_) (fun i x ys σ H2 hx pv=>?_) (fun ys σ H2 pv ol ay=>?_)
 ·obtain⟨_,_,rfl⟩:=pv
  rw[List.length_map]
  refine small (Nat.le_trans (List.length_filter_le _ _) ?_)
  rw[List.length_take]
  omega
 ·exact SqL.of (pv.2.1 _ _ hl)
 ·obtain⟨⟨v,rfl⟩,s2,rfl⟩:=pv
  rw[List.getElem?_map] at hx
  obtain⟨sw,az,rfl⟩:=Option.map_eq_some_iff.mp hx
  have et:(zaz m t1).take (i+1)=(zaz m t1).take i++[sw]:=by rw[List.take_add_one,az,Option.toList_some]
  refine⟨_,rfl,_,rfl,w2,m,t2,sw,rfl,W2.same (s1.trans s2),fun H3 s3=>?_⟩
  refine⟨_,rfl,?_⟩
  cases hk:za0 t2 sw
  ·refine zrb ?_
   refine⟨_,rfl,⟨_,rfl⟩,s2.trans s3,?_⟩
   rw[et,List.filter_append,List.filter_cons_of_pos (by rw[hk];rfl)]
   show _=List.map _ (_++_)
   rw[List.map_append]
   rfl
  ·refine zga ?_
   refine⟨⟨_,rfl⟩,s2.trans s3,?_⟩
   rw[et,List.filter_append,List.filter_cons_of_neg (by rw[hk];decide),List.filter_nil,List.append_nil]
 obtain⟨_,s2,rfl⟩:=pv
 rw[lw,List.take_length] at *
 have s3:=zai ay (.lst (zaj ((zaz m t1).filter fun s=>!za0 t2 s)))
 have ak:L2.upd H2 ol (.lst (zaj ((zaz m t1).filter fun s=>!za0 t2 s))) ol=some (.lst (zaj (outside m t1 t2))):=zaf
 have ao:=(s1.trans s2).trans s3
 generalize L2.upd H2 ol (.lst (zaj ((zaz m t1).filter fun s=>!za0 t2 s)))=H3 at s3 ak ao ⊢
 refine⟨_,rfl,ol,_,rfl,.inl (SqL.of ak),_,_,rfl,rfl,_,rfl,?_⟩
 cases ho:outside m t1 t2 with
 |nil=>
  rw[ho] at ak
  refine zkt (by rfl) ?_
  refine⟨0,0,rfl,by decide,?_⟩
  exact r4 _ _ ao ho
 |cons so r=>
  rw[ho] at ak
  refine zs2 (decide_eq_true (by rw[List.length_map,List.length_cons];omega)) ?_
  refine⟨_,rfl,ol,_,_,_,rfl,rfl,SqL.of ak,at0,small (by show 2≤1000;decide),fun tp aq=>?_⟩
  have s4:=zai aq (.tup [.str ("out" : Str),.int (so:Int)])
  refine q _ _ (ao.trans s4) ?_
  unfold zio
  rw[ho]
  exact⟨tp,_,rfl,zaf,_,_,rfl,rfl,_,_,rfl,rfl,rfl⟩
theorem zj3(T:Txt K mg a d):FnOk P w K mg base CX0 8 a.f_is_kept_leaf d.f_is_kept_leaf ["other", "word", "yes", "no"] zw8:=by
 have ad:=zfd (P:=P) (w:=w) (base:=base) T
 refine T.K_is_kept_leaf.ok zka (fun vs H Q E h=>?_) (fun cdv A outer s H vs Q E hr h=>?_)
 ·obtain⟨wd,m,ts,wo,y,n,rfl,_⟩:=h
  rfl
 obtain⟨wd,m,ts,wo,y,n,rfl,W,q⟩:=h
 refine⟨_,(zah (zak (zdi (zbp zbh (pv 1) za3 (zao _)) (zca (zac ad hr.lv rfl T.K_all_sure_kept (zaa (pv 0) (zaa (pv 2) (zaa (pv 3) zab)))))))),?_⟩
 refine⟨_,rfl,rfl,_,rfl,?_⟩
 unfold zig at q
 by_cases c:V.str wo=V.str ("kept" : Str)
 ·refine zdl c ?_
  refine⟨_,rfl,_,rfl,_,rfl,wd,m,ts,y,n,rfl,W,fun H' s'=>?_⟩
  have:=q H' s'
  rw[decide_eq_true c,Bool.true_and] at this
  exact this
 ·refine zbm c ?_
  have:=q H (Same.refl _)
  rw[decide_eq_false c,Bool.false_and] at this
  exact this
theorem zj6(T:Txt K mg a d)(LB:zdm mg base a.c_shows_within a.t_shows_within):FnOk P w K mg base CX0 21 a.f_shows_within d.f_shows_within ["one", "other", "tree"] (spT a.t_shows_within (zxs 11)):=by
 have ae:=zgu (P:=P) (w:=w) (base:=base) T
 have af:=zbi (P:=P) (w:=w) (base:=base) T
 refine T.K_shows_within.okC sc_shows_within (fun vs H Q E h=>?_) (fun cdv A outer s H vs Q E al hr h=>?_)
 ·obtain⟨_,w1,w2,m,t1,t2,t,v,rfl,_⟩:=h
  rfl
 obtain⟨tb,w1,w2,m,t1,t2,t,v,rfl,W1,W2,dn,gd,dp,q⟩:=h
 have LC:((zci CX0 P w K mg base ["one", "other", "tree", "root"] "shows_within" (zag zbj) a.f_shows_within cdv A outer s H E).nox).env.code=.ref a.c_shows_within:=al.symm.trans T.code_shows_within
 have LF:∀y∈(zfc (zho (zub (za8 zbj)[2]?))).names,y.2=.free→∃c,((zci CX0 P w K mg base ["one", "other", "tree", "root"] "shows_within" (zag zbj) a.f_shows_within cdv A outer s H E).nox).env.cells.lookup y.1=some c:=by
  intro y hy hz
  have e:y=(("other" : Str),NameKind.free):=by
   have h:=(by decide +kernel:∀y∈(zfc (zho (zub (za8 zbj)[2]?))).names,y.2=NameKind.free→y=(("other" : Str),NameKind.free))
   exact h y hy hz
  subst e
  exact⟨_,rfl⟩
 have last:∃t',PSs ((zci CX0 P w K mg base ["one", "other", "tree", "root"] "shows_within" (zag zbj) a.f_shows_within cdv A outer s H E).nox) ((za8 zbj).drop 2) t'∧t' { nx:=fun _ H'=>Q .non H',rt:=Q } [some (.ref w1),some (.ref w2),some v,some (.int 1)] H:=by
  refine⟨_,(zah (zak (zk1 (k:=20) hr.lv rfl T.K_is_tree.g T.K_is_tree.kp T.K_is_tree.B (fun _=>rfl) (zaa (pv 0) (zaa (pv 3) (zaa zad (zaa (pv 2) (zaa (zrp LC LB rfl LF) zab)))))))),?_⟩
  refine⟨_,rfl,_,rfl,_,rfl,tb,fun p c' H1 np s1 hp hc ah ci _ _=>?_⟩
  obtain⟨cw,u,e1,r1,ic⟩:=ci 1 "other" (.ref w2) rfl rfl rfl
  have ai:((zci CX0 P w K mg base ["one", "other", "tree", "root"] "shows_within" (zag zbj) a.f_shows_within cdv A outer s H E).nox).env.cells=[(("other" : Str),cw)]:=by
   have z:cw=s.heap.objs.size+1:=(Option.some.inj (show some (s.heap.objs.size+1)=some cw from e1)).symm
   rw[z]
   rfl
  have ad:=zj3 (P:=P) (w:=w) (base:=ah) T
  have L:=zx7 (P:=P) (w:=w) (K:=K) (mg:=mg) (base:=ah) (ps:=["word", "yes", "no"]) (fr:=["other"]) (fv:=[.ref w2]) (k:=8) (lf:=zig t2) (fun H=>WoodT H w2 m t2) hp ⟨rfl,rfl,rfl,by decide +kernel,by decide +kernel,by decide +kernel,by decide +kernel⟩
   (fun x cc h=>by
    have h':=za9 LF h
    rw[ai] at h'
    obtain⟨_,rfl⟩:=zb8 h'
    exact⟨_,ic⟩)
   (fun x y cc h1 h2=>by
    have ak:=za9 LF h1
    have aj:=za9 LF h2
    rw[ai] at ak aj
    rw[(zb8 ak).1,(zb8 aj).1])
   (fun y hy hz=>by
    obtain⟨c,hc⟩:=LF y hy hz
    exact⟨c,zdq LF (by rw[←hz];exact hy) hc⟩)
   (fun i x v h1 h2=>by
    cases i with
    |zero=>
     cases h1
     cases h2
     exact⟨cw,u,zdq LF (by decide +kernel) e1,r1,ic⟩
    |succ i=>cases h1)
   rfl (fun _ _ _=>rfl) rfl
   (fun q A outer s H wo y n Q hr W0 q'=>⟨_,zfz ad (hr.mono (by decide)) rfl T.K_is_kept_leaf.g T.K_is_kept_leaf.kp T.K_is_kept_leaf.B .nil zlx (zaa (pv 3) (zaa (pv 0) (zaa (pv 1) (zaa (pv 2) zab)))),⟨_,rfl,_,rfl,_,rfl,_,rfl,w2,m,t2,wo,y,n,rfl,W0,q'⟩⟩)
  have G:=zru (P:=P) (w:=w) (base:=ah) (m:=m) (ts:=t1) T L (.all fun us hl=>match us,hl with|[_,_,_],_=>rfl) znn (fun H H' s h=>⟨h.1.same s,s _ _ h.2.1,s _ _ h.2.2⟩) (fun H h=>h.2.1) 11
  exact⟨_,G,w1,1,0,t,v,rfl,W1.same s1,Dn.same s1 _ _ dn,gd,dp,⟨W2.same s1,hp,hc⟩,fun H' s2=>q H' (s1.trans s2)⟩
 obtain⟨t4,h4,r4⟩:=last
 refine⟨_,(zae (zea (zac ae hr.lv rfl T.K_check_alike (zaa (pv 0) (zaa (pv 1) zab))))
   (zae (zar (i:=3) sc_shows_within.nd rfl (Or.inl rfl) (zac af hr.lv rfl T.K_with_option (zaa zad (zaa zad zab))))
   h4)),?_⟩
 refine⟨_,rfl,_,rfl,w1,w2,m,t1,t2,rfl,W1,W2,?_⟩
 exact⟨0,0,rfl,by decide,r4⟩
theorem zqt(T:Txt K mg a d)(LBc:zdm mg base a.c_cases_of a.t_cases_of)(LB:zdm mg base a.c_within a.t_within):FnOk P w K mg base CX0 22 a.f_compared d.f_compared ["one", "other"] (spT a.t_cases_of (spT a.t_within zrs)):=by
 have ad:=zt3 (P:=P) (w:=w) (base:=base) T LBc LB
 refine T.K_compared.ok sc_compared (fun vs H Q E h=>?_) (fun cdv A outer s H vs Q E hr h=>?_)
 ·obtain⟨_,_,w1,w2,m,t1,t2,rfl,_⟩:=h
  rfl
 obtain⟨ta,tb,w1,w2,m,t1,t2,rfl,W1,W2,m1,m9,q⟩:=h
 refine⟨_,(zae (zar (i:=2) sc_compared.nd rfl (Or.inl rfl) (zac ad hr.lv rfl T.K_within (zaa (pv 0) (zaa (pv 1) zab))))
   (zae (zar (i:=3) sc_compared.nd rfl (Or.inl rfl) (zac ad hr.lv rfl T.K_within (zaa (pv 1) (zaa (pv 0) zab))))
   (zae (za2 (PW.pt (zja (zam zbh (zal (ixT (K:=K)) (pv 2) zad (fun _ _=>rfl)) za3 (zao _)) (zhi (zam zbh (zal (ixT (K:=K)) (pv 3) zad (fun _ _=>rfl)) za3 (zao _))))) (zah (zak (za6 (zaa za3 (zaa (zal (ixT (K:=K)) (pv 2) zad (fun _ _=>rfl)) (zaa (zal (ixT (K:=K)) (pv 3) zad (fun _ _=>rfl)) zab)))))) zat)
   (zae (za2 (zam zbh (zal (ixT (K:=K)) (pv 2) zad (fun _ _=>rfl)) za3 (zao _)) (zah (zak (za6 (zaa za3 (zaa (zal (ixT (K:=K)) (pv 2) zad (fun _ _=>rfl)) (zaa (zal (ixT (K:=K)) (pv 3) zad (fun _ _=>rfl)) zab)))))) zat)
   (zae (za2 (zam zbh (zal (ixT (K:=K)) (pv 3) zad (fun _ _=>rfl)) za3 (zao _)) (zah (zak (za6 (zaa za3 (zaa (zal (ixT (K:=K)) (pv 3) zad (fun _ _=>rfl)) (zaa (zal (ixT (K:=K)) (pv 2) zad (fun _ _=>rfl)) zab)))))) zat)
   (zah (zak (za6 (zaa za3 (zaa (zal (ixT (K:=K)) (pv 2) zad (fun _ _=>rfl)) (zaa (zal (ixT (K:=K)) (pv 3) zad (fun _ _=>rfl)) zab))))))))))),?_⟩
 refine⟨_,rfl,_,rfl,ta,tb,w1,w2,m,t1,t2,rfl,W1,W2,m1,m9,fun v1 H1 s1 d1=>?_⟩
 refine⟨_,rfl,_,rfl,s1.tab ta,s1.tab tb,w2,w1,m,t2,t1,rfl,W2.same s1,W1.same s1,m1,m9,fun v2 H2 s2 d2=>?_⟩
 have al:=s1.trans s2
 rw[zre] at d1 d2
 replace d1:=Dn.same s2 _ _ d1
 obtain⟨p1,_,rfl,ae,x1,_,rfl,ah,y1,_,rfl,ak,rfl⟩:=zcc d1
 obtain⟨p2,_,rfl,af,x2,_,rfl,ai,y2,_,rfl,aj,rfl⟩:=zcc d2
 have fin:∀(x:Str)(p q':V)(d e:PyData),Dn H2 d p→Dn H2 e q'→zuw m t1 t2=.tuple [.str x,d,e]→∀tp,H2 tp=none→Q (.ref tp) (L2.upd H2 tp (.tup [.str x,p,q'])):=by
  intro x p q' d e hd he ec tp am
  have s3:=zai am (.tup [.str x,p,q'])
  refine q _ _ (al.trans s3) ?_
  rw[ec]
  exact⟨tp,_,rfl,zaf,_,_,rfl,rfl,_,_,rfl,Dn.same s3 _ _ hd,_,_,rfl,Dn.same s3 _ _ he,rfl⟩
 unfold zuw at fin
 cases b1:wIn m t1 t2<;>cases b2:wIn m t2 t1<;>rw[b1] at ah fin<;>rw[b2] at ai fin
 ·cases(show x1=.str ("out" : Str) from ah)
  cases(show x2=.str ("out" : Str) from ai)
  refine⟨_,rfl,p1,_,_,_,rfl,rfl,sqT ae,at0,rfl,_,rfl,?_⟩
  refine zkt (by decide +kernel) ?_
  refine zga ?_
  refine⟨_,rfl,p1,_,_,_,rfl,rfl,sqT ae,at0,rfl,_,rfl,?_⟩
  refine zkt (by decide +kernel) ?_
  refine⟨_,rfl,p2,_,_,_,rfl,rfl,sqT af,at0,rfl,_,rfl,?_⟩
  refine zkt (by decide +kernel) ?_
  exact⟨_,rfl,p1,_,_,_,rfl,rfl,sqT ae,at1,_,rfl,p2,_,_,_,rfl,rfl,sqT af,at1,small (by show 3≤1000;decide),fin _ _ _ _ _ ak aj (zps _ _ _)⟩
 ·cases(show x1=.str ("out" : Str) from ah)
  cases(show x2=.str ("in" : Str) from ai)
  refine⟨_,rfl,p1,_,_,_,rfl,rfl,sqT ae,at0,rfl,_,rfl,?_⟩
  refine zkt (by decide +kernel) ?_
  refine zga ?_
  refine⟨_,rfl,p1,_,_,_,rfl,rfl,sqT ae,at0,rfl,_,rfl,?_⟩
  refine zkt (by decide +kernel) ?_
  refine⟨_,rfl,p2,_,_,_,rfl,rfl,sqT af,at0,rfl,_,rfl,?_⟩
  refine zs2 (by decide +kernel) ?_
  exact⟨_,rfl,p2,_,_,_,rfl,rfl,sqT af,at1,_,rfl,p1,_,_,_,rfl,rfl,sqT ae,at1,small (by show 3≤1000;decide),fin _ _ _ _ _ aj ak (zt9 _ _ _)⟩
 ·cases(show x1=.str ("in" : Str) from ah)
  cases(show x2=.str ("out" : Str) from ai)
  refine⟨_,rfl,p1,_,_,_,rfl,rfl,sqT ae,at0,rfl,_,rfl,?_⟩
  refine zs2 (by decide +kernel) ?_
  refine⟨_,rfl,p2,_,_,_,rfl,rfl,sqT af,at0,rfl,_,rfl,?_⟩
  refine zkt (by decide +kernel) ?_
  refine⟨_,rfl,p1,_,_,_,rfl,rfl,sqT ae,at0,rfl,_,rfl,?_⟩
  refine zs2 (by decide +kernel) ?_
  exact⟨_,rfl,p1,_,_,_,rfl,rfl,sqT ae,at1,_,rfl,p2,_,_,_,rfl,rfl,sqT af,at1,small (by show 3≤1000;decide),fin _ _ _ _ _ ak aj (zv4 _ _ _)⟩
 ·cases(show x1=.str ("in" : Str) from ah)
  cases(show x2=.str ("in" : Str) from ai)
  refine⟨_,rfl,p1,_,_,_,rfl,rfl,sqT ae,at0,rfl,_,rfl,?_⟩
  refine zs2 (by decide +kernel) ?_
  refine⟨_,rfl,p2,_,_,_,rfl,rfl,sqT af,at0,rfl,_,rfl,?_⟩
  refine zs2 (by decide +kernel) ?_
  exact⟨_,rfl,p1,_,_,_,rfl,rfl,sqT ae,at1,_,rfl,p2,_,_,_,rfl,rfl,sqT af,at1,small (by show 3≤1000;decide),fin _ _ _ _ _ ak aj (zqf _ _ _)⟩
theorem zsp(T:Txt K mg a d):FnOk P w K mg base CX0 17 a.f_bars d.f_bars ["wood", "ties", "yes", "no"] zzc:=by
 have ad:=zcm (P:=P) (w:=w) (base:=base) T 9
 refine T.K_bars.ok zya (fun vs H Q E h=>?_) (fun cdv A outer s H vs Q E hr h=>?_)
 ·obtain⟨wd,m,ts,tl,il,y,n,rfl,_⟩:=h
  rfl
 obtain⟨wd,m,ts,tl,il,y,n,rfl,W,m9,af,ae,q⟩:=h
 have of:=zb4 m y n
 refine⟨_,(zah (zak (zbp zh2 (zac ad hr.lv rfl T.K_first_keeping (zaa (pv 0) (zaa (pv 1) (zaa (pv 2) (zaa (pv 3) zab))))) zby (zao _)))),?_⟩
 refine⟨_,rfl,_,rfl,_,rfl,_,rfl,wd,m,ts,tl,il,y,n,rfl,W,af,ae,by omega,fun H1 s1=>?_⟩
 have q1:=q H1 s1
 unfold zd2 at q1
 rw[←zqr] at q1
 exact⟨rfl,q1⟩
theorem zgc(T:Txt K mg a d):FnOk P w K mg base CX0 1 a.f_left_without d.f_left_without ["things", "one"] zq4:=by
 refine T.K_left_without.ok zj5 (fun vs H Q E h=>?_) (fun cdv A outer s H vs Q E hr h=>?_)
 ·obtain⟨l,il,t,rfl,_⟩:=h
  rfl
 obtain⟨l,il,t,rfl,hl,few,q⟩:=h
 refine⟨_,(zah (zak (zdc (N':=["other", "one"]) (n:=1) (kp:=[1]) rfl (piL (K:=K) (pv 0)) rfl rfl rfl (fun _ _ _ _ _=>(zaw (i:=0) (of_decide_eq_true rfl) rfl (Or.inl rfl))) (fun _ _ _ _ _=>(zb2 (zam zmq (pv 0) (pv 1) (zao _)))) (fun _ _ _ _ _=>(pv 0))))),?_⟩
 refine⟨_,rfl,l,rfl,⟨_,SqL.of hl⟩,?_⟩
 refine zcw (K:=K) (a:=l) (xs:=zaj il) (fun j ys σ H2=>(∃v,σ=[v,some (.int (t:Int))])∧H2=H∧ys=zaj ((il.take j).filter fun i=>!decide (i=t))) ⟨⟨none,rfl⟩,rfl,rfl⟩ (fun j ys σ H2 hj pv=>?_) (fun j ys σ H2 hj pv=>?_) (fun j x ys σ H2 hx pv=>?_) (fun ys σ H2 pv p hp=>?_)
 ·obtain⟨_,_,rfl⟩:=pv
  rw[List.length_map]
  refine small (Nat.le_trans (List.length_filter_le _ _) ?_)
  rw[List.length_take]
  omega
 ·rw[pv.2.1]
  exact SqL.of hl
 ·obtain⟨⟨v0,rfl⟩,rfl,rfl⟩:=pv
  rw[List.getElem?_map] at hx
  obtain⟨i,hi,rfl⟩:=Option.map_eq_some_iff.mp hx
  have et:il.take (j+1)=il.take j++[i]:=by rw[List.take_add_one,hi,Option.toList_some]
  refine⟨_,rfl,_,rfl,rfl,_,rfl,?_⟩
  by_cases c:i=t
  ·refine zlp (by rw[c]) ?_
   refine⟨⟨_,rfl⟩,rfl,?_⟩
   rw[et,List.filter_append]
   simp[c]
  ·refine zm4 (fun z=>c (by injection z with z;omega)) ?_
   refine⟨_,rfl,⟨_,rfl⟩,rfl,?_⟩
   rw[et,List.filter_append]
   simp[c]
 obtain⟨_,rfl,rfl⟩:=pv
 rw[List.length_map,List.take_length]
 exact q p _ (zai hp _) hp zaf
def zvh:Sp:=fun vs H Q _=>∃(wd:Addr)(m:Nat)(ts:List Tie)(y n:Nat),vs=[.ref wd,.int y,.int n]∧WoodT H wd m ts∧m≤9∧∀(lf:Addr)(H':Hp),Same H H'→H lf=none→H' lf=some (.lst (zaj (zd3 ts m y n)))→Q (.ref lf) H'
theorem zmg(T:Txt K mg a d):FnOk P w K mg base CX0 18 a.f_least_ties d.f_least_ties ["wood", "yes", "no"] zvh:=by
 have ad:=zb9 (P:=P) (w:=w) (base:=base) T
 have ai:=zsp (P:=P) (w:=w) (base:=base) T
 have ae:=zgc (P:=P) (w:=w) (base:=base) T
 refine T.K_least_ties.ok sc_least_ties (fun vs H Q E h=>?_) (fun cdv A outer s H vs Q E hr h=>?_)
 ·obtain⟨wd,m,ts,y,n,rfl,_⟩:=h
  rfl
 obtain⟨wd,m,ts,y,n,rfl,W,m9,q⟩:=h
 have few:=W.few
 have of:=zb4 m y n
 have ak:∀i∈zbk ts,i<ts.length:=fun i hi=>List.mem_range.mp hi
 have aq:(zbk ts).length=ts.length:=List.length_range
 refine⟨_,(zae (zar (i:=3) sc_least_ties.nd rfl (Or.inl rfl) (zac ad hr.lv rfl T.K_every_tie (zaa (pv 0) zab)))
   (zae (zes PassesOwn.never rfl (piL (K:=K) (zac ad hr.lv rfl T.K_every_tie (zaa (pv 0) zab))) (zaw (i:=4) sc_least_ties.nd rfl (Or.inl rfl)) (zae (zar (i:=5) sc_least_ties.nd rfl (Or.inl rfl) (zac ae hr.lv rfl T.K_left_without (zaa (pv 3) (zaa (pv 4) zab))))
   (zah (za2 (zbx (zac ai hr.lv rfl T.K_bars (zaa (pv 0) (zaa (pv 5) (zaa (pv 1) (zaa (pv 2) zab)))))) (zah (zar (i:=3) sc_least_ties.nd rfl (Or.inl rfl) (pv 5))) zat))))
   (zah (zak (pv 3))))),?_⟩
 refine⟨_,rfl,wd,m,ts,rfl,W,fun l0 H1 s1 ap ao=>?_⟩
 refine⟨_,rfl,wd,m,ts,rfl,W.same s1,fun l1 H3 s3 ar am=>?_⟩
 refine⟨l1,rfl,⟨_,SqL.of am⟩,?_⟩
 have aj:=s1.trans s3
 refine zg0 (K:=K) (a:=l1) (xs:=zaj (zbk ts)) (fun i σ H4=>∃(lf:Addr)(v4 v5:Option V),σ=[some (.ref wd),some (.int y),some (.int n),some (.ref lf),v4,v5]∧Same H3 H4∧H4 lf=some (.lst (zaj (((zbk ts).take i).foldl (zb5 ts m y n) (zbk ts))))∧H lf=none) ⟨l0,_,_,rfl,Same.refl _,s3 _ _ ao,ap⟩ (fun i σ H4 _ z=>by obtain⟨_,_,_,_,s4,_⟩:=z;exact SqL.of (s4 _ _ am)) ?_ ?_
 ·rintro i x σ H4 hx ⟨lf,v4,v5,rfl,s4,ah,al⟩
  rw[List.getElem?_map] at hx
  obtain⟨t,ht,rfl⟩:=Option.map_eq_some_iff.mp hx
  generalize af:((zbk ts).take i).foldl (zb5 ts m y n) (zbk ts)=left at ah
  have sub:left.Sublist (zbk ts):=by rw[←af];exact zhj _ _
  have au:=sub.length_le
  have e1:((zbk ts).take (i+1)).foldl (zb5 ts m y n) (zbk ts)=zb5 ts m y n left t:=by
   rw[List.take_add_one,ht,Option.toList_some,List.foldl_append,af]
   rfl
  refine⟨_,rfl,_,rfl,lf,left,t,rfl,ah,by omega,fun p H5 s5 np hp=>?_⟩
  refine⟨_,rfl,_,rfl,_,rfl,_,rfl,wd,m,ts,p,without left t,y,n,rfl,W.same ((aj.trans s4).trans s5),m9,hp,fun i hi=>ak i (sub.subset (List.mem_filter.mp hi).1),fun H6 s6=>?_⟩
  refine⟨_,rfl,?_⟩
  refine zbv (fun c2=>?_) (fun c2=>?_)
  ·refine⟨_,rfl,p,_,_,rfl,(s4.trans s5).trans s6,?_,(aj.trans s4).free np⟩
   rw[e1]
   unfold zb5
   rw[if_pos c2]
   exact s6 _ _ hp
  ·refine⟨lf,_,_,rfl,(s4.trans s5).trans s6,?_,al⟩
   rw[e1]
   unfold zb5
   rw[if_neg c2]
   exact(s5.trans s6) _ _ ah
 ·rintro σ H4 ⟨lf,v4,v5,rfl,s4,ah,al⟩
  rw[List.length_map,List.take_length] at ah
  have sub:(zd3 ts m y n).Sublist (zbk ts):=zhj _ _
  have ah:H4 lf=some (.lst (zaj (zd3 ts m y n))):=ah
  exact⟨_,rfl,q lf H4 (aj.trans s4) al ah⟩
def zpl:Sp:=fun vs H Q _=>∃(wd lf:Addr)(m:Nat)(ts:List Tie)(left:List Nat)(y n:Nat),vs=[.ref wd,.ref lf,.int y,.int n]∧WoodT H wd m ts∧m≤9∧H lf=some (.lst (zaj left))∧(∀i∈left,i<ts.length)∧left.length≤900∧∀(ol:Addr)(H':Hp),Same H H'→H ol=none→zrz H' ol ts m y n left→Q (.ref ol) H'
theorem zl0(T:Txt K mg a d):FnOk P w K mg base CX0 18 a.f_tie_others d.f_tie_others ["wood", "ties", "yes", "no"] zpl:=by
 have ae:=zgc (P:=P) (w:=w) (base:=base) T
 have ad:=zcm (P:=P) (w:=w) (base:=base) T 9
 refine T.K_tie_others.ok zmd (fun vs H Q E h=>?_) (fun cdv A outer s H vs Q E hr h=>?_)
 ·obtain⟨wd,lf,m,ts,left,y,n,rfl,_⟩:=h
  rfl
 obtain⟨wd,lf,m,ts,left,y,n,rfl,W,m9,aj,ah,ao,q⟩:=h
 have of:=zb4 m y n
 refine⟨_,(zah (zak (zdc (N':=["t", "wood", "yes", "no", "ties"]) (n:=1) (kp:=[0,2,3,1]) rfl (piL (K:=K) (pv 1)) rfl rfl rfl (fun _ _ _ _ _=>(zaw (i:=0) (of_decide_eq_true rfl) rfl (Or.inl rfl))) (fun _ _ _ _ _=>zd9) (fun _ _ _ _ _=>(za6 (zaa (pv 0) (zaa (zac ad hr.lv rfl T.K_first_keeping (zaa (pv 1) (zaa (zac ae hr.lv rfl T.K_left_without (zaa (pv 4) (zaa (pv 0) zab))) (zaa (pv 2) (zaa (pv 3) zab))))) zab))))))),?_⟩
 refine⟨_,rfl,lf,rfl,⟨_,SqL.of aj⟩,?_⟩
 refine zcw (K:=K) (a:=lf) (xs:=zaj left) (fun j ys σ H5=>(∃v,σ=[v,some (.ref wd),some (.int y),some (.int n),some (.ref lf)])∧Same H H5∧ys.length=j∧∀(i t:Nat),i<j→left[i]?=some t→∃q,ys[i]?=some (.ref q)∧H5 q=some (.tup [.int (t:Int),zge (zbt ts (without left t) m 9 y n)])) ⟨⟨none,rfl⟩,Same.refl _,rfl,fun i t hi=>absurd hi (Nat.not_lt_zero i)⟩ (fun j ys σ H5 hj pv=>?_) (fun j ys σ H5 hj pv=>?_) (fun j x ys σ H5 hx pv=>?_) (fun ys σ H5 pv ol ak=>?_)
 ·obtain⟨_,_,h1,_⟩:=pv
  rw[List.length_map] at hj
  exact small (by omega)
 ·exact SqL.of (pv.2.1 _ _ aj)
 ·obtain⟨⟨v,rfl⟩,s5,h1,af⟩:=pv
  rw[List.getElem?_map] at hx
  obtain⟨t,ht,rfl⟩:=Option.map_eq_some_iff.mp hx
  refine⟨_,rfl,_,rfl,_,rfl,_,rfl,lf,left,t,rfl,s5 _ _ aj,by omega,fun p H6 s6 np hp=>?_⟩
  refine⟨_,rfl,_,rfl,wd,m,ts,p,without left t,y,n,rfl,W.same (s5.trans s6),hp,fun i hi=>ah i (List.mem_filter.mp hi).1,by omega,fun H7 s7=>?_⟩
  refine⟨small (by show 2≤1000;decide),fun tp am=>?_⟩
  have s8:=zai am (.tup [.int (t:Int),zge (zbt ts (without left t) m 9 y n)])
  have al:=(s6.trans s7).trans s8
  refine⟨⟨_,rfl⟩,s5.trans al,by rw[List.length_append,List.length_singleton,h1],fun i t' hi ai=>?_⟩
  by_cases e:i=j
  ·subst e
   rw[ht] at ai
   cases ai
   refine⟨tp,?_,zaf⟩
   rw[List.getElem?_append_right (by omega),h1,Nat.sub_self]
   rfl
  ·obtain⟨p',a1,a2⟩:=af i t' (by omega) ai
   refine⟨p',?_,al _ _ a2⟩
   rw[List.getElem?_append_left (by omega)]
   exact a1
 ·obtain⟨_,s5,h1,af⟩:=pv
  rw[List.length_map] at h1 af
  have s6:=zai ak (.lst ys)
  refine q ol _ (s5.trans s6) (s5.free ak) ⟨ys,zaf,h1,fun j t ht=>?_⟩
  obtain⟨p',a1,a2⟩:=af j t (List.getElem?_eq_some_iff.mp ht).1 ht
  exact⟨p',a1,s6 _ _ a2⟩
def zu0(H H':Hp)(fv:V):Prop:=∀(p lf ol:Addr)(v:V),fv=.ref p→H' p=some (.tup [.ref lf,v,.ref ol])→H lf=none∧H ol=none
def zuv:Sp:=fun vs H Q _=>∃(wd:Addr)(m:Nat)(ts:List Tie)(y n:Nat),vs=[.ref wd,.int y,.int n]∧WoodT H wd m ts∧m≤9∧∀(fv:V)(H':Hp),Same H H'→zwh H' fv ts m y n→zu0 H H' fv→Q fv H'
theorem zl6(T:Txt K mg a d)(LB:zdm mg base a.c_cases_of a.t_cases_of):FnOk P w K mg base CX0 19 a.f_least_bar d.f_least_bar ["wood", "yes", "no"] (spT a.t_cases_of zuv):=by
 have af:=zb9 (P:=P) (w:=w) (base:=base) T
 have ai:=zsp (P:=P) (w:=w) (base:=base) T
 have ad:=zmg (P:=P) (w:=w) (base:=base) T
 have ae:=zl0 (P:=P) (w:=w) (base:=base) T
 have ah:=zjy (P:=P) (w:=w) (base:=base) T LB 9
 refine T.K_least_bar.ok sc_least_bar (fun vs H Q E h=>?_) (fun cdv A outer s H vs Q E hr h=>?_)
 ·obtain⟨_,wd,m,ts,y,n,rfl,_⟩:=h
  rfl
 obtain⟨tb,wd,m,ts,y,n,rfl,W,m9,q⟩:=h
 have few:=W.few
 have of:=zb4 m y n
 have aj:∀i∈zbk ts,i<ts.length:=fun i hi=>List.mem_range.mp hi
 have aw:(zbk ts).length=ts.length:=List.length_range
 refine⟨_,(zae (za2 (zfw (zbx (zac ai hr.lv rfl T.K_bars (zaa (pv 0) (zaa (zac af hr.lv rfl T.K_every_tie (zaa (pv 0) zab)) (zaa (pv 1) (zaa (pv 2) zab))))))) (zah (zak zby)) zat)
   (zae (zar (i:=3) sc_least_bar.nd rfl (Or.inl rfl) (zac ad hr.lv rfl T.K_least_ties (zaa (pv 0) (zaa (pv 1) (zaa (pv 2) zab)))))
   (zah (zak (za6 (zaa (pv 3) (zaa (zac ah hr.lv rfl T.K_cases_of (zaa (pv 0) (zaa (pv 3) (zaa (pv 1) (zaa (pv 2) zab))))) (zaa (zac ae hr.lv rfl T.K_tie_others (zaa (pv 0) (zaa (pv 3) (zaa (pv 1) (zaa (pv 2) zab))))) zab)))))))),?_⟩
 refine⟨_,rfl,_,rfl,wd,m,ts,rfl,W,fun l0 H1 s1 aA au=>?_⟩
 refine⟨_,rfl,_,rfl,wd,m,ts,l0,zbk ts,y,n,rfl,W.same s1,m9,au,aj,fun H2 s2=>?_⟩
 refine⟨_,rfl,?_⟩
 refine zbv (fun c=>?_) (fun c=>?_)
 ·exact q .non H2 (s1.trans s2) (.inl ⟨by simpa using c,rfl⟩) (fun _ _ _ _ z=>nomatch z)
 have al:zd2 ts (zbk ts) m y n=true:=by simpa using c
 have am:=s1.trans s2
 refine⟨_,rfl,_,rfl,_,rfl,wd,m,ts,y,n,rfl,W.same am,m9,fun lf H3 s3 aq ap=>?_⟩
 have ak:=am.trans s3
 have sub:(zd3 ts m y n).Sublist (zbk ts):=zhj _ _
 have az:=sub.length_le
 refine⟨_,rfl,_,rfl,_,rfl,_,rfl,_,rfl,ak.tab tb,wd,m,ts,lf,zd3 ts m y n,y,n,rfl,W.same ak,ap,fun i hi=>aj i (sub.subset hi),by omega,fun v H4 s4 d1=>?_⟩
 have ao:=ak.trans s4
 refine⟨_,rfl,_,rfl,_,rfl,_,rfl,wd,lf,m,ts,zd3 ts m y n,y,n,rfl,W.same ao,m9,s4 _ _ ap,fun i hi=>aj i (sub.subset hi),by omega,fun ol H5 s5 av ot=>?_⟩
 refine⟨small (by show 3≤1000;decide),fun tp ar=>?_⟩
 have s6:=zai ar (.tup [.ref lf,v,.ref ol])
 refine q (.ref tp) _ ((ao.trans s5).trans s6) (.inr ⟨al,tp,lf,ol,v,rfl,zaf,((s4.trans s5).trans s6) _ _ ap,Dn.same (s5.trans s6) _ _ d1,?_⟩) ?_
 ·obtain⟨xs,h1,h2,h3⟩:=ot.ex
  refine⟨xs,s6 _ _ h1,h2,fun j t ht=>?_⟩
  obtain⟨p',a1,a2⟩:=h3 j t ht
  exact⟨p',a1,s6 _ _ a2⟩
 ·intro p' ax ay v' e1 e2
  cases e1
  rw[zaf] at e2
  cases e2
  exact⟨am.free aq,ao.free av⟩
theorem zos{H H':Hp}{fv:V}{ts:List Tie}{m y n:Nat}(h:zwh H' fv ts m y n)(fr:zu0 H H' fv):FoundF H H' fv ts m y n:=by
 rcases h with z|⟨b,p,lf,ol,v,a1,a2,a3,a4,a5⟩
 ·exact .inl z
 ·obtain⟨f1,f2⟩:=fr p lf ol v a1 a2
  exact .inr ⟨b,p,lf,ol,v,a1,a2,a3,a4,a5,f1,f2⟩
def zr0:Sp:=fun vs H Q _=>∃(wd:Addr)(m:Nat)(ts:List Tie)(k:Nat),vs=[.ref wd,.int k]∧WoodT H wd m ts∧1≤m∧m≤9∧k<m∧∀(v:V)(H':Hp),Same H H'→zuh H H' v ts m k→Q v H'
theorem zpe(T:Txt K mg a d)(LB:zdm mg base a.c_cases_of a.t_cases_of):FnOk P w K mg base CX0 20 a.f_standing d.f_standing ["wood", "k"] (spT a.t_cases_of zr0):=by
 have af:=zbi (P:=P) (w:=w) (base:=base) T
 have ad:=zl8 (P:=P) (w:=w) (base:=base) T
 have ae:=zl6 (P:=P) (w:=w) (base:=base) T LB
 refine T.K_standing.ok sc_standing (fun vs H Q E h=>?_) (fun cdv A outer s H vs Q E hr h=>?_)
 ·obtain⟨_,wd,m,ts,k,rfl,_⟩:=h
  rfl
 obtain⟨tb,wd,m,ts,k,rfl,W,m1,m9,km,q⟩:=h
 have S0:=zf4 m1
 have o0:=zb4 m 1 0
 have k1:(1|||2^k).testBit 0=true:=by rw[Nat.testBit_or];rfl
 refine⟨_,(zae (zar (i:=2) sc_standing.nd rfl (Or.inl rfl) (zac af hr.lv rfl T.K_with_option (zaa zad (zaa zad zab))))
   (zae (zar (i:=3) sc_standing.nd rfl (Or.inl rfl) (zac af hr.lv rfl T.K_with_option (zaa zad (zaa (pv 1) zab))))
   (zae (za2 (zam zh2 (zac ad hr.lv rfl T.K_first_ware (zaa (pv 0) (zaa (pv 2) (zaa zad zab)))) zby (zao _)) (zah (zak (za6 (zaa za3 (zaa (zac ae hr.lv rfl T.K_least_bar (zaa (pv 0) (zaa (pv 2) (zaa zad zab)))) zab))))) zat)
   (zae (za2 (zam zbh (pv 1) zad (zao _)) (zah (zak (za6 (zaa za3 (zaa zby zab))))) zat)
   (zae (zar (i:=4) sc_standing.nd rfl (Or.inl rfl) (zac ad hr.lv rfl T.K_first_ware (zaa (pv 0) (zaa (zba zsn (pv 2) (pv 3)) (zaa zad zab)))))
   (zae (za2 (zam zh2 (pv 4) zby (zao _)) (zah (zak (za6 (zaa za3 (zaa (zac ae hr.lv rfl T.K_least_bar (zaa (pv 0) (zaa (zba zsn (pv 2) (pv 3)) (zaa zad zab)))) zab))))) zat)
   (zae (zar (i:=5) sc_standing.nd rfl (Or.inl rfl) (zac ad hr.lv rfl T.K_first_ware (zaa (pv 0) (zaa (pv 2) (zaa (pv 3) zab)))))
   (zae (za2 (zam zh2 (pv 5) zby (zao _)) (zah (zak (za6 (zaa za3 (zaa (zac ae hr.lv rfl T.K_least_bar (zaa (pv 0) (zaa (pv 2) (zaa (pv 3) zab)))) zab))))) zat)
   (zah (zak (za6 (zaa za3 (zaa (pv 4) (zaa (pv 5) zab)))))))))))))),?_⟩
 refine⟨0,0,rfl,by decide,?_⟩
 refine⟨_,rfl,0,k,rfl,by omega,?_⟩
 rw[Nat.zero_or (2^k),show(0|||2^0:Nat)=1 from rfl]
 refine⟨_,rfl,_,rfl,wd,m,ts,1,0,rfl,W,m9,m1,S0,fun H1 o s1 fw=>?_⟩
 have eo:o=zbt ts (zbk ts) m 9 1 0:=FirstK.unique (zjh rfl (by cases o<;>exact fw)) (zcl W.ok 9 1 0 (by omega) S0)
 cases o with
 |none=>
  have b1:=zku eo.symm
  refine⟨rfl,_,rfl,?_⟩
  refine zdl rfl ?_
  refine⟨_,rfl,_,rfl,s1.tab tb,wd,m,ts,1,0,rfl,W.same s1,m9,fun fv H2 s2 fl fr=>?_⟩
  refine⟨small (by show 2≤1000;decide),fun tp ah=>?_⟩
  have s3:=zai ah (.tup [.str ("void" : Str),fv])
  exact q (.ref tp) _ ((s1.trans s2).trans s3) ⟨tp,rfl,.inl ⟨b1,fv,zaf,((zos fl fr).old s1).same s3⟩⟩
 |some g0=>
  have b1:=zlq eo.symm
  refine⟨rfl,_,rfl,?_⟩
  refine zbm (by intro z;cases z) ?_
  refine⟨_,rfl,rfl,_,rfl,?_⟩
  by_cases k0:k=0
  ·refine zdl (by rw[k0];rfl) ?_
   refine⟨small (by show 2≤1000;decide),fun tp ah=>?_⟩
   have s3:=zai ah (.tup [.str ("always" : Str),.non])
   exact q (.ref tp) _ (s1.trans s3) ⟨tp,rfl,.inr (.inl ⟨b1,k0,zaf⟩)⟩
  refine zbm (fun z=>k0 (by injection z with z;omega)) ?_
  have Sw:=zle m1 km
  have Sn:=zmm m1 km k0
  have ow:=zb4 m (1|||2^k) 0
  have on:=zb4 m 1 (2^k)
  refine⟨_,rfl,_,rfl,_,rfl,_,_,rfl,rfl,wd,m,ts,1|||2^k,0,by dsimp only;rw[show((1:Nat):Int)=((1:Nat):Int) from rfl,zkg];rfl,W.same s1,m9,m1,Sw,fun H2 o2 s2 ao=>?_⟩
  have ak:o2=zbt ts (zbk ts) m 9 (1|||2^k) 0:=FirstK.unique (zjh k1 (by cases o2<;>exact ao)) (zcl W.ok 9 _ 0 (by omega) Sw)
  have ai:=s1.trans s2
  cases o2 with
  |none=>
   have b2:=zku ak.symm
   refine⟨_,rfl,rfl,_,rfl,?_⟩
   refine zdl rfl ?_
   refine⟨_,rfl,_,rfl,_,rfl,_,_,rfl,rfl,ai.tab tb,wd,m,ts,1|||2^k,0,by dsimp only;rw[zkg];rfl,W.same ai,m9,fun fv H3 s3 fl fr=>?_⟩
   refine⟨small (by show 2≤1000;decide),fun tp ah=>?_⟩
   have s4:=zai ah (.tup [.str ("never" : Str),fv])
   exact q (.ref tp) _ ((ai.trans s3).trans s4) ⟨tp,rfl,.inr (.inr (.inl ⟨b1,k0,b2,fv,zaf,((zos fl fr).old ai).same s4⟩))⟩
  |some g1=>
   have b2:=zlq ak.symm
   refine⟨_,rfl,rfl,_,rfl,?_⟩
   refine zbm (by intro z;cases z) ?_
   refine⟨_,rfl,_,rfl,_,rfl,wd,m,ts,1,2^k,rfl,W.same ai,m9,m1,Sn,fun H3 o3 s3 am=>?_⟩
   have al:o3=zbt ts (zbk ts) m 9 1 (2^k):=FirstK.unique (zjh rfl (by cases o3<;>exact am)) (zcl W.ok 9 1 _ (by omega) Sn)
   have aj:=ai.trans s3
   cases o3 with
   |none=>
    have b3:=zku al.symm
    refine⟨_,rfl,rfl,_,rfl,?_⟩
    refine zdl rfl ?_
    refine⟨_,rfl,_,rfl,_,rfl,aj.tab tb,wd,m,ts,1,2^k,rfl,W.same aj,m9,fun fv H4 s4 fl fr=>?_⟩
    refine⟨small (by show 2≤1000;decide),fun tp ah=>?_⟩
    have s5:=zai ah (.tup [.str ("always" : Str),fv])
    exact q (.ref tp) _ ((aj.trans s4).trans s5) ⟨tp,rfl,.inr (.inr (.inr (.inl ⟨b1,k0,b2,b3,fv,zaf,((zos fl fr).old aj).same s5⟩)))⟩
   |some g2=>
    have b3:=zlq al.symm
    refine⟨_,rfl,rfl,_,rfl,?_⟩
    refine zbm (by intro z;cases z) ?_
    refine⟨_,rfl,_,rfl,small (by show 3≤1000;decide),fun tp ah=>?_⟩
    have s5:=zai ah (.tup [.str ("either" : Str),.int (g1:Int),.int (g2:Int)])
    exact q (.ref tp) _ (aj.trans s5) ⟨tp,rfl,.inr (.inr (.inr (.inr ⟨b1,k0,b2,b3,g1,g2,ak.symm,al.symm,zaf⟩)))⟩
theorem zcf(T:Txt K mg a d):FnOk P w K mg base CX0 1 a.f_law_take d.f_law_take ["_law_state", "_law_most_here"] (zy7 K):=by
 refine T.K_law_take.ok sc_law_take (fun vs H Q E h=>?_) (fun cdv A outer s H vs Q E hr h=>?_)
 ·obtain⟨pen,sp,ns,ad,k,rfl,_⟩:=h
  rfl
 obtain⟨pen,sp,ns,ad,k,rfl,pn,k0,k1,m0,q⟩:=h
 have hp:=pn.at_
 have el:(ns.map V.int).length=ns.length:=List.length_map _
 have al:0≤k*k:=Int.mul_nonneg k0 k0
 have am:k*k≤1000000*1000000:=Int.mul_le_mul k1 k1 k0 (by decide)
 have ah:(2:Int)^64=18446744073709551616:=by decide
 have ae:∀j:Int,0≤j→j<ns.length→∃v:Int,atI (ns.map V.int) j=some (.int v):=fun j j0 j1=>by
  obtain⟨m,rfl⟩:∃m:Nat,j=(m:Int):=⟨j.toNat,by omega⟩
  have hj:m<ns.length:=by omega
  refine⟨ns[m],zcx ?_⟩
  rw[List.getElem?_map,List.getElem?_eq_getElem hj]
  rfl
 have last:∃t,PSs (zci CX0 P w K mg base ["_law_state", "_law_most_here", "_law_at", "_law_script", "_law_mingled"] "_law_take" (zag zep) a.f_law_take cdv A outer s H E).nox ((za8 zep).drop 6) t∧∀(N:Int)(v0 v2 v3:Option V),0≤N→N≤1000000000000000→t { nx:=fun _ H'=>Q .non H',rt:=Q } [v0,some (.int ad),v2,v3,some (.int N)] (L2.upd H pen (.lst [.ref sp,.int (k+1)])):=by
  refine⟨_,(zah (zak (zba zh5 (zba zh5 (zba zg4 (pv 4) (pv 4)) zad) (pv 1)))),fun N v0 v2 v3 n0 n1=>?_⟩
  refine⟨_,rfl,_,rfl,_,_,rfl,rfl,.inl ⟨by rw[ah];omega,by rw[ah];omega⟩,_,_,rfl,rfl,(by show(0:Int)<2147483647;decide),_,rfl,_,_,rfl,rfl,m0,?_⟩
  exact q _ (Int.emod_nonneg _ (by omega)) (Int.emod_lt_of_pos _ m0)
 obtain⟨t6,h6,r6⟩:=last
 refine⟨_,(zae (zar (i:=2) sc_law_take.nd rfl (Or.inl rfl) (zal (ixL (K:=K)) (pv 0) zad (fun _ _=>rfl)))
   (zae (zvy (zba zcr (pv 2) zad) (zyn (pv 0) zad zvw))
   (zae (zar (i:=3) sc_law_take.nd rfl (Or.inl rfl) (zal (ixL (K:=K)) (pv 0) zad (fun _ _=>rfl)))
   (zae (za2 (zam zm9 (pv 2) (zav (zcs (K:=K)) rfl T.m_len PySem.boot_len (zaa (pv 3) zab)) (zao _)) (zah (zak (zba zh5 (zal (ixL (K:=K)) (pv 3) (pv 2) (fun _ _=>rfl)) (pv 1)))) zat)
   (zae (zar (i:=4) sc_law_take.nd rfl (Or.inl rfl) (zba zcr (zba zcr (zba zg4 (pv 2) (pv 2)) (zba zg4 zad (pv 2))) zad))
   (zae (za2 (zam zhu (zav (zcs (K:=K)) rfl T.m_len PySem.boot_len (zaa (pv 3) zab)) zad (zao _)) (zah (zar (i:=4) sc_law_take.nd rfl (Or.inl rfl) (zba zcr (pv 4) (zba zg4 (zba zh5 (zal (ixL (K:=K)) (pv 3) (zba zh5 (zba zcr (zba zg4 zad (pv 2)) zad) (zav (zcs (K:=K)) rfl T.m_len PySem.boot_len (zaa (pv 3) zab))) (fun _ _=>rfl)) zad) zad)))) zat)
   h6)))))),?_⟩
 refine⟨_,rfl,pen,_,_,_,rfl,rfl,SqL.of hp,rfl,?_⟩
 refine⟨_,rfl,_,_,rfl,rfl,_,rfl,pen,_,_,_,rfl,rfl,hp,rfl,?_⟩
 have hS:=pn.scr _ (za1 (pen:=pen) (H:=H) (.lst [.ref sp,.int (k+1)]))
 have ak:L2.upd H pen (.lst [.ref sp,.int (k+1)]) pen=some (.lst [.ref sp,.int (k+1)]):=zaf
 refine⟨_,rfl,pen,_,_,_,rfl,rfl,SqL.of ak,rfl,?_⟩
 refine⟨_,rfl,_,rfl,sp,_,rfl,.inl hS,_,_,rfl,rfl,_,rfl,?_⟩
 refine zbv (fun c=>?_) (fun c=>?_)
 ·have c':k<((ns.map V.int).length:Nat):=of_decide_eq_true c
  rw[el] at c'
  obtain⟨v,hv⟩:=ae k k0 c'
  exact⟨_,rfl,_,rfl,sp,_,_,_,rfl,rfl,hS,hv,_,rfl,_,_,rfl,rfl,m0,q _ (Int.emod_nonneg _ (by omega)) (Int.emod_lt_of_pos _ m0)⟩
 refine⟨_,rfl,_,rfl,_,_,rfl,rfl,(by unfold CMul;omega),_,rfl,_,_,rfl,rfl,.inl ⟨by decide,by decide⟩,_,_,rfl,rfl,_,_,rfl,rfl,?_⟩
 refine⟨_,rfl,sp,_,rfl,.inl hS,_,_,rfl,rfl,_,rfl,?_⟩
 refine zbv (fun c2=>?_) (fun c2=>?_)
 ·have af:(0:Int)<((ns.map V.int).length:Nat):=of_decide_eq_true c2
  rw[el] at af
  have aj:0≤(5*k+2)%(ns.length:Int):=Int.emod_nonneg _ (by omega)
  have ai:(5*k+2)%(ns.length:Int)<ns.length:=Int.emod_lt_of_pos _ af
  obtain⟨v,hv⟩:=ae _ aj ai
  have v0:0≤v%2147483629:=Int.emod_nonneg _ (by decide)
  have v1:v%2147483629<2147483629:=Int.emod_lt_of_pos _ (by decide)
  refine⟨_,rfl,_,rfl,_,rfl,_,_,rfl,rfl,.inl ⟨by decide,by decide⟩,_,_,rfl,rfl,_,rfl,sp,_,rfl,.inl hS,_,_,rfl,rfl,(by rw[el];exact af),sp,_,_,_,rfl,rfl,hS,(by rw[el];exact hv),?_⟩
  refine⟨_,_,rfl,rfl,(by show(0:Int)<2147483629;decide),_,_,rfl,rfl,.inr ⟨by decide,by decide⟩,_,_,rfl,rfl,?_⟩
  exact r6 _ _ _ _ (by omega) (by omega)
 ·exact r6 _ _ _ _ (by omega) (by omega)
theorem zn3(T:Txt K mg a d):FnOk P w K mg base CX0 3 a.f_law_bough d.f_law_bough ["_law_state", "_law_up", "_law_kids"] (zu8 K):=by
 have ad:=zcf (P:=P) (w:=w) (base:=base) T
 refine T.K_law_bough.ok sc_law_bough (fun vs H Q E h=>?_) (fun cdv A outer s H vs Q E hr h=>?_)
 ·obtain⟨pen,sp,ns,tk,u,ae,m,k,rfl,_⟩:=h
  rfl
 obtain⟨pen,sp,ns,tk,u,ae,m,k,rfl,pn,k0,k1,hk,kl,u0,ak,ao,q⟩:=h
 have el:(ae.map V.int).length=ae.length:=List.length_map _
 have kp:=List.length_pos_iff.mpr ak
 have done:∀(lo hi k':Int)(H1:Hp),SameX pen H H1→H1 pen=some (.lst [.ref sp,.int k'])→k≤k'→k'≤k+3→0≤lo→lo≤hi→1≤hi→hi≤ae.length→∀tb,H1 tb=none→Q (.ref tb) (L2.upd H1 tb (.tup [.int u,.int lo,.int hi,.ref tk])):=by
  intro lo hi k' H1 sx hp al am l0 l1 h1 h2 tb af
  have s1:=zai af (.tup [.int u,.int lo,.int hi,.ref tk])
  refine q (zvk u lo hi ae) _ k' _ (sx.trans (Same.x s1)) (s1 _ _ hp) al am ?_ (zzq u0 ak ao l0 l1 h1 h2) (zqh _ _ _ _ (by omega)) (zup _ _ _ _)
  exact⟨tb,_,rfl,zaf,_,_,rfl,rfl,_,_,rfl,rfl,_,_,rfl,rfl,_,_,rfl,⟨tk,_,rfl,s1 _ _ (SameX.tup pn.at_ sx _ _ hk),zqi ae⟩,rfl⟩
 refine⟨_,(zae (zar (i:=3) sc_law_bough.nd rfl (Or.inl rfl) (zav (zcs (K:=K)) rfl T.m_len PySem.boot_len (zaa (pv 2) zab)))
   (zae (zar (i:=4) sc_law_bough.nd rfl (Or.inl rfl) (zac ad hr.lv rfl T.K_law_take (zaa (pv 0) (zaa zad zab))))
   (zae (za2 (zam zbh (pv 4) zad (zao _)) (zah (zak (za6 (zaa (pv 1) (zaa zad (zaa (pv 3) (zaa (pv 2) zab))))))) zat)
   (zae (za2 (zam zbh (pv 4) zad (zao _)) (zah (zak (za6 (zaa (pv 1) (zaa zad (zaa zad (zaa (pv 2) zab))))))) zat)
   (zae (za2 (zam zbh (pv 4) zad (zao _)) (zah (zak (za6 (zaa (pv 1) (zaa (pv 3) (zaa (pv 3) (zaa (pv 2) zab))))))) zat)
   (zae (zar (i:=5) sc_law_bough.nd rfl (Or.inl rfl) (zba zcr zad (zac ad hr.lv rfl T.K_law_take (zaa (pv 0) (zaa (pv 3) zab)))))
   (zah (zak (za6 (zaa (pv 1) (zaa (zac ad hr.lv rfl T.K_law_take (zaa (pv 0) (zaa (zba zcr (pv 5) zad) zab))) (zaa (pv 5) (zaa (pv 2) zab))))))))))))),?_⟩
 refine⟨_,rfl,tk,_,rfl,.inr (sqT hk),?_⟩
 rw[el]
 refine⟨_,rfl,pen,sp,ns,5,k,rfl,pn,by omega,by omega,by decide,fun w1 ar ap=>?_⟩
 have ah:=za1 (pen:=pen) (H:=H) (.lst [.ref sp,.int (k+1)])
 have g1:L2.upd H pen (.lst [.ref sp,.int (k+1)]) pen=some (.lst [.ref sp,.int (k+1)]):=zaf
 generalize L2.upd H pen (.lst [.ref sp,.int (k+1)])=H1 at ah g1 ⊢
 refine⟨_,rfl,rfl,_,rfl,?_⟩
 refine zbv (fun c=>?_) (fun c=>?_)
 ·refine⟨_,rfl,_,rfl,_,rfl,small (by show 4≤1000;decide),fun tb af=>?_⟩
  exact done 0 ae.length (k+1) H1 ah g1 (by omega) (by omega) (by omega) (by omega) (by omega) (by omega) tb af
 refine⟨_,rfl,rfl,_,rfl,?_⟩
 refine zbv (fun c2=>?_) (fun c2=>?_)
 ·refine⟨_,rfl,_,rfl,small (by show 4≤1000;decide),fun tb af=>?_⟩
  exact done 1 1 (k+1) H1 ah g1 (by omega) (by omega) (by omega) (by omega) (by omega) (by omega) tb af
 refine⟨_,rfl,rfl,_,rfl,?_⟩
 refine zbv (fun c3=>?_) (fun c3=>?_)
 ·refine⟨_,rfl,_,rfl,_,rfl,_,rfl,small (by show 4≤1000;decide),fun tb af=>?_⟩
  exact done ae.length ae.length (k+1) H1 ah g1 (by omega) (by omega) (by omega) (by omega) (by omega) (by omega) tb af
 refine⟨_,rfl,_,rfl,pen,sp,ns,_,k+1,rfl,pn.to ah g1,by omega,by omega,by omega,fun w2 aq av=>?_⟩
 have ai:=ah.trans (za1 (pen:=pen) (H:=H1) (.lst [.ref sp,.int (k+1+1)]))
 have g2:L2.upd H1 pen (.lst [.ref sp,.int (k+1+1)]) pen=some (.lst [.ref sp,.int (k+1+1)]):=zaf
 generalize L2.upd H1 pen (.lst [.ref sp,.int (k+1+1)])=H2 at ai g2 ⊢
 refine⟨_,_,rfl,rfl,_,rfl,_,rfl,_,rfl,_,_,rfl,rfl,pen,sp,ns,_,k+1+1,rfl,pn.to ai g2,by omega,by omega,by omega,fun w3 au aw=>?_⟩
 have aj:=ai.trans (za1 (pen:=pen) (H:=H2) (.lst [.ref sp,.int (k+1+1+1)]))
 have g3:L2.upd H2 pen (.lst [.ref sp,.int (k+1+1+1)]) pen=some (.lst [.ref sp,.int (k+1+1+1)]):=zaf
 generalize L2.upd H2 pen (.lst [.ref sp,.int (k+1+1+1)])=H3 at aj g3 ⊢
 refine⟨_,rfl,_,rfl,small (by show 4≤1000;decide),fun tb af=>?_⟩
 exact done w3 (1+w2) (k+1+1+1) H3 aj g3 (by omega) (by omega) (by omega) (by omega) (by omega) (by omega) tb af
theorem zl5(T:Txt K mg a d):FnOk P w K mg base CX0 5 a.f_law_boughs d.f_law_boughs ["_law_state", "_law_many"] (ztk K):=by
 have ad:=zcf (P:=P) (w:=w) (base:=base) T
 have ae:=zn3 (P:=P) (w:=w) (base:=base) T
 refine T.K_law_boughs.ok sc_law_boughs (fun vs H Q E h=>?_) (fun cdv A outer s H vs Q E hr h=>?_)
 ·obtain⟨pen,sp,ns,m,k,rfl,_⟩:=h
  rfl
 obtain⟨pen,sp,ns,m,k,rfl,pn,k0,k1,m1,m9,q⟩:=h
 have aE:(2:Int)^62=4611686018427387904:=by decide
 refine⟨_,(zae (zar (i:=2) sc_law_boughs.nd rfl (Or.inl rfl) (zc3 zab))
   (zae (zes PassesOwn.never rfl (zs4 rfl T.m_range (zaa zad (zaa (pv 1) zab))) (zaw (i:=3) sc_law_boughs.nd rfl (Or.inl rfl)) (zae (zar (i:=4) sc_law_boughs.nd rfl (Or.inr rfl) (zac ad hr.lv rfl T.K_law_take (zaa (pv 0) (zaa (pv 3) zab))))
   (zae (zg2 (i:=5) sc_law_boughs.nd rfl rfl rfl (N':=["_law_group", "_law_up"]) (n:=1) (kp:=[4]) rfl (piL (K:=K) (pv 2)) rfl rfl rfl (fun _ _ _ _ _=>(zaw (i:=0) (of_decide_eq_true rfl) rfl (Or.inl rfl))) (fun _ _ _ _ _=>(zb2 (zam zbh (zal (ixT (K:=K)) (pv 0) zad (fun _ _=>rfl)) (pv 1) (zao _)))) (fun _ _ _ _ _=>(pv 0)))
   (zah (za2 (PW.pt (zja (zam zhu (zav (zcs (K:=K)) rfl T.m_len PySem.boot_len (zaa (pv 5) zab)) zad (zao _)) (zhi (zam zhu (zac ad hr.lv rfl T.K_law_take (zaa (pv 0) (zaa zad zab))) zad (zao _))))) (zah (zea (zd0 (K:=K) PySem.F.plainAttrs_list PySem.F.slot_list_append PySem.F.type_list_append zec (zal (ixT (K:=K)) (zal (ixL (K:=K)) (pv 5) (zac ad hr.lv rfl T.K_law_take (zaa (pv 0) (zaa (zav (zcs (K:=K)) rfl T.m_len PySem.boot_len (zaa (pv 5) zab)) zab))) (fun _ _=>rfl)) zad (fun _ _=>rfl)) (zaa (pv 3) zab)))) (zah (zea (zd0 (K:=K) PySem.F.plainAttrs_list PySem.F.slot_list_insert PySem.F.type_list_insert zte (pv 2) (zaa (zac ad hr.lv rfl T.K_law_take (zaa (pv 0) (zaa (zba zcr (zav (zcs (K:=K)) rfl T.m_len PySem.boot_len (zaa (pv 2) zab)) zad) zab))) (zaa (za6 (zaa (pv 4) (zaa (zc3 (zaa (pv 3) zab)) zab))) zab))))))))))
   (zah (zak (zdc (N':=["_law_up", "_law_kids", "_law_state"]) (n:=2) (kp:=[0]) rfl (piL (K:=K) (pv 2)) rfl rfl rfl (fun _ _ _ _ _=>(pgT (K:=K) (n:=2) rfl (zbq (zaw (i:=0) (of_decide_eq_true rfl) rfl (Or.inl rfl)) (zbq (zaw (i:=1) (of_decide_eq_true rfl) rfl (Or.inl rfl)) zfu)))) (fun _ _ _ _ _=>zd9) (fun _ _ _ _ _=>(zac ae hr.lv rfl T.K_law_bough (zaa (pv 2) (zaa (pv 0) (zaa (zbn (zyz (K:=K)) rfl T.m_tuple PyProof.Rows.boot_tuple (zaa (pv 1) zab)) zab)))))))))),?_⟩
 refine⟨small (by decide),fun g hg=>?_⟩
 have aK:pen≠g:=zax pn.at_ hg
 refine⟨_,rfl,_,_,rfl,⟨by rw[aE];omega,by rw[aE];omega,by rw[aE];omega,by rw[aE];omega⟩,?_⟩
 obtain⟨Pv,aB⟩:∃Pv:Nat→St→Hp→Prop,∀i σ H2,Pv i σ H2↔(∃(v3 v4 v5:Option V)(gs:List Grp)(kk:Int),σ=[some (.ref pen),some (.int (m:Int)),some (.ref g),v3,v4,v5]∧SameX pen H H2∧H2 pen=some (.lst [.ref sp,.int kk])∧k≤kk∧kk≤k+4*i∧GAt H H2 g gs∧GOk ((i:Int)+1) gs):=⟨_,fun _ _ _=>Iff.rfl⟩
 refine zm1 (lo:=1) (n:=((m:Int)-1).toNat) Pv ((aB _ _ _).mpr ⟨none,none,none,[],k,rfl,Same.x (zai hg _),(zai hg _) _ _ pn.at_,Int.le_refl _,by omega,⟨zaf,hg,(fun _ z=>nomatch z),(fun _ z=>nomatch z),List.nodup_nil⟩,⟨(fun _ z=>nomatch z),List.Perm.refl _⟩⟩) ?_ ?_
 ·rintro i σ H2 hi aG
  obtain⟨v3,v4,v5,gs,kk,rfl,sx,aC,aZ,aT,GA,GK⟩:=(aB _ _ _).mp aG
  have few:=GK.few
  have i9:(i:Int)<9:=by omega
  have el:∀l:List Grp,(l.map fun x=>V.ref x.t).length=l.length:=fun l=>List.length_map _
  have e1:1+(i:Int)=(i:Int)+1:=by omega
  have e2:((i+1:Nat):Int)+1=(i:Int)+2:=by omega
  refine⟨_,rfl,_,rfl,pen,sp,ns,_,kk,rfl,pn.to sx aC,by omega,by omega,by omega,fun u u0 u1=>?_⟩
  have au:=sx.trans (za1 (pen:=pen) (H:=H2) (.lst [.ref sp,.int (kk+1)]))
  have aA:=GA.pen (ys:=[.ref sp,.int (kk+1)]) ⟨_,pn.at_⟩ aC
  have aL:L2.upd H2 pen (.lst [.ref sp,.int (kk+1)]) pen=some (.lst [.ref sp,.int (kk+1)]):=zaf
  generalize L2.upd H2 pen (.lst [.ref sp,.int (kk+1)])=H4 at au aA aL ⊢
  refine⟨_,rfl,g,rfl,⟨_,SqL.of aA.at_⟩,?_⟩
  refine zcw (K:=K) (a:=g) (xs:=gs.map fun x=>V.ref x.t) (fun j ys σ H5=>(∃v,σ=[v,some (.int u)])∧H5=H4∧ys=((gs.take j).filter fun x=>decide (x.up=u)).map fun x=>V.ref x.t) ⟨⟨none,rfl⟩,rfl,rfl⟩ (fun j ys σ H5 hj pv=>?_) (fun j ys σ H5 hj pv=>?_) (fun j x ys σ H5 hx pv=>?_) (fun ys σ H5 pv ol aO=>?_)
  ·obtain⟨_,_,rfl⟩:=pv
   rw[el]
   have:=List.length_filter_le (fun x:Grp=>decide (x.up=u)) (gs.take j)
   rw[List.length_take] at this
   exact small (by omega)
  ·rw[pv.2.1]
   exact SqL.of aA.at_
  ·obtain⟨⟨v,rfl⟩,rfl,rfl⟩:=pv
   rw[List.getElem?_map] at hx
   obtain⟨y,hy,rfl⟩:=Option.map_eq_some_iff.mp hx
   have et:gs.take (j+1)=gs.take j++[y]:=by rw[List.take_add_one,hy,Option.toList_some]
   refine⟨_,rfl,y.t,_,_,_,rfl,rfl,sqT (aA.tup y (List.mem_of_getElem? hy)),at0,_,rfl,rfl,_,rfl,?_⟩
   by_cases cc:y.up=u
   ·refine zdl (by rw[cc]) ?_
    refine⟨_,rfl,⟨_,rfl⟩,rfl,?_⟩
    rw[et,List.filter_append,List.filter_cons_of_pos (by simpa using cc),List.map_append]
    rfl
   ·refine zbm (fun z=>cc (by injection z)) ?_
    refine⟨⟨_,rfl⟩,rfl,?_⟩
    rw[et,List.filter_append,List.filter_cons_of_neg (by simpa using cc),List.filter_nil,List.append_nil]
  obtain⟨_,rfl,rfl⟩:=pv
  have aN:ol≠pen:=Ne.symm (zax aL aO)
  rw[el,List.take_length] at *
  generalize ay:gs.filter (fun x=>decide (x.up=u))=old at *
  have aI:∀x∈old,x∈gs:=fun x hx=>by rw[←ay] at hx;exact(List.mem_filter.mp hx).1
  have bj:old.length≤gs.length:=by rw[←ay];exact List.length_filter_le _ _
  have s6:=zai aO (.lst (old.map fun x=>V.ref x.t))
  have aw:=aA.same s6
  have ar:=s6 _ _ aL
  have ax:=au.trans (Same.x s6)
  have ao:L2.upd H5 ol (.lst (old.map fun x=>V.ref x.t)) ol=some (.lst (old.map fun x=>V.ref x.t)):=zaf
  generalize L2.upd H5 ol (.lst (old.map fun x=>V.ref x.t))=H7 at s6 aw ar ax ao ⊢
  refine⟨_,rfl,ol,_,rfl,.inl (SqL.of ao),_,_,rfl,rfl,_,rfl,?_⟩
  rw[el]
  have new:∀(k3:Int)(H8:Hp)(v5:Option V),k≤k3→k3≤k+4*i+4→SameX pen H H8→H8 pen=some (.lst [.ref sp,.int k3])→GAt H H8 g gs→∀(nl nt:Addr)(j:Nat),H8 nl=none→L2.upd H8 nl (.lst [.int (1+(i:Int))]) nt=none→j≤gs.length →
    Pv (i+1) [some (.ref pen),some (.int (m:Int)),some (.ref g),some (.int (1+(i:Int))),some (.int u),v5] (L2.upd (L2.upd (L2.upd H8 nl (.lst [.int (1+(i:Int))])) nt (.tup [.int u,.ref nl])) g (.lst ((gs.map fun x=>V.ref x.t).take j++V.ref nt::(gs.map fun x=>V.ref x.t).drop j))):=by
   intro k3 H8 v5 aX bi ah ai af nl nt j aj al hj
   have s9:=(zai aj (.lst [.int (1+(i:Int))])).trans (zai al (.tup [.int u,.ref nl]))
   rw[←List.map_take,←List.map_drop]
   refine(aB _ _ _).mpr ⟨_,_,_,gs.take j++⟨nt,u,nl,[1+(i:Int)]⟩::gs.drop j,k3,rfl,SameX.put (ah.trans (Same.x s9)) hg (Ne.symm aK) (s9 _ _ af.at_),?_,aX,by push_cast;omega,?_,?_⟩
   ·rw[zaq aK]
    exact s9 _ _ ai
   ·exact GAt.ins (pre:=gs.take j) (post:=gs.drop j) (by rw[List.take_append_drop];exact af) (ah.free ⟨_,ai⟩ aj) aj al
   ·rw[e2,e1]
    exact GOk.ins (k:=i) (by rw[List.take_append_drop];exact GK) u0 (by omega)
  by_cases c5:old=[]
  ·refine ze2 (by rw[c5];rfl) ?_
   refine zga ?_
   refine⟨_,rfl,.inl ⟨rfl,_,SqL.of aw.at_⟩,_,rfl,_,rfl,g,_,rfl,.inl (SqL.of aw.at_),?_⟩
   refine⟨_,_,rfl,rfl,pen,sp,ns,_,kk+1,rfl,pn.to ax ar,by omega,by omega,(by rw[el];omega),fun j j0 j1=>?_⟩
   rw[el] at j1
   have ah:=ax.trans (za1 (pen:=pen) (.lst [.ref sp,.int (kk+1+1)]))
   have af:=aw.pen (ys:=[.ref sp,.int (kk+1+1)]) ⟨_,pn.at_⟩ ar
   have ai:L2.upd H7 pen (.lst [.ref sp,.int (kk+1+1)]) pen=some (.lst [.ref sp,.int (kk+1+1)]):=zaf
   generalize L2.upd H7 pen (.lst [.ref sp,.int (kk+1+1)])=H8 at ah af ai ⊢
   refine⟨_,rfl,_,rfl,small (by show 1≤1000;decide),fun nl aj=>?_⟩
   refine⟨small (by show 2≤1000;decide),fun nt al=>?_⟩
   have s9:=(zai aj (.lst [.int (1+(i:Int))])).trans (zai al (.tup [.int u,.ref nl]))
   refine⟨g,_,_,_,rfl,rfl,s9 _ _ af.at_,j0,(by rw[el];omega),(by rw[el];exact zb0 (by omega)),?_⟩
   exact new (kk+1+1) H8 _ (by omega) (by omega) ah ai af nl nt j.toNat aj al (by omega)
  ·have bg:0<old.length:=List.length_pos_iff.mpr c5
   refine zit (decide_eq_true (show((old.length:Nat):Int)>0 by omega)) ?_
   refine⟨_,rfl,pen,sp,ns,3,kk+1,rfl,pn.to ax ar,by omega,by omega,by decide,fun e e0 bh=>?_⟩
   have ah:=ax.trans (za1 (pen:=pen) (.lst [.ref sp,.int (kk+1+1)]))
   have af:=aw.pen (ys:=[.ref sp,.int (kk+1+1)]) ⟨_,pn.at_⟩ ar
   have ai:L2.upd H7 pen (.lst [.ref sp,.int (kk+1+1)]) pen=some (.lst [.ref sp,.int (kk+1+1)]):=zaf
   have am:L2.upd H7 pen (.lst [.ref sp,.int (kk+1+1)]) ol=some (.lst (old.map fun x=>V.ref x.t)):=by rw[zaq aN];exact ao
   generalize L2.upd H7 pen (.lst [.ref sp,.int (kk+1+1)])=H8 at ah af ai am ⊢
   refine⟨_,_,rfl,rfl,_,rfl,?_⟩
   refine zbv (fun c6=>?_) (fun c6=>?_)
   ·refine⟨_,rfl,_,rfl,_,rfl,ol,_,rfl,.inl (SqL.of am),?_⟩
    rw[el]
    refine⟨pen,sp,ns,_,kk+1+1,rfl,pn.to ah ai,by omega,by omega,by omega,fun jj j0 j1=>?_⟩
    obtain⟨jn,rfl⟩:∃jn:Nat,jj=(jn:Int):=⟨jj.toNat,by omega⟩
    have aq:=ah.trans (za1 (pen:=pen) (.lst [.ref sp,.int (kk+1+1+1)]))
    have ak:=af.pen (ys:=[.ref sp,.int (kk+1+1+1)]) ⟨_,pn.at_⟩ ai
    have aD:L2.upd H8 pen (.lst [.ref sp,.int (kk+1+1+1)]) pen=some (.lst [.ref sp,.int (kk+1+1+1)]):=zaf
    have az:L2.upd H8 pen (.lst [.ref sp,.int (kk+1+1+1)]) ol=some (.lst (old.map fun x=>V.ref x.t)):=by rw[zaq aN];exact am
    generalize L2.upd H8 pen (.lst [.ref sp,.int (kk+1+1+1)])=H9 at aq ak aD az ⊢
    obtain⟨x,aQ⟩:∃x,old[jn]?=some x:=⟨_,List.getElem?_eq_getElem (by omega)⟩
    have hx:=aI x (List.mem_of_getElem? aQ)
    obtain⟨pre,post,aJ⟩:=List.append_of_mem hx
    have ty:=ak.tup x hx
    have ly:=ak.lst x hx
    refine⟨ol,_,_,.ref x.t,rfl,rfl,SqL.of az,zcx (by rw[List.getElem?_map,aQ];rfl),x.t,_,_,_,rfl,rfl,sqT ty,at1,.inl ⟨rfl,_,SqL.of ly.1⟩,_,rfl,x.l,_,_,rfl,rfl,ly.1,?_,?_⟩
    ·have h1:=GK.perm.length_eq
     rw[List.length_map,List.length_range',aJ,List.flatMap_append,List.flatMap_cons,List.length_append,List.length_append] at h1
     rw[List.length_map]
     exact zb0 (by omega)
    have G9:GAt H _ g _:=GAt.put (k:=1+(i:Int)) (pre:=pre) (post:=post) (x:=x) (by rw[←aJ];exact ak)
    refine(aB _ _ _).mpr ⟨_,_,_,_,kk+1+1+1,rfl,SameX.put aq ly.2.1 (fun z=>by have:=pn.at_;rw[←z,ly.2.1] at this;cases this) ly.1,?_,by omega,by push_cast;omega,G9,?_⟩
    ·rw[zaq (fun z=>by have:=pn.at_;rw[z,ly.2.1] at this;cases this)]
     exact aD
    ·rw[e2,e1]
     exact GOk.put (k:=i) (by rw[←aJ];exact GK)
   ·refine⟨_,rfl,.inl ⟨rfl,_,SqL.of af.at_⟩,_,rfl,_,rfl,g,_,rfl,.inl (SqL.of af.at_),?_⟩
    refine⟨_,_,rfl,rfl,pen,sp,ns,_,kk+1+1,rfl,pn.to ah ai,by omega,by omega,(by rw[el];omega),fun j j0 j1=>?_⟩
    rw[el] at j1
    have aq:=ah.trans (za1 (pen:=pen) (.lst [.ref sp,.int (kk+1+1+1)]))
    have ak:=af.pen (ys:=[.ref sp,.int (kk+1+1+1)]) ⟨_,pn.at_⟩ ai
    have aD:L2.upd H8 pen (.lst [.ref sp,.int (kk+1+1+1)]) pen=some (.lst [.ref sp,.int (kk+1+1+1)]):=zaf
    generalize L2.upd H8 pen (.lst [.ref sp,.int (kk+1+1+1)])=H9 at aq ak aD ⊢
    refine⟨_,rfl,_,rfl,small (by show 1≤1000;decide),fun nl aj=>?_⟩
    refine⟨small (by show 2≤1000;decide),fun nt al=>?_⟩
    have ba:=(zai aj (.lst [.int (1+(i:Int))])).trans (zai al (.tup [.int u,.ref nl]))
    refine⟨g,_,_,_,rfl,rfl,ba _ _ ak.at_,j0,(by rw[el];omega),(by rw[el];exact zb0 (by omega)),?_⟩
    exact new (kk+1+1+1) H9 _ (by omega) (by omega) aq aD ak nl nt j.toNat aj al (by omega)
 ·rintro σ H2 aG
  obtain⟨v3,v4,v5,gs,kk,rfl,sx,aC,aZ,aT,GA,GK⟩:=(aB _ _ _).mp aG
  have em:(((m:Int)-1).toNat:Int)+1=(m:Int):=by omega
  rw[em] at GK
  have few:=GK.few
  have el:(gs.map fun x=>V.ref x.t).length=gs.length:=List.length_map _
  refine⟨_,rfl,g,rfl,⟨_,SqL.of GA.at_⟩,?_⟩
  refine zcw (K:=K) (a:=g) (xs:=gs.map fun x=>V.ref x.t) (fun j ys σ H3=>(∃v v',σ=[v,v',some (.ref pen)])∧SameX pen H2 H3∧∃(kc:Int)(bs:List PyData),H3 pen=some (.lst [.ref sp,.int kc])∧kk≤kc∧kc≤kk+3*j∧DnL H3 bs ys∧bs.length=j∧(∀b∈bs,zf9 m b=true)∧bs.flatMap zok=(gs.take j).flatMap (·.kids)∧bs.all (zbd 3)=true) ⟨⟨none,none,rfl⟩,SameX.refl _ _,kk,[],aC,Int.le_refl _,by omega,rfl,rfl,(fun _ z=>nomatch z),rfl,rfl⟩ (fun j ys σ H3 hj pv=>?_) (fun j ys σ H3 hj pv=>?_) (fun j y ys σ H3 hy pv=>?_) (fun ys σ H3 pv l1 aM=>?_)
  ·obtain⟨_,_,kc,bs,_,_,_,dn,ln,_⟩:=pv
   rw[←dn.length,ln]
   exact small (by rw[el] at hj;omega)
  ·exact SqL.of (pv.2.1 _ _ (Ne.symm aK) GA.at_)
  ·obtain⟨⟨v,v',rfl⟩,ap,kc,bs,av,aW,aR,dn,ln,aH,ki,fl⟩:=pv
   rw[List.getElem?_map] at hy
   obtain⟨x,aF,rfl⟩:=Option.map_eq_some_iff.mp hy
   have hm:=List.mem_of_getElem? aF
   have hj:j<gs.length:=(List.getElem?_eq_some_iff.mp aF).1
   have lx:=GA.lst x hm
   have aV:x.l≠pen:=fun z=>by have:=pn.at_;rw[←z,lx.2.1] at this;cases this
   have aY:=ap _ _ aV lx.1
   have gx:=GK.each x hm
   have kl:x.kids.length≤9:=by
    have pk:=GK.perm.length_eq
    rw[List.length_map,List.length_range'] at pk
    obtain⟨l1,l2,e⟩:=List.append_of_mem hm
    rw[e,List.flatMap_append,List.flatMap_cons,List.length_append,List.length_append] at pk
    omega
   refine⟨x.t,_,rfl,sqT ((SameX.tup aC ap) _ _ (GA.tup x hm)),rfl,_,_,rfl,_,_,rfl,rfl,?_⟩
   refine⟨_,rfl,_,rfl,_,rfl,x.l,_,rfl,.inl ⟨SqL.of aY,fun tk aU=>?_⟩⟩
   have s4:=zai aU (.tup (x.kids.map V.int))
   have g4:L2.upd H3 tk (.tup (x.kids.map V.int)) tk=some (.tup (x.kids.map V.int)):=zaf
   have aS:=DnL.same s4 _ _ dn
   generalize L2.upd H3 tk (.tup (x.kids.map V.int))=H4 at s4 g4 aS ⊢
   have au:=ap.trans (Same.x s4)
   refine⟨pen,sp,ns,tk,x.up,x.kids,(m:Int),kc,rfl,pn.to (sx.trans au) (s4 _ _ av),by omega,by omega,g4,kl,gx.1,gx.2.1,gx.2.2,fun d v k' H5 aP be bf bo dv bd fd kd=>?_⟩
   refine⟨⟨_,_,rfl⟩,au.trans aP,k',bs++[d],be,by omega,by push_cast;omega,(DnL.tupS (SameX.tup (s4 _ _ av) aP) fl aS).append ⟨v,[],rfl,dv,rfl⟩,by rw[List.length_append,List.length_singleton,ln],fun b hb=>?_,?_,?_⟩
   ·rcases List.mem_append.mp hb with z|z
    ·exact aH b z
    ·rw[List.mem_singleton.mp z]
     exact bd
   ·rw[List.flatMap_append,ki,znr aF]
    simp[kd]
   ·rw[List.all_append,fl]
    simp[fd]
  ·obtain⟨_,ap,kc,bs,av,aW,aR,dn,ln,aH,ki,fl⟩:=pv
   rw[el] at ln aR ki
   rw[List.take_length] at ki
   have s4:=zai aM (.lst ys)
   exact q l1 bs ys kc _ ((sx.trans ap).trans (Same.x s4)) (s4 _ _ av) (by omega) (by omega) zaf ((sx.trans ap).free ⟨_,av⟩ aM) (DnL.same s4 _ _ dn) ⟨aH,by rw[ki];exact GK.perm⟩ (by omega) fl
theorem zpa(T:Txt K mg a d):FnOk P w K mg base CX0 2 a.f_law_most d.f_law_most ["_law_state", "_law_many"] (zp7 K):=by
 have ad:=zcf (P:=P) (w:=w) (base:=base) T
 refine T.K_law_most.ok sc_law_most (fun vs H Q E h=>?_) (fun cdv A outer s H vs Q E hr h=>?_)
 ·obtain⟨pen,sp,ns,m,k,rfl,_⟩:=h
  rfl
 obtain⟨pen,sp,ns,m,k,rfl,pn,k0,k1,m1,m9,q⟩:=h
 have aC:(2:Int)^62=4611686018427387904:=by decide
 have am:(2:Int)^64=18446744073709551616:=by decide
 obtain⟨aQ,aK,aO⟩:=zxm (X:=(zci CX0 P w K mg base ["_law_state", "_law_many", "_law_far", "_law_pairs", "_law_k"] "_law_most" (zag zen) a.f_law_most cdv A outer s H E).nox) (st:=(za8 zen).drop 4) (zah (zak (za6 (zaa za3 (zaa (zba zg4 (pv 2) (zba zh9 (zac ad hr.lv rfl T.K_law_take (zaa (pv 0) (zaa zad zab))) zad)) (zaa (zbn zbr rfl T.m_tuple PyProof.Rows.boot_tuple (zaa (pv 3) zab)) zab))))))
 refine⟨_,(zae (zar (i:=2) sc_law_most.nd rfl (Or.inl rfl) (zal (ixL (K:=K)) (zc3 (zaa zad (zaa (zba zzn zad zad) zab))) (zbn zmt rfl T.m_int PyProof.Rows.boot_int (zaa (zbp zbh (zac ad hr.lv rfl T.K_law_take (zaa (pv 0) (zaa zad zab))) zad (zao _)) zab)) (fun _ _=>rfl)))
   (zae (zar (i:=3) sc_law_most.nd rfl (Or.inl rfl) (zc3 zab))
   (zae (zes PassesOwn.never rfl (zco rfl T.m_range (zaa (pv 1) zab)) (zaw (i:=4) sc_law_most.nd rfl (Or.inl rfl)) (zah (za2 (zam zbh (zac ad hr.lv rfl T.K_law_take (zaa (pv 0) (zaa zad zab))) zad (zao _)) (zah (zea (zd0 (K:=K) PySem.F.plainAttrs_list PySem.F.slot_list_append PySem.F.type_list_append zec (pv 3) (zaa (za6 (zaa (pv 4) (zaa (zba zg4 (pv 2) (zba zh9 (zac ad hr.lv rfl T.K_law_take (zaa (pv 0) (zaa zad zab))) zad)) zab))) zab)))) zat)))
   (zae (za2 (zam zbh (zav (zcs (K:=K)) rfl T.m_len PySem.boot_len (zaa (pv 3) zab)) zad (zao _)) (zah (zea (zd0 (K:=K) PySem.F.plainAttrs_list PySem.F.slot_list_append PySem.F.type_list_append zec (pv 3) (zaa (za6 (zaa (zac ad hr.lv rfl T.K_law_take (zaa (pv 0) (zaa (pv 1) zab))) (zaa (zba zg4 (pv 2) (zba zh9 (zac ad hr.lv rfl T.K_law_take (zaa (pv 0) (zaa zad zab))) zad)) zab))) zab)))) zat)
   aK)))),?_⟩
 refine⟨_,_,rfl,rfl,⟨by decide,by decide,by decide⟩,small (by show 2≤1000;decide),fun fl ay=>?_⟩
 have sf:=zai ay (.lst [.int 1,.int (10^(58:Int).toNat)])
 have gf:L2.upd H fl (.lst [.int 1,.int (10^(58:Int).toNat)]) fl=some (.lst [.int 1,.int (10^(58:Int).toNat)]):=zaf
 have aA:=pn.same sf
 have x1:=Same.x (pen:=pen) sf
 have aM:fl≠pen:=fun z=>by rw[z,pn.at_] at ay;cases ay
 generalize L2.upd H fl (.lst [.int 1,.int (10^(58:Int).toNat)])=H1 at sf gf aA x1 ⊢
 refine⟨_,rfl,pen,sp,ns,6,k,rfl,aA,by omega,by omega,by decide,fun w1 aR aS=>?_⟩
 have x2:=x1.trans (za1 (pen:=pen) (H:=H1) (.lst [.ref sp,.int (k+1)]))
 have g2:L2.upd H1 pen (.lst [.ref sp,.int (k+1)]) pen=some (.lst [.ref sp,.int (k+1)]):=zaf
 have aI:L2.upd H1 pen (.lst [.ref sp,.int (k+1)]) fl=some (.lst [.int 1,.int (10^(58:Int).toNat)]):=by rw[zaq aM];exact gf
 generalize L2.upd H1 pen (.lst [.ref sp,.int (k+1)])=H2 at x2 g2 aI ⊢
 refine⟨rfl,.inr ⟨_,rfl,?_⟩⟩
 obtain⟨ae,aJ⟩:∃ae:Int,atI [V.int 1,V.int (10^(58:Int).toNat)] (if decide (V.int w1=V.int 0)=true then 1 else 0)=some (.int ae):=by
  split
  ·exact⟨_,rfl⟩
  ·exact⟨_,rfl⟩
 refine⟨fl,_,_,_,rfl,rfl,SqL.of aI,aJ,?_⟩
 refine⟨small (by show 0≤1000;decide),fun pl au=>?_⟩
 have s3:=zai au (.lst [])
 have g3:L2.upd H2 pl (.lst []) pl=some (.lst []):=zaf
 have aB:=s3 _ _ g2
 have ai:pl≠pen:=fun z=>by rw[z,g2] at au;cases au
 have aG:H pl=none:=x2.free ⟨_,g2⟩ au
 generalize L2.upd H2 pl (.lst [])=H3 at s3 g3 aB ⊢
 have x3:=x2.trans (Same.x (pen:=pen) s3)
 have tail:∀(v4:Option V)(kc:Int)(ps:List PyData)(xs:List V)(H4:Hp),SameX pen H H4→H4 pen=some (.lst [.ref sp,.int kc])→k≤kc→kc≤k+25→H4 pl=some (.lst xs)→PairsTo H4 m ps xs→0<ps.length→aQ { nx:=fun _ H'=>Q .non H',rt:=Q } [some (.ref pen),some (.int (m:Int)),some (.int ae),some (.ref pl),v4] H4:=by
  intro v4 kc ps xs H4 x4 al aE aD ak pt p0
  refine aO _ _ _ ?_
  refine⟨_,rfl,_,rfl,pen,sp,ns,24,kc,rfl,pn.to x4 al,by omega,by omega,by decide,fun y y0 y1=>?_⟩
  have af:=za1 (pen:=pen) (H:=H4) (.lst [.ref sp,.int (kc+1)])
  have x5:=x4.trans af
  have g5:L2.upd H4 pen (.lst [.ref sp,.int (kc+1)]) pen=some (.lst [.ref sp,.int (kc+1)]):=zaf
  have ah:L2.upd H4 pen (.lst [.ref sp,.int (kc+1)]) pl=some (.lst xs):=by rw[zaq ai];exact ak
  have ao:=pt.tupS (SameX.tup al af)
  generalize L2.upd H4 pen (.lst [.ref sp,.int (kc+1)])=H5 at x5 g5 ah ao af ⊢
  refine⟨_,_,rfl,rfl,_,_,rfl,rfl,.inr ⟨by rw[am];omega,by rw[am];omega⟩,_,rfl,pl,_,rfl,.inl ⟨SqL.of ah,fun tk aN=>?_⟩⟩
  refine⟨small (by show 3≤1000;decide),fun tt aP=>?_⟩
  have sa:=zai aN (.tup xs)
  have sb:=zai aP (.tup [.str ("most" : Str),.int (ae*(y-4)),.ref tk])
  have aw:=sa.trans sb
  have fw:=pt.few
  exact q (.tuple [.str ("most" : Str),.int (ae*(y-4)),.tuple ps]) _ (kc+1) _ (x5.trans (Same.x aw)) (aw _ _ g5) (by omega) (by omega) ⟨tt,_,rfl,zaf,_,_,rfl,rfl,_,_,rfl,rfl,_,_,rfl,⟨tk,_,rfl,sb _ _ zaf,DnL.same aw _ _ ao.dn⟩,rfl⟩ (zvb pt.ok pt.ris p0) (znf (m:=m) pt.flat (by omega))
 refine⟨_,rfl,_,rfl,by rw[aC];omega,by rw[aC];omega,?_⟩
 rw[Int.toNat_natCast]
 refine zh7 (n:=m) (fun i σ H4=>∃(v4:Option V)(kc:Int)(ps:List PyData)(xs:List V),σ=[some (.ref pen),some (.int (m:Int)),some (.int ae),some (.ref pl),v4]∧SameX pen H H4∧H4 pen=some (.lst [.ref sp,.int kc])∧k≤kc∧kc≤k+1+2*i∧H4 pl=some (.lst xs)∧PairsTo H4 i ps xs) ⟨none,k+1,[],[],rfl,x3,aB,by omega,by omega,g3,⟨rfl,rfl,rfl,rfl,Nat.le_refl _⟩⟩ ?_ ?_
 ·rintro i σ H4 hi ⟨v4,kc,ps,xs,rfl,x4,al,aE,aD,ak,pt⟩
  refine⟨_,rfl,pen,sp,ns,2,kc,rfl,pn.to x4 al,by omega,by omega,by decide,fun y y0 y1=>?_⟩
  have af:=za1 (pen:=pen) (H:=H4) (.lst [.ref sp,.int (kc+1)])
  have x5:=x4.trans af
  have g5:L2.upd H4 pen (.lst [.ref sp,.int (kc+1)]) pen=some (.lst [.ref sp,.int (kc+1)]):=zaf
  have ah:L2.upd H4 pen (.lst [.ref sp,.int (kc+1)]) pl=some (.lst xs):=by rw[zaq ai];exact ak
  have ao:=pt.tupS (SameX.tup al af)
  generalize L2.upd H4 pen (.lst [.ref sp,.int (kc+1)])=H5 at x5 g5 ah ao af ⊢
  refine⟨rfl,_,rfl,?_⟩
  refine zbv (fun _=>?_) (fun _=>?_)
  ·refine⟨_,rfl,.inl ⟨rfl,_,SqL.of ah⟩,_,rfl,_,rfl,_,rfl,pen,sp,ns,12,kc+1,rfl,pn.to x5 g5,by omega,by omega,by decide,fun z z0 z1=>?_⟩
   have ap:=za1 (pen:=pen) (H:=H5) (.lst [.ref sp,.int (kc+1+1)])
   have x6:=x5.trans ap
   have g6:L2.upd H5 pen (.lst [.ref sp,.int (kc+1+1)]) pen=some (.lst [.ref sp,.int (kc+1+1)]):=zaf
   have aq:L2.upd H5 pen (.lst [.ref sp,.int (kc+1+1)]) pl=some (.lst xs):=by rw[zaq ai];exact ah
   have aF:=ao.tupS (SameX.tup g5 ap)
   generalize L2.upd H5 pen (.lst [.ref sp,.int (kc+1+1)])=H6 at x6 g6 aq aF ap ⊢
   refine⟨_,_,rfl,rfl,_,_,rfl,rfl,.inr ⟨by rw[am];omega,by rw[am];omega⟩,small (by show 2≤1000;decide),fun tp ax=>?_⟩
   have s7:=zai ax (.tup [.int (i:Int),.int (ae*(z-3))])
   have g7:L2.upd H6 tp (.tup [.int (i:Int),.int (ae*(z-3))]) tp=some (.tup [.int (i:Int),.int (ae*(z-3))]):=zaf
   have aj:=s7 _ _ aq
   have aH:=(aF.tupS (Same.tup s7)).snoc g7
   have ar:=s7 _ _ g6
   have x7:=x6.trans (Same.x (pen:=pen) s7)
   generalize L2.upd H6 tp (.tup [.int (i:Int),.int (ae*(z-3))])=H7 at s7 aj aH ar x7 g7 ⊢
   have lx:=pt.dn.length
   have fw:=pt.few
   refine⟨pl,_,_,rfl,rfl,aj,zb0 (by omega),?_⟩
   have av:=zpv (o':=.lst (xs++[.ref tp])) aj (fun _ z=>nomatch z)
   refine⟨_,kc+1+1,_,_,rfl,SameX.put x7 aG ai aj,?_,by omega,by push_cast;omega,zaf,aH.tupS av⟩
   rw[zaq (Ne.symm ai)]
   exact ar
  ·exact⟨_,kc+1,ps,xs,rfl,x5,g5,by omega,by push_cast;omega,ah,ao.up⟩
 ·rintro σ H4 ⟨v4,kc,ps,xs,rfl,x4,al,aE,aD,ak,pt⟩
  have lx:=pt.dn.length
  refine⟨_,rfl,pl,_,rfl,.inl (SqL.of ak),rfl,_,rfl,?_⟩
  by_cases e:xs=[]
  ·refine zdl (by rw[e];rfl) ?_
   have az:H4 pl=some (.lst []):=by rw[ak,e]
   refine⟨_,rfl,.inl ⟨rfl,_,SqL.of ak⟩,_,rfl,_,rfl,pen,sp,ns,(m:Int),kc,rfl,pn.to x4 al,by omega,by omega,by omega,fun y y0 y1=>?_⟩
   have af:=za1 (pen:=pen) (H:=H4) (.lst [.ref sp,.int (kc+1)])
   have x5:=x4.trans af
   have g5:L2.upd H4 pen (.lst [.ref sp,.int (kc+1)]) pen=some (.lst [.ref sp,.int (kc+1)]):=zaf
   have ah:L2.upd H4 pen (.lst [.ref sp,.int (kc+1)]) pl=some (.lst []):=by rw[zaq ai];exact az
   generalize L2.upd H4 pen (.lst [.ref sp,.int (kc+1)])=H5 at x5 g5 ah af ⊢
   refine⟨_,rfl,_,rfl,pen,sp,ns,12,kc+1,rfl,pn.to x5 g5,by omega,by omega,by decide,fun z z0 z1=>?_⟩
   have ap:=za1 (pen:=pen) (H:=H5) (.lst [.ref sp,.int (kc+1+1)])
   have x6:=x5.trans ap
   have g6:L2.upd H5 pen (.lst [.ref sp,.int (kc+1+1)]) pen=some (.lst [.ref sp,.int (kc+1+1)]):=zaf
   have aq:L2.upd H5 pen (.lst [.ref sp,.int (kc+1+1)]) pl=some (.lst []):=by rw[zaq ai];exact ah
   generalize L2.upd H5 pen (.lst [.ref sp,.int (kc+1+1)])=H6 at x6 g6 aq ap ⊢
   refine⟨_,_,rfl,rfl,_,_,rfl,rfl,.inr ⟨by rw[am];omega,by rw[am];omega⟩,small (by show 2≤1000;decide),fun tp ax=>?_⟩
   have s7:=zai ax (.tup [.int y,.int (ae*(z-3))])
   have g7:L2.upd H6 tp (.tup [.int y,.int (ae*(z-3))]) tp=some (.tup [.int y,.int (ae*(z-3))]):=zaf
   have aj:=s7 _ _ aq
   have ar:=s7 _ _ g6
   have x7:=x6.trans (Same.x (pen:=pen) s7)
   generalize L2.upd H6 tp (.tup [.int y,.int (ae*(z-3))])=H7 at s7 aj ar x7 g7 ⊢
   refine⟨pl,_,_,rfl,rfl,aj,zb0 (by decide),?_⟩
   have av:=zpv (o':=.lst ([]++[.ref tp])) aj (fun _ z=>nomatch z)
   refine tail _ (kc+1+1) [.tuple [.int y,.int (ae*(z-3))]] [.ref tp] _ (SameX.put x7 aG ai aj) ?_ (by omega) (by omega) zaf (zt6 y0 y1 (av _ _ g7)) (by show 0<1;decide)
   rw[zaq (Ne.symm ai)]
   exact ar
  ·refine zbm (fun z=>?_) ?_
   ·injection z with z
    exact e (List.length_eq_zero_iff.mp (by omega))
   have aL:=List.length_pos_iff.mpr e
   exact tail _ kc ps xs H4 x4 al (by omega) (by omega) ak pt (by omega)
theorem znq(T:Txt K mg a d):FnOk P w K mg base CX0 3 a.f_law_cross d.f_law_cross ["_law_state", "_law_many"] (zu6 K):=by
 have ad:=zcf (P:=P) (w:=w) (base:=base) T
 have ae:=zpa (P:=P) (w:=w) (base:=base) T
 refine T.K_law_cross.ok sc_law_cross (fun vs H Q E h=>?_) (fun cdv A outer s H vs Q E hr h=>?_)
 ·obtain⟨pen,sp,ns,m,k,rfl,_⟩:=h
  rfl
 obtain⟨pen,sp,ns,m,k,rfl,pn,k0,k1,m1,m9,q⟩:=h
 refine⟨_,(zae (za2 (PW.pt (zkp (zam zbh (pv 1) zad (zao _)) (zjl (zam zbh (zac ad hr.lv rfl T.K_law_take (zaa (pv 0) (zaa zad zab))) zad (zao _))))) (zah (zak (zac ae hr.lv rfl T.K_law_most (zaa (pv 0) (zaa (pv 1) zab))))) zat)
   (zae (zar (i:=2) sc_law_cross.nd rfl (Or.inl rfl) (zac ad hr.lv rfl T.K_law_take (zaa (pv 0) (zaa (pv 1) zab))))
   (zae (zar (i:=3) sc_law_cross.nd rfl (Or.inl rfl) (zba zh5 (zba zcr (zba zcr (pv 2) zad) (zac ad hr.lv rfl T.K_law_take (zaa (pv 0) (zaa (zba zh9 (pv 1) zad) zab)))) (pv 1)))
   (zah (zak (za6 (zaa (zal (ixL (K:=K)) (zc3 (zaa za3 (zaa za3 zab))) (zac ad hr.lv rfl T.K_law_take (zaa (pv 0) (zaa zad zab))) (fun _ _=>rfl)) (zaa (pv 2) (zaa (pv 3) zab))))))))),?_⟩
 have af:∀(kc:Int)(H1:Hp),SameX pen H H1→H1 pen=some (.lst [.ref sp,.int kc])→k≤kc→kc≤k+1→zue (zp7 K) [] E0 (zvd (zxd 0) (zvd (zxd 1) zz9)) [some (.ref pen),some (.int (m:Int)),none,none] H1 Q:=by
  intro kc H1 x1 ap az ay
  exact⟨_,rfl,_,rfl,pen,sp,ns,m,kc,rfl,pn.to x1 ap,by omega,by omega,m1,m9,fun c v k' H' x' al ax aB dv ti fd=>q c v k' H' (x1.trans x') al (by omega) (by omega) dv ti fd⟩
 refine⟨_,rfl,rfl,_,rfl,?_⟩
 by_cases e:m=1
 ·refine zdl (by rw[e];rfl) ?_
  exact af k H (SameX.refl _ _) pn.at_ (by omega) (by omega)
 ·refine zbm (fun z=>?_) ?_
  ·injection z with z
   omega
  refine⟨_,rfl,pen,sp,ns,3,k,rfl,pn,by omega,by omega,by decide,fun y y0 y1=>?_⟩
  have x1:=za1 (pen:=pen) (H:=H) (.lst [.ref sp,.int (k+1)])
  have g1:L2.upd H pen (.lst [.ref sp,.int (k+1)]) pen=some (.lst [.ref sp,.int (k+1)]):=zaf
  generalize L2.upd H pen (.lst [.ref sp,.int (k+1)])=H1 at x1 g1 ⊢
  refine⟨rfl,_,rfl,?_⟩
  refine zbv (fun _=>?_) (fun _=>?_)
  ·exact af (k+1) H1 x1 g1 (by omega) (by omega)
  refine⟨_,rfl,_,rfl,pen,sp,ns,(m:Int),k+1,rfl,pn.to x1 g1,by omega,by omega,by omega,fun one o0 o1=>?_⟩
  have x2:=x1.trans (za1 (pen:=pen) (H:=H1) (.lst [.ref sp,.int (k+1+1)]))
  have g2:L2.upd H1 pen (.lst [.ref sp,.int (k+1+1)]) pen=some (.lst [.ref sp,.int (k+1+1)]):=zaf
  generalize L2.upd H1 pen (.lst [.ref sp,.int (k+1+1)])=H2 at x2 g2 ⊢
  refine⟨_,rfl,_,_,rfl,rfl,_,rfl,_,rfl,_,_,rfl,rfl,pen,sp,ns,(m:Int)-1,k+1+1,rfl,pn.to x2 g2,by omega,by omega,by omega,fun x x0 aA=>?_⟩
  have x3:=x2.trans (za1 (pen:=pen) (H:=H2) (.lst [.ref sp,.int (k+1+1+1)]))
  have g3:L2.upd H2 pen (.lst [.ref sp,.int (k+1+1+1)]) pen=some (.lst [.ref sp,.int (k+1+1+1)]):=zaf
  generalize L2.upd H2 pen (.lst [.ref sp,.int (k+1+1+1)])=H3 at x3 g3 ⊢
  refine⟨_,_,rfl,rfl,_,rfl,_,_,rfl,rfl,(by show(0:Int)<m;omega),?_⟩
  refine⟨small (by show 2≤1000;decide),fun lp ah=>?_⟩
  have s4:=zai ah (.lst [.str ("needs" : Str),.str ("bans" : Str)])
  have g4:L2.upd H3 lp (.lst [.str ("needs" : Str),.str ("bans" : Str)]) lp=some (.lst [.str ("needs" : Str),.str ("bans" : Str)]):=zaf
  have ak:=s4 _ _ g3
  have au:lp≠pen:=fun z=>by rw[z,g3] at ah;cases ah
  have x4:=x3.trans (Same.x (pen:=pen) s4)
  generalize L2.upd H3 lp (.lst [.str ("needs" : Str),.str ("bans" : Str)])=H4 at s4 g4 ak x4 ⊢
  refine⟨_,rfl,pen,sp,ns,2,k+1+1+1,rfl,pn.to x4 ak,by omega,by omega,by decide,fun ai w0 w1=>?_⟩
  have x5:=x4.trans (za1 (pen:=pen) (H:=H4) (.lst [.ref sp,.int (k+1+1+1+1)]))
  have g5:L2.upd H4 pen (.lst [.ref sp,.int (k+1+1+1+1)]) pen=some (.lst [.ref sp,.int (k+1+1+1+1)]):=zaf
  have aj:L2.upd H4 pen (.lst [.ref sp,.int (k+1+1+1+1)]) lp=some (.lst [.str ("needs" : Str),.str ("bans" : Str)]):=by rw[zaq au];exact g4
  generalize L2.upd H4 pen (.lst [.ref sp,.int (k+1+1+1+1)])=H5 at x5 g5 aj ⊢
  obtain⟨sN,sk,ar,aw,am⟩:∃sN:Str,(sN=("needs" : Str)∨sN=("bans" : Str))∧¬sN=("most" : Str)∧PyData.strOk sN=true∧atI ([.str ("needs" : Str),.str ("bans" : Str)]:List V) ai=some (.str sN):=by
   have e:ai=0∨ai=1:=by omega
   rcases e with e|e<;>rw[e]
   ·exact⟨_,.inl rfl,by decide +kernel,zjr,rfl⟩
   ·exact⟨_,.inr rfl,by decide +kernel,zk6,rfl⟩
  refine⟨lp,_,_,_,rfl,rfl,SqL.of aj,am,_,rfl,_,rfl,small (by show 3≤1000;decide),fun tp aq=>?_⟩
  obtain⟨av,aC,ao⟩:=zv6 (many:=m) (by omega) (by omega) o0 o1 x0 (by omega)
  have st:=zai aq (.tup [.str sN,.int one,.int ((one+1+x)%(m:Int))])
  refine q (.tuple [.str sN,.int one,.int ((one+1+x)%(m:Int))]) _ (k+1+1+1+1) _ (x5.trans (Same.x st)) (st _ _ g5) (by omega) (by omega) ⟨tp,_,rfl,zaf,_,_,rfl,rfl,_,_,rfl,rfl,_,_,rfl,rfl,rfl⟩ ?_ ?_
  ·show zti m sN _ _=true
   unfold zti
   rw[if_neg ar,if_pos sk]
   show((decide ((0:Int)≤_)&&decide (_≤(m:Int)-1))&&((decide ((0:Int)≤_)&&decide (_≤(m:Int)-1))&&!decide (_=_)))=true
   rw[decide_eq_true o0,decide_eq_true (by omega),decide_eq_true av,decide_eq_true (by omega),decide_eq_false ao]
   rfl
  ·show(true&&(zbd 2 (.str sN)&&(true&&(true&&true))))=true
   rw[show zbd 2 (.str sN)=true from aw]
   rfl
theorem zqg(T:Txt K mg a d):FnOk P w K mg base CX0 6 a.f_law_wood d.f_law_wood ["_law_state"] (zw3 K):=by
 have ad:=zcf (P:=P) (w:=w) (base:=base) T
 have ae:=zl5 (P:=P) (w:=w) (base:=base) T
 have af:=znq (P:=P) (w:=w) (base:=base) T
 refine T.K_law_wood.ok sc_law_wood (fun vs H Q E h=>?_) (fun cdv A outer s H vs Q E hr h=>?_)
 ·obtain⟨pen,sp,ns,k,rfl,_⟩:=h
  rfl
 obtain⟨pen,sp,ns,k,rfl,pn,k0,k1,q⟩:=h
 have aw:(2:Int)^62=4611686018427387904:=by decide
 obtain⟨aL,aQ,aD⟩:=zxm (X:=(zci CX0 P w K mg base ["_law_state", "_law_many", "_law_boughs_here", "_law_count"] "_law_wood" (zag zcj) a.f_law_wood cdv A outer s H E).nox) (st:=(za8 zcj).drop 5) (zah (zak (za6 (zaa (pv 1) (zaa (zbn zbr rfl T.m_tuple PyProof.Rows.boot_tuple (zaa (pv 2) zab)) (zaa (zbn zbr rfl T.m_tuple PyProof.Rows.boot_tuple (zaa (zdc (N':=["_law_k", "_law_state", "_law_many"]) (n:=1) (kp:=[0,1]) rfl (zco rfl T.m_range (zaa (pv 3) zab)) rfl rfl rfl (fun _ _ _ _ _=>(zaw (i:=0) (of_decide_eq_true rfl) rfl (Or.inl rfl))) (fun _ _ _ _ _=>zd9) (fun _ _ _ _ _=>(zac af hr.lv rfl T.K_law_cross (zaa (pv 1) (zaa (pv 2) zab))))) zab)) zab))))))
 have last:∀(m:Nat)(l:Addr)(bs:List PyData)(xs:List V)(n:Int)(k1:Int)(H1:Hp),SameX pen H H1→H1 pen=some (.lst [.ref sp,.int k1])→k≤k1→k1≤k+95→1≤m→m≤9→H1 l=some (.lst xs)→DnL H1 bs xs→zug m bs→bs.length≤8→bs.all (zbd 3)=true→0≤n→n≤8→aL { nx:=fun _ H'=>Q .non H',rt:=Q } [some (.ref pen),some (.int (m:Int)),some (.ref l),some (.int n)] H1:=by
  intro m l bs xs n k1 H1 x1 ak aJ aO m1 m9 aG dn gb b8 fb n0 n8
  refine aD _ _ _ ?_
  refine⟨_,rfl,_,rfl,l,_,rfl,.inl ⟨SqL.of aG,fun t1 aR=>?_⟩⟩
  have s2:=zai aR (.tup xs)
  have g2:L2.upd H1 t1 (.tup xs) t1=some (.tup xs):=zaf
  have ah:=s2 _ _ ak
  have x2:=x1.trans (Same.x (pen:=pen) s2)
  have d2:=DnL.same s2 _ _ dn
  generalize L2.upd H1 t1 (.tup xs)=H2 at s2 g2 ah x2 d2 ⊢
  refine⟨_,rfl,_,rfl,by rw[aw];omega,by rw[aw];omega,?_⟩
  refine zed (k:=n.toNat) (fun i ys σ H3=>(∃v,σ=[v,some (.ref pen),some (.int (m:Int))])∧SameX pen H2 H3∧∃(kc:Int)(cs:List PyData),H3 pen=some (.lst [.ref sp,.int kc])∧k1≤kc∧kc≤k1+31*i∧DnL H3 cs ys∧cs.length=i∧(∀c∈cs,zk0 m c=true)∧cs.all (zbd 3)=true) ⟨⟨none,rfl⟩,SameX.refl _ _,k1,[],ah,by omega,by omega,rfl,rfl,(fun _ z=>nomatch z),rfl⟩ (fun i ys σ H3 hi pv=>?_) (fun i ys σ H3 hi pv=>?_) (fun ys σ H3 pv cl aS=>?_)
  ·obtain⟨_,_,kc,cs,_,_,_,dc,ln,_⟩:=pv
   rw[←dc.length,ln]
   exact small (by omega)
  ·obtain⟨⟨v,rfl⟩,x3,kc,cs,al,aM,aK,dc,ln,ar,fc⟩:=pv
   refine⟨_,rfl,_,rfl,pen,sp,ns,m,kc,rfl,pn.to (x2.trans x3) al,by omega,by omega,m1,m9,fun c v k' H4 x4 am aW aX dv ti fd=>?_⟩
   refine⟨⟨_,rfl⟩,x3.trans x4,k',cs++[c],am,by omega,by push_cast;omega,(DnL.tupS (SameX.tup al x4) fc dc).append ⟨v,[],rfl,dv,rfl⟩,by rw[List.length_append,List.length_singleton,ln],fun b hb=>?_,?_⟩
   ·rcases List.mem_append.mp hb with z|z
    ·exact ar b z
    ·rw[List.mem_singleton.mp z]
     exact ti
   ·rw[List.all_append,fc]
    simp[fd]
  obtain⟨_,x3,kc,cs,al,aM,aK,dc,ln,ar,fc⟩:=pv
  have s4:=zai aS (.lst ys)
  have g4:L2.upd H3 cl (.lst ys) cl=some (.lst ys):=zaf
  have am:=s4 _ _ al
  have tS:=zc2 (SameX.tup ah x3) (Same.tup s4)
  have az:=DnL.same s4 _ _ dc
  have x4:=(x2.trans x3).trans (Same.x (pen:=pen) s4)
  generalize L2.upd H3 cl (.lst ys)=H4 at s4 g4 am tS az x4 ⊢
  refine⟨cl,_,rfl,.inl ⟨SqL.of g4,fun t2 aN=>?_⟩⟩
  have s5:=zai aN (.tup ys)
  refine⟨small (by show 3≤1000;decide),fun wd aI=>?_⟩
  have s6:=zai aI (.tup [.int (m:Int),.ref t1,.ref t2])
  have ai:=s5.trans s6
  exact q wd m bs cs kc _ (x4.trans (Same.x ai)) (ai _ _ am) (by omega) (by omega) m1 m9 ⟨⟨xs,ys,⟨t1,t2,zaf,ai _ _ (tS _ _ g2),s6 _ _ zaf⟩,DnL.same ai _ _ (DnL.tupS tS fb d2),DnL.same ai _ _ az⟩,gb,ar,by omega,by omega,fb,fc,m1,m9⟩ (by omega)
 obtain⟨aH,aE,aT⟩:=zxm (X:=(zci CX0 P w K mg base ["_law_state", "_law_many", "_law_boughs_here", "_law_count"] "_law_wood" (zag zcj) a.f_law_wood cdv A outer s H E).nox) (st:=(za8 zcj).drop 2) (zae (zar (i:=2) sc_law_wood.nd rfl (Or.inl rfl) (zac ae hr.lv rfl T.K_law_boughs (zaa (pv 0) (zaa (pv 1) zab))))
   (zae (zar (i:=3) sc_law_wood.nd rfl (Or.inl rfl) (zac ad hr.lv rfl T.K_law_take (zaa (pv 0) (zaa zad zab))))
   (zae (za2 (zam zbh (zac ad hr.lv rfl T.K_law_take (zaa (pv 0) (zaa zad zab))) zad (zao _)) (zah (zar (i:=3) sc_law_wood.nd rfl (Or.inl rfl) (zac ad hr.lv rfl T.K_law_take (zaa (pv 0) (zaa (zal (ixL (K:=K)) (zc3 (zaa zad (zaa zad zab))) (zbn zmt rfl T.m_int PyProof.Rows.boot_int (zaa (zbp zhu (pv 1) zad (zao _)) zab)) (fun _ _=>rfl)) zab))))) zat)
   aQ)))
 have ax:∀(m:Nat)(k1:Int)(H1:Hp),SameX pen H H1→H1 pen=some (.lst [.ref sp,.int k1])→k≤k1→k1≤k+3→1≤m→m≤9→aH { nx:=fun _ H'=>Q .non H',rt:=Q } [some (.ref pen),some (.int (m:Int)),none,none] H1:=by
  intro m k1 H1 x1 ak aJ aO m1 m9
  refine aT _ _ _ ?_
  refine⟨_,rfl,_,rfl,pen,sp,ns,m,k1,rfl,pn.to x1 ak,by omega,by omega,m1,m9,fun l bs xs k2 H2 x2 ah aV aU aF nl dn gb b8 fb=>?_⟩
  have au:l≠pen:=fun z=>by rw[z,ak] at nl;cases nl
  refine⟨_,rfl,pen,sp,ns,4,k2,rfl,pn.to (x1.trans x2) ah,by omega,by omega,by decide,fun c c0 c1=>?_⟩
  have aj:=za1 (pen:=pen) (H:=H2) (.lst [.ref sp,.int (k2+1)])
  have g3:L2.upd H2 pen (.lst [.ref sp,.int (k2+1)]) pen=some (.lst [.ref sp,.int (k2+1)]):=zaf
  have aA:L2.upd H2 pen (.lst [.ref sp,.int (k2+1)]) l=some (.lst xs):=by rw[zaq au];exact aF
  have d3:=DnL.tupS (SameX.tup ah aj) fb dn
  generalize L2.upd H2 pen (.lst [.ref sp,.int (k2+1)])=H3 at aj g3 aA d3 ⊢
  refine⟨_,rfl,pen,sp,ns,4,k2+1,rfl,pn.to ((x1.trans x2).trans aj) g3,by omega,by omega,by decide,fun e e0 e1=>?_⟩
  have ap:=za1 (pen:=pen) (H:=H3) (.lst [.ref sp,.int (k2+1+1)])
  have g4:L2.upd H3 pen (.lst [.ref sp,.int (k2+1+1)]) pen=some (.lst [.ref sp,.int (k2+1+1)]):=zaf
  have aq:L2.upd H3 pen (.lst [.ref sp,.int (k2+1+1)]) l=some (.lst xs):=by rw[zaq au];exact aA
  have d4:=DnL.tupS (SameX.tup g3 ap) fb d3
  generalize L2.upd H3 pen (.lst [.ref sp,.int (k2+1+1)])=H4 at ap g4 aq d4 ⊢
  have x4:=((x1.trans x2).trans aj).trans ap
  refine⟨rfl,_,rfl,?_⟩
  refine zbv (fun _=>?_) (fun _=>?_)
  ·refine⟨_,rfl,small (by show 2≤1000;decide),fun fl aP=>?_⟩
   have s5:=zai aP (.lst [.int 9,.int 7])
   have g5:L2.upd H4 fl (.lst [.int 9,.int 7]) fl=some (.lst [.int 9,.int 7]):=zaf
   have ao:=s5 _ _ g4
   have ay:=s5 _ _ aq
   have d5:=DnL.same s5 _ _ d4
   have x5:=x4.trans (Same.x (pen:=pen) s5)
   generalize L2.upd H4 fl (.lst [.int 9,.int 7])=H5 at s5 g5 ao ay d5 x5 ⊢
   refine⟨_,rfl,_,_,rfl,rfl,.inr ⟨_,rfl,?_⟩⟩
   obtain⟨top,aC,t0,t9⟩:∃top:Int,atI [V.int 9,V.int 7] (if decide ((m:Int)>6)=true then 1 else 0)=some (.int top)∧0<top∧top≤9:=by
    split
    ·exact⟨_,rfl,by decide,by decide⟩
    ·exact⟨_,rfl,by decide,by decide⟩
   refine⟨fl,_,_,_,rfl,rfl,SqL.of g5,aC,pen,sp,ns,top,k2+1+1,rfl,pn.to x5 ao,by omega,by omega,t0,fun y y0 y1=>?_⟩
   have av:=za1 (pen:=pen) (H:=H5) (.lst [.ref sp,.int (k2+1+1+1)])
   have g6:L2.upd H5 pen (.lst [.ref sp,.int (k2+1+1+1)]) pen=some (.lst [.ref sp,.int (k2+1+1+1)]):=zaf
   have aB:L2.upd H5 pen (.lst [.ref sp,.int (k2+1+1+1)]) l=some (.lst xs):=by rw[zaq au];exact ay
   have d6:=DnL.tupS (SameX.tup ao av) fb d5
   generalize L2.upd H5 pen (.lst [.ref sp,.int (k2+1+1+1)])=H6 at av g6 aB d6 ⊢
   exact last m l bs xs y _ H6 (x5.trans av) g6 (by omega) (by omega) m1 m9 aB d6 gb b8 fb y0 (by omega)
  ·exact last m l bs xs c _ H4 x4 g4 (by omega) (by omega) m1 m9 aq d4 gb b8 fb c0 (by omega)
 refine⟨_,(zae (zar (i:=1) sc_law_wood.nd rfl (Or.inr rfl) (zba zcr zad (zac ad hr.lv rfl T.K_law_take (zaa (pv 0) (zaa zad zab)))))
   (zae (za2 (zam zbh (zac ad hr.lv rfl T.K_law_take (zaa (pv 0) (zaa zad zab))) zad (zao _)) (zah (zar (i:=1) sc_law_wood.nd rfl (Or.inr rfl) (zba zcr zad (zac ad hr.lv rfl T.K_law_take (zaa (pv 0) (zaa zad zab)))))) zat)
   aE)),?_⟩
 refine⟨_,rfl,pen,sp,ns,6,k,rfl,pn,k0,by omega,by decide,fun c c0 c1=>?_⟩
 refine⟨_,_,rfl,rfl,?_⟩
 have x1:=za1 (pen:=pen) (H:=H) (.lst [.ref sp,.int (k+1)])
 have h1:L2.upd H pen (.lst [.ref sp,.int (k+1)]) pen=some (.lst [.ref sp,.int (k+1)]):=zaf
 generalize L2.upd H pen (.lst [.ref sp,.int (k+1)])=H1 at x1 h1 ⊢
 refine⟨_,rfl,pen,sp,ns,8,k+1,rfl,pn.to x1 h1,by omega,by omega,by decide,fun e e0 e1=>?_⟩
 have x2:=x1.trans (za1 (pen:=pen) (H:=H1) (.lst [.ref sp,.int (k+1+1)]))
 have h2:L2.upd H1 pen (.lst [.ref sp,.int (k+1+1)]) pen=some (.lst [.ref sp,.int (k+1+1)]):=zaf
 generalize L2.upd H1 pen (.lst [.ref sp,.int (k+1+1)])=H2 at x2 h2 ⊢
 refine⟨rfl,_,rfl,?_⟩
 refine zbv (fun _=>?_) (fun _=>?_)
 ·refine⟨_,rfl,pen,sp,ns,3,k+1+1,rfl,pn.to x2 h2,by omega,by omega,by decide,fun g g0 g1=>?_⟩
  refine⟨_,_,rfl,rfl,?_⟩
  have x3:=x2.trans (za1 (pen:=pen) (H:=H2) (.lst [.ref sp,.int (k+1+1+1)]))
  have h3:L2.upd H2 pen (.lst [.ref sp,.int (k+1+1+1)]) pen=some (.lst [.ref sp,.int (k+1+1+1)]):=zaf
  have t:=ax (7+g).toNat _ _ x3 h3 (by omega) (by omega) (by omega) (by omega)
  rw[show(((7+g).toNat:Nat):Int)=7+g by omega] at t
  exact t
 ·have t:=ax (1+c).toNat _ _ x2 h2 (by omega) (by omega) (by omega) (by omega)
  rw[show(((1+c).toNat:Nat):Int)=1+c by omega] at t
  exact t
theorem zkq(T:Txt K mg a d):FnOk P w K mg base CX0 1 a.f_law_has d.f_law_has ["_law_some", "_law_k"] zyu:=by
 refine T.K_law_has.ok zrm (fun vs H Q E h=>?_) (fun cdv A outer s H vs Q E hr h=>?_)
 ·obtain⟨n,k,rfl,_⟩:=h
  rfl
 obtain⟨n,k,rfl,k9,q⟩:=h
 have pk:=zp3 k
 refine⟨_,(zah (zak (zbp zbh (zba zh5 (zba zxx (pv 0) (zba znu zad (pv 1))) zad) zad (zao _)))),?_⟩
 refine⟨_,rfl,_,rfl,_,_,rfl,rfl,⟨by omega,by omega,by decide⟩,_,_,rfl,rfl,?_,_,_,rfl,rfl,(by show(0:Int)<2;decide),rfl,?_⟩
 ·have ae:2^k≤2^20:=Nat.pow_le_pow_right (by decide) k9
  have ad:(2:Nat)^20=1048576:=by decide
  show zyo _ _
  unfold zyo
  rw[zs8]
  omega
 ·have e:decide ((fun i j:Int=>V.int (i%j)) ((n:Int)/(1*(2:Int)^((k:Nat):Int).toNat)) 2=V.int 1)=n.testBit k:=by
   rw[zs8]
   exact zxh n k
  rw[e]
  exact q
theorem zmc(T:Txt K mg a d):FnOk P w K mg base CX0 2 a.f_law_barred d.f_law_barred ["_law_state", "_law_wood_here"] (zxb K):=by
 have ad:=zcf (P:=P) (w:=w) (base:=base) T
 refine T.K_law_barred.ok sc_law_barred (fun vs H Q E h=>?_) (fun cdv A outer s H vs Q E hr h=>?_)
 ·obtain⟨pen,sp,ns,k,wd,tb,tc,m,L,C,rfl,_⟩:=h
  rfl
 obtain⟨pen,sp,ns,k,wd,tb,tc,m,L,C,rfl,pn,k0,k1,W,q⟩:=h
 have aA:(2:Int)^62=4611686018427387904:=by decide
 have m1:=W.m1
 have m9:=W.m9
 refine⟨_,(zae (za2 (zam zhu (zac ad hr.lv rfl T.K_law_take (zaa (pv 0) (zaa zad zab))) zad (zao _)) (zah (zak (pv 1))) zat)
   (zae (zar (i:=2) sc_law_barred.nd rfl (Or.inl rfl) (za6 (zaa za3 (zaa zad (zaa (za6 (zaa (za6 (zaa (zac ad hr.lv rfl T.K_law_take (zaa (pv 0) (zaa (zal (ixT (K:=K)) (pv 1) zad (fun _ _=>rfl)) zab))) (zaa (zba zcr zad (zac ad hr.lv rfl T.K_law_take (zaa (pv 0) (zaa zad zab)))) zab))) zab)) zab)))))
   (zah (zak (za6 (zaa (zal (ixT (K:=K)) (pv 1) zad (fun _ _=>rfl)) (zaa (zal (ixT (K:=K)) (pv 1) zad (fun _ _=>rfl)) (zaa (zba zqm (zkw zol (zal (ixT (K:=K)) (pv 1) zad (fun _ _=>rfl)) znl (zov zad)) (za6 (zaa (pv 2) zab))) zab)))))))),?_⟩
 refine⟨_,rfl,pen,sp,ns,3,k,rfl,pn,by omega,by omega,by decide,fun w1 aE aF=>?_⟩
 have x1:=za1 (pen:=pen) (H:=H) (.lst [.ref sp,.int (k+1)])
 have g1:L2.upd H pen (.lst [.ref sp,.int (k+1)]) pen=some (.lst [.ref sp,.int (k+1)]):=zaf
 generalize L2.upd H pen (.lst [.ref sp,.int (k+1)])=H1 at x1 g1 ⊢
 have W1:=W.tupS (SameX.tup pn.at_ x1)
 have al:=pn.to x1 g1
 refine⟨_,_,rfl,rfl,_,rfl,?_⟩
 refine zbv (fun c=>?_) (fun c=>?_)
 ·exact⟨_,rfl,q wd tc C (k+1) H1 x1 g1 (by omega) (by omega) W1⟩
 refine⟨_,rfl,_,rfl,wd,_,_,_,rfl,rfl,sqT W1.at_,at0,pen,sp,ns,m,k+1,rfl,al,by omega,by omega,by omega,fun w2 ax aC=>?_⟩
 have x2:=x1.trans (za1 (pen:=pen) (H:=H1) (.lst [.ref sp,.int (k+1+1)]))
 have g2:L2.upd H1 pen (.lst [.ref sp,.int (k+1+1)]) pen=some (.lst [.ref sp,.int (k+1+1)]):=zaf
 generalize L2.upd H1 pen (.lst [.ref sp,.int (k+1+1)])=H2 at x2 g2 ⊢
 have am:=pn.to x2 g2
 refine⟨_,rfl,pen,sp,ns,5,k+1+1,rfl,am,by omega,by omega,by decide,fun w3 aB aG=>?_⟩
 have x3:=x2.trans (za1 (pen:=pen) (H:=H2) (.lst [.ref sp,.int (k+1+1+1)]))
 have g3:L2.upd H2 pen (.lst [.ref sp,.int (k+1+1+1)]) pen=some (.lst [.ref sp,.int (k+1+1+1)]):=zaf
 generalize L2.upd H2 pen (.lst [.ref sp,.int (k+1+1+1)])=H3 at x3 g3 ⊢
 refine⟨_,_,rfl,rfl,small (by show 2≤1000;decide),fun t1 ay=>?_⟩
 have s4:=zai ay (.tup [.int w2,.int (1+w3)])
 have g4:L2.upd H3 t1 (.tup [.int w2,.int (1+w3)]) t1=some (.tup [.int w2,.int (1+w3)]):=zaf
 generalize L2.upd H3 t1 (.tup [.int w2,.int (1+w3)])=H4 at s4 g4 ⊢
 refine⟨small (by show 1≤1000;decide),fun t2 ar=>?_⟩
 have s5:=zai ar (.tup [.ref t1])
 have g5:L2.upd H4 t2 (.tup [.ref t1]) t2=some (.tup [.ref t1]):=zaf
 generalize L2.upd H4 t2 (.tup [.ref t1])=H5 at s5 g5 ⊢
 refine⟨small (by show 3≤1000;decide),fun t3 aw=>?_⟩
 have s6:=zai aw (.tup [.str ("most" : Str),.int 0,.ref t2])
 have g6:L2.upd H5 t3 (.tup [.str ("most" : Str),.int 0,.ref t2]) t3=some (.tup [.str ("most" : Str),.int 0,.ref t2]):=zaf
 generalize L2.upd H5 t3 (.tup [.str ("most" : Str),.int 0,.ref t2])=H6 at s6 g6 ⊢
 have ai:=(s4.trans s5).trans s6
 have x6:=x3.trans (Same.x ai)
 have W6:=W.tupS (SameX.tup pn.at_ x6)
 obtain⟨yc,av,dC⟩:=W6.cs
 have aD:yc.length=C.length:=by rw[←dC.length,List.length_map]
 have fc:=W.fewc
 refine⟨_,rfl,wd,_,_,_,rfl,rfl,sqT W6.at_,at0,_,rfl,wd,_,_,_,rfl,rfl,sqT W6.at_,at1,_,rfl,wd,_,_,_,rfl,rfl,sqT W6.at_,at2,_,rfl,tc,yc,rfl,av,fun t4 H7 s7 ak=>?_⟩
 have e7:zkd yc none (some 7)=yc.take 7:=by
  by_cases z:7≤yc.length
  ·exact zqz yc 7 z
  ·unfold zkd
   rw[show(some 7:Option Int)=some ((7:Nat):Int) from rfl,HT.sIx_nat,HT.sIx_none,List.drop_zero,Nat.sub_zero,Nat.min_eq_right (by omega),List.take_of_length_le (Nat.le_refl _),List.take_of_length_le (by omega)]
 rw[e7] at ak
 refine⟨_,rfl,small (by show 1≤1000;decide),fun t5 au=>?_⟩
 have s8:=zai au (.tup [.ref t3])
 have g8:L2.upd H7 t5 (.tup [.ref t3]) t5=some (.tup [.ref t3]):=zaf
 generalize L2.upd H7 t5 (.tup [.ref t3])=H8 at s8 g8 ⊢
 refine⟨t4,t5,_,_,rfl,rfl,s8 _ _ ak,g8,small (by rw[List.length_take];show _+1≤1000;omega),fun t6 H9 s9 ao=>?_⟩
 refine⟨small (by show 3≤1000;decide),fun aj af=>?_⟩
 have ah:=zai af (.tup [.int (m:Int),.ref tb,.ref t6])
 have ae:=((s7.trans s8).trans s9).trans ah
 have ap:=x6.trans (Same.x ae)
 have az:=s9.trans ah
 have WE:=W6.same ae
 obtain⟨n2,e2⟩:=Int.eq_ofNat_of_zero_le ax
 have aq:L2.upd H9 aj (.tup [.int (m:Int),.ref tb,.ref t6]) pen=some (.lst [.ref sp,.int (k+1+1+1)]):=ae _ _ (ai _ _ g3)
 refine q aj t6 (C.take 7++[.most 0 [(n2,1+w3)]]) (k+1+1+1) _ ap aq (by omega) (by omega) ⟨zaf,WE.bs,⟨_,ah _ _ ao,?_⟩,W.okb,fun t ht=>?_,fun t ht=>?_,m1,m9,W.fewb,by rw[List.length_append,List.length_take];show _+1≤20;omega⟩
 ·rw[List.map_append,List.map_take]
  refine(DnL.take 7 (DnL.same ae _ _ dC)).append ?_
  refine⟨_,_,rfl,⟨t3,_,rfl,ae _ _ g6,_,_,rfl,rfl,_,_,rfl,rfl,_,_,rfl,⟨t2,_,rfl,ae _ _ (s6 _ _ g5),_,_,rfl,⟨t1,_,rfl,ae _ _ (s6 _ _ (s5 _ _ g4)),_,_,rfl,by rw[e2];rfl,_,_,rfl,rfl,rfl⟩,rfl⟩,rfl⟩,rfl⟩
 ·rcases List.mem_append.mp ht with z|z
  ·exact W.okc t (List.mem_of_mem_take z)
  ·rw[List.mem_singleton.mp z]
   refine⟨List.cons_ne_nil _ _,fun p hp=>?_,List.pairwise_singleton _ _,by show 1≤m;exact m1⟩
   rw[List.mem_singleton.mp hp]
   show n2<m
   omega
 ·rcases List.mem_append.mp ht with z|z
  ·exact W.nb t (List.mem_of_mem_take z)
  ·rw[List.mem_singleton.mp z]
   intro u lo hi ks e
   cases e
theorem zrt(T:Txt K mg a d):FnOk P w K mg base CX0 2 a.f_law_old d.f_law_old ["_law_kept", "_law_some"] zzh:=by
 have ad:=zkq (P:=P) (w:=w) (base:=base) T
 refine T.K_law_old.ok zq3 (fun vs H Q E h=>?_) (fun cdv A outer s H vs Q E hr h=>?_)
 ·obtain⟨lk,kept,n,rfl,_⟩:=h
  rfl
 obtain⟨lk,kept,n,rfl,ae,k9,ai,q⟩:=h
 have af:(2:Int)^62=4611686018427387904:=by decide
 have ah:(zaj kept).length=kept.length:=List.length_map _
 refine⟨_,(zah (zak (zav (zdr rfl) rfl T.m_sum PyProof.Rows.boot_sum (zaa (zdc (N':=["_law_k", "_law_kept", "_law_some"]) (n:=1) (kp:=[0,1]) rfl (zco rfl T.m_range (zaa (zav (zcs (K:=K)) rfl T.m_len PySem.boot_len (zaa (pv 0) zab)) zab)) rfl rfl rfl (fun _ _ _ _ _=>(zaw (i:=0) (of_decide_eq_true rfl) rfl (Or.inl rfl))) (fun _ _ _ _ _=>(zb2 (zbx (zac ad hr.lv rfl T.K_law_has (zaa (pv 2) (zaa (pv 0) zab)))))) (fun _ _ _ _ _=>(zba znu zad (zal (ixL (K:=K)) (pv 1) (pv 0) (fun _ _=>rfl))))) zab)))),?_⟩
 refine⟨_,rfl,lk,_,rfl,.inl (SqL.of ae),_,rfl,by rw[af];omega,by rw[af];omega,?_⟩
 rw[Int.toNat_natCast,ah]
 refine zed (k:=kept.length) (fun i zs σ H2=>(∃v,σ=[v,some (.ref lk),some (.int (n:Int))])∧H2=H∧∃ns:List Int,zs=ns.map V.int∧ns.sum=(zht kept n i:Int)∧ns.length≤i) ⟨⟨none,rfl⟩,rfl,[],rfl,rfl,Nat.le_refl _⟩ (fun i zs σ H2 hi pv=>?_) (fun i zs σ H2 hi pv=>?_) (fun zs σ H2 pv l hl=>?_)
 ·obtain⟨_,_,ns,rfl,_,nl⟩:=pv
  rw[List.length_map]
  exact small (by omega)
 ·obtain⟨⟨v,rfl⟩,rfl,ns,rfl,es,nl⟩:=pv
  have ki:kept[i]?=some kept[i]:=List.getElem?_eq_getElem hi
  have eo:∀z,n.testBit i=z→zht kept n (i+1)=zht kept n i+(if z=true then 2^kept[i] else 0):=fun z hz=>by
   show zht kept n i+(if n.testBit i=true then 2^(kept.getD i 0) else 0)=_
   rw[hz,zcy hi]
  refine⟨_,rfl,_,rfl,n,i,rfl,by omega,_,rfl,?_⟩
  refine zbv (fun c=>?_) (fun c=>?_)
  ·have:=ai _ (List.getElem_mem hi)
   refine⟨_,rfl,_,rfl,lk,_,_,.int (kept[i]:Int),rfl,rfl,SqL.of ae,zcx (by rw[List.getElem?_map,ki];rfl),_,_,rfl,rfl,⟨by omega,by omega,by decide⟩,?_⟩
   refine⟨⟨_,rfl⟩,rfl,ns++[((2^kept[i]:Nat):Int)],?_,?_,by rw[List.length_append];exact Nat.succ_le_succ nl⟩
   ·rw[List.map_append]
    show _++[V.int (1*2^((kept[i]:Nat):Int).toNat)]=_
    rw[zs8]
    rfl
   ·rw[List.sum_append,es,eo true c,if_pos rfl]
    simp
  ·refine⟨⟨_,rfl⟩,rfl,ns,rfl,?_,by omega⟩
   rw[es,eo false (Bool.eq_false_iff.mpr c),if_neg Bool.false_ne_true,Nat.add_zero]
 obtain⟨_,rfl,ns,rfl,es,nl⟩:=pv
 refine⟨l,ns,rfl,SqL.of zaf,?_⟩
 rw[es]
 exact q _ (zai hl _)
theorem zl9(T:Txt K mg a d)(LB:zdm mg base a.c_cases_of a.t_cases_of):FnOk P w K mg base CX0 27 a.f_law_folded d.f_law_folded ["_law_wood_here"] (spT a.t_cases_of zx5):=by
 refine T.K_law_folded.ok sc_law_folded (fun vs H Q E h=>?_) (fun cdv A outer s H vs Q E hr h=>?_)
 ·obtain⟨_,wd,tb,tc,m,L,C,rfl,_⟩:=h
  rfl
 obtain⟨ta,wd,tb,tc,m,L,C,rfl,W0,qn,qf⟩:=h
 obtain⟨W,hW⟩:∃W:XK,W=fun cls _ H'=>(∀s,s<2^m→za0 (zan L C) s=false)∧cls=.ref a.x_NoWares∧Same H H':=⟨_,rfl⟩
 by_cases af:∃s,s<2^m∧za0 (zan L C) s=true
 ·have ad:=zms (P:=P) (w:=w) (base:=base) T LB
  refine⟨_,(zae (zar (i:=1) sc_law_folded.nd rfl (Or.inl rfl) zby)
   (zae (zsm (W:=W) rfl rfl (fun _=>(zah (zar (i:=1) sc_law_folded.nd rfl (Or.inl rfl) (zfz ad hr.lv rfl T.K_folded.g T.K_folded.kp T.K_folded.B .nil zlx (zaa (pv 0) zab))))) rfl T.g_NoWares T.x_NoWares.cl (fun _=>(zah (zar (i:=1) sc_law_folded.nd rfl (Or.inl rfl) zby))))
   (zah (zak (pv 1))))),?_⟩
  refine⟨⟨_,rfl,ta,wd,tb,tc,m,L,C,rfl,W0,af,fun f L2 H' s' F=>?_⟩,?_⟩
  ·exact⟨_,rfl,qf af f L2 H' s' F⟩
  ·intro σ' H' ea Dc hl w1 hea
   rw[hW] at w1
   obtain⟨sw,h1,h2⟩:=af
   rw[w1.1 sw h1] at h2
   cases h2
 ·have ah:∀s,s<2^m→za0 (zan L C) s=false:=fun s hs=>by
   rw[Bool.eq_false_iff]
   exact fun z=>af ⟨s,hs,z⟩
  have ae:=zrc (P:=P) (w:=w) (base:=base) T LB
  refine⟨_,(zae (zar (i:=1) sc_law_folded.nd rfl (Or.inl rfl) zby)
   (zae (zsm (W:=W) rfl rfl (fun _=>(zah (zar (i:=1) sc_law_folded.nd rfl (Or.inl rfl) (zfz ae hr.lv rfl T.K_folded.g T.K_folded.kp T.K_folded.B .nil zAc (zaa (pv 0) zab))))) rfl T.g_NoWares T.x_NoWares.cl (fun _=>(zah (zar (i:=1) sc_law_folded.nd rfl (Or.inl rfl) zby))))
   (zah (zak (pv 1))))),?_⟩
  refine⟨⟨_,rfl,ta,wd,tb,tc,m,L,C,rfl,W0,ah,fun H' s'=>by rw[hW];exact⟨ah,rfl,s'⟩⟩,?_⟩
  intro σ' H' ea Dc hl w1 hea
  rw[hW] at w1
  obtain⟨_,ec,sw⟩:=w1
  cases Value.ref.inj ec
  obtain⟨v0,v1,rfl⟩:∃v0 v1,σ'=[v0,v1]:=by
   match σ',hl with
   |[v0,v1],_=>exact⟨v0,v1,rfl⟩
  refine⟨T.x_NoWares.cl,T.s_NoWares_NoWares,?_⟩
  exact⟨_,rfl,qn ah H' sw⟩
theorem zoq(T:Txt K mg a d)(LBc:zdm mg base a.c_cases_of a.t_cases_of)(LB:zdm mg base a.c_within a.t_within)(LBs:zdm mg base a.c_shows_within a.t_shows_within):FnOk P w K mg base CX0 23 a.f_law_alike d.f_law_alike ["_law_wood_here", "_law_small"] (spT a.t_cases_of (spT a.t_within (spT a.t_shows_within zuo))):=by
 have ae:=zqt (P:=P) (w:=w) (base:=base) T LBc LB
 have ad:=zj6 (P:=P) (w:=w) (base:=base) T LBs
 refine T.K_law_alike.ok sc_law_alike (fun vs H Q E h=>?_) (fun cdv A outer s H vs Q E hr h=>?_)
 ·obtain⟨_,_,_,w1,w2,m,t1,t2,rfl,_⟩:=h
  rfl
 obtain⟨ta,tb,tc,w1,w2,m,t1,t2,rfl,W1,W2,m1,m9,o1,o2,q⟩:=h
 have of:=zb4 m 1 0
 refine⟨_,(zae (zar (i:=2) sc_law_alike.nd rfl (Or.inl rfl) (zac ae hr.lv rfl T.K_compared (zaa (pv 0) (zaa (pv 1) zab))))
   (zae (za2 (PW.pt (zkp (zam zmq (zav (zcs (K:=K)) rfl T.m_len PySem.boot_len (zaa (pv 2) zab)) zad (zao _)) (zjl (zam zmq (zal (ixT (K:=K)) (pv 2) zad (fun _ _=>rfl)) za3 (zao _))))) (zah (zak zhw)) zat)
   (zah (zak (zdi (zbp zpu (zac ad hr.lv rfl T.K_shows_within (zaa (pv 0) (zaa (pv 1) (zaa (zal (ixT (K:=K)) (pv 2) zad (fun _ _=>rfl)) zab)))) zhw (zao _)) (zca (zbp zpu (zac ad hr.lv rfl T.K_shows_within (zaa (pv 1) (zaa (pv 0) (zaa (zal (ixT (K:=K)) (pv 2) zad (fun _ _=>rfl)) zab)))) zhw (zao _)))))))),?_⟩
 refine⟨_,rfl,_,rfl,ta,tb,w1,w2,m,t1,t2,rfl,W1,W2,m1,m9,fun v H1 s1 dv=>?_⟩
 have e:zuw m t1 t2=.tuple [.str ("same" : Str),zdz t1 (zbk t1) m (zbu t2) 9 1 0,zdz t2 (zbk t2) m (zbu t1) 9 1 0]:=by
  unfold zuw wIn
  rw[o1,o2]
  show zt7 "same" m t1 t2=_
  rw[zqf]
  unfold zii
  rw[o1,o2]
 rw[e] at dv
 obtain⟨p,xs,rfl,hp,x1,r1,rfl,h1,x2,r2,rfl,h2,x3,r3,rfl,h3,ah⟩:=zcc dv
 cases(show r3=[] from ah)
 cases(show x1=.str ("same" : Str) from h1)
 obtain⟨k1,k2,k3,k4⟩:=zhd W1.ok W2.ok o1 9 1 0 (by omega) (zkv m1) rfl
 obtain⟨j1,j2,j3,j4⟩:=zhd W2.ok W1.ok o2 9 1 0 (by omega) (zkv m1) rfl
 rw[←k1] at h2
 rw[←j1] at h3
 refine⟨_,rfl,p,_,rfl,.inr (sqT hp),rfl,_,rfl,?_⟩
 refine zwi rfl ?_
 refine⟨_,rfl,p,_,_,_,rfl,rfl,sqT hp,at0,rfl,_,rfl,?_⟩
 refine zwi rfl ?_
 refine⟨_,rfl,_,rfl,_,rfl,p,_,_,_,rfl,rfl,sqT hp,at1,s1.tab tc,w1,w2,m,t1,t2,_,x2,rfl,W1.same s1,W2.same s1,h2,k2,by omega,fun H2 s2=>?_⟩
 rw[k4]
 refine⟨_,_,rfl,rfl,_,rfl,?_⟩
 refine zrb ?_
 have af:=s1.trans s2
 refine⟨_,rfl,_,rfl,_,rfl,p,_,_,_,rfl,rfl,sqT (s2 _ _ hp),at2,af.tab tc,w2,w1,m,t2,t1,_,x3,rfl,W2.same af,W1.same af,Dn.same s2 _ _ h3,j2,by omega,fun H3 s3=>?_⟩
 rw[j4]
 exact⟨_,_,rfl,rfl,q H3 (af.trans s3)⟩
theorem zy5(T:Txt K mg a d)(LBc:zdm mg base a.c_cases_of a.t_cases_of)(LB:zdm mg base a.c_within a.t_within)(LBs:zdm mg base a.c_shows_within a.t_shows_within):FnOk P w K mg base CX0 29 a.f_law d.f_law ["_law_script"] (spT a.t_cases_of (spT a.t_within (spT a.t_shows_within (zsj K)))):=by
 have am:=zqg (P:=P) (w:=w) (base:=base) T
 have aj:=zmc (P:=P) (w:=w) (base:=base) T
 have ak:=zg3 (P:=P) (w:=w) (base:=base) T LBc
 have ai:=zl9 (P:=P) (w:=w) (base:=base) T LBc
 have au:=zms (P:=P) (w:=w) (base:=base) T LBc
 have ap:=zpe (P:=P) (w:=w) (base:=base) T LBc
 have af:=zcf (P:=P) (w:=w) (base:=base) T
 have ah:=zrt (P:=P) (w:=w) (base:=base) T
 have ar:=zkq (P:=P) (w:=w) (base:=base) T
 have ao:=zqb (P:=P) (w:=w) (base:=base) T
 have al:=zoq (P:=P) (w:=w) (base:=base) T LBc LB LBs
 refine T.K_law.ok sc_law (fun vs H Q E h=>?_) (fun cdv A outer s H vs Q E hr h=>?_)
 ·obtain⟨_,_,_,p,ns,rfl,_⟩:=h
  rfl
 obtain⟨ta,tab,cx,sp,ns,rfl,hS,hl,q⟩:=h
 have az:(2:Int)^62=4611686018427387904:=by decide
 have cp:(2:Nat)^62=4611686018427387904:=by decide
 refine⟨_,(zae (zar (i:=1) sc_law.nd rfl (Or.inl rfl) (zc3 (zaa (pv 0) (zaa zad zab))))
   (zae (zar (i:=2) sc_law.nd rfl (Or.inl rfl) (zac aj hr.lv rfl T.K_law_barred (zaa (pv 1) (zaa (zac am hr.lv rfl T.K_law_wood (zaa (pv 1) zab)) zab))))
   (zae (zar (i:=3) sc_law.nd rfl (Or.inl rfl) (zac ak hr.lv rfl T.K_wares (zaa (pv 2) zab)))
   (zae (zar (i:=4) sc_law.nd rfl (Or.inl rfl) (zac ai hr.lv rfl T.K_law_folded (zaa (pv 2) zab)))
   (zae (za2 (zam zh2 (pv 4) zby (zao _)) (zah (zak (zbp (zrk hr.units) (pv 3) (zc3 zab) (zao _)))) zat)
   (zae (zvy (pv 4) (pgT (K:=K) (n:=4) rfl (zbq (zaw (i:=5) sc_law.nd rfl (Or.inl rfl)) (zbq (zaw (i:=6) sc_law.nd rfl (Or.inr rfl)) (zbq (zaw (i:=7) sc_law.nd rfl (Or.inl rfl)) (zbq (zaw (i:=8) sc_law.nd rfl (Or.inl rfl)) zfu))))))
   (zae (za2 (zam (zh1 hr.units) (zdc (N':=["_law_ware", "_law_kept"]) (n:=1) (kp:=[6]) rfl (piL (K:=K) (zac ak hr.lv rfl T.K_wares (zaa (pv 5) zab))) rfl rfl rfl (fun _ _ _ _ _=>(zaw (i:=0) (of_decide_eq_true rfl) rfl (Or.inl rfl))) (fun _ _ _ _ _=>zd9) (fun _ _ _ _ _=>(zac ah hr.lv rfl T.K_law_old (zaa (pv 1) (zaa (pv 0) zab))))) (pv 3) (zao _)) (zah (zak zhw)) zat)
   (zae (zes PassesOwn.never rfl (zco rfl T.m_range (zaa zad zab)) (zaw (i:=9) sc_law.nd rfl (Or.inr rfl)) (zae (zar (i:=10) sc_law.nd rfl (Or.inl rfl) (zac af hr.lv rfl T.K_law_take (zaa (pv 1) (zaa (zba znu zad (zal (ixT (K:=K)) (pv 5) zad (fun _ _=>rfl))) zab))))
   (zae (zar (i:=11) sc_law.nd rfl (Or.inl rfl) (zac ao hr.lv rfl T.K_unfolded (zaa (zbn zot rfl T.m_list PyProof.Rows.boot_list (zaa (pv 6) zab)) (zaa (pv 10) zab))))
   (zah (za2 (PW.pt (zkp (zfw (zbx (zav (zAw (K:=K)) rfl T.m_isinstance PyProof.Rows.boot_isinstance (zaa (pv 11) (zaa (zso (v:=.ty "int") rfl T.m_int PyProof.Rows.boot_int rfl) zab))))) (zkp (zbx (zav (zAw (K:=K)) rfl T.m_isinstance PyProof.Rows.boot_isinstance (zaa (pv 11) (zaa (zso (v:=.ty "bool") rfl T.m_bool PyProof.Rows.boot_bool rfl) zab)))) (zjl (zam zmq (pv 11) (zac ah hr.lv rfl T.K_law_old (zaa (pv 6) (zaa (pv 10) zab))) (zao _)))))) (zah (zak zhw)) zat)))))
   (zae (zes PassesOwn.never rfl (zco rfl T.m_range (zaa (zal (ixT (K:=K)) (pv 5) zad (fun _ _=>rfl)) zab)) (zaw (i:=9) sc_law.nd rfl (Or.inr rfl)) (zah (za2 (zam zbh (zav (zcs (K:=K)) rfl T.m_len PySem.boot_len (zaa (zdc (N':=["_law_ware", "_law_k"]) (n:=1) (kp:=[9]) rfl (piL (K:=K) (zac ak hr.lv rfl T.K_wares (zaa (pv 5) zab))) rfl rfl rfl (fun _ _ _ _ _=>(zaw (i:=0) (of_decide_eq_true rfl) rfl (Or.inl rfl))) (fun _ _ _ _ _=>(zb2 (zbx (zac ar hr.lv rfl T.K_law_has (zaa (pv 0) (zaa (pv 1) zab)))))) (fun _ _ _ _ _=>(pv 0))) zab)) zad (zao _)) (zah (zak zhw)) zat)))
   (zae (za2 (zam (inS (K:=K)) (zal (ixT (K:=K)) (zac ap hr.lv rfl T.K_standing (zaa (pv 5) (zaa (zac af hr.lv rfl T.K_law_take (zaa (pv 1) (zaa (zal (ixT (K:=K)) (pv 5) zad (fun _ _=>rfl)) zab))) zab))) zad (fun _ _=>rfl)) (zc3 (zaa za3 (zaa za3 zab))) (by with_unfolding_all rfl)) (zah (zak zhw)) zat)
   (zae (zar (i:=12) sc_law.nd rfl (Or.inl rfl) (zac au hr.lv rfl T.K_folded (zaa (pv 5) zab)))
   (zae (za2 (PW.pt (zkp (zam (zh1 hr.units) (zal (ixT (K:=K)) (pv 12) zad (fun _ _=>rfl)) (pv 5) (zao _)) (zjl (zam (zh1 hr.units) (zal (ixT (K:=K)) (pv 12) zad (fun _ _=>rfl)) (zbn (zhy rfl) rfl T.m_list PyProof.Rows.boot_list (zaa (zbn zmz rfl T.m_range PyProof.Rows.boot_range (zaa (zal (ixT (K:=K)) (pv 5) zad (fun _ _=>rfl)) zab)) zab)) (zao _))))) (zah (zak zhw)) zat)
   (zah (zak (zkm (zbp zm9 (zav (zcs (K:=K)) rfl T.m_len PySem.boot_len (zaa (pv 6) zab)) (zal (ixT (K:=K)) (pv 2) zad (fun _ _=>rfl)) (zao _)) (zca (zac al hr.lv rfl T.K_law_alike (zaa (pv 2) (zaa (pv 5) zab))))))))))))))))))),?_⟩
 refine⟨_,rfl,small (by show 2≤1000;decide),fun pen aH=>?_⟩
 have pn:=zwz hS hl aH
 have s1:=zai aH (.lst [.ref sp,.int 0])
 generalize L2.upd H pen (.lst [.ref sp,.int 0])=H1 at pn s1 ⊢
 refine⟨_,rfl,_,rfl,pen,sp,ns,0,rfl,pn,by decide,by decide,fun cn m bs cs k2 H2 x2 cT dE de m1 m9 WX dm=>?_⟩
 obtain⟨tb,cD,L,C0,W0,_,_⟩:=WX.parts
 refine⟨pen,sp,ns,k2,cn,tb,cD,m,L,C0,rfl,pn.to x2 cT,by omega,by omega,W0,fun wd tc C k3 H3 x3 bH du cY W=>?_⟩
 have aV:=x2.trans x3
 have br:=aV.tab pn.at_ (s1.tab ta)
 have bz:=aV.tab pn.at_ (s1.tab tab)
 have bv:=aV.tab pn.at_ (s1.tab cx)
 have fb:=W.fewb
 have fc:=W.fewc
 have few:=zfk (m:=m) (ts:=zan L C) m9
 refine⟨_,rfl,br,wd,m,zan L C,rfl,W.woodT,m1,m9,fun ls H4 s4 dA bg=>?_⟩
 have bF:SeqAt.shaped (.list ((zaz m (zan L C)).map fun k:Nat=>PyData.int (k:Int)))=true:=zju zjf (by decide)
 refine⟨_,rfl,s4.tab br,wd,tb,tc,m,L,C,rfl,W.same s4,fun be H5 s5=>?_,fun aI f av H5 s5 F=>?_⟩
 ·refine⟨_,rfl,rfl,_,rfl,?_⟩
  refine zdl rfl ?_
  have e0:zaz m (zan L C)=[]:=by
   rw[List.eq_nil_iff_forall_not_mem]
   intro s hs
   obtain⟨h1,h2⟩:=mem_wareL.mp hs
   rw[be s h1] at h2
   cases h2
  rw[e0] at bg
  refine⟨_,rfl,small (by show 0≤1000;decide),fun lz cj=>?_⟩
  have cA:=zai cj (.lst [])
  refine⟨.list [],.list [],⟨ls,_,rfl,cA _ _ (s5 _ _ bg),rfl⟩,⟨lz,_,rfl,zaf,rfl⟩,zlw,zlw,?_⟩
  rw[zw2,decide_eq_true rfl]
  exact q _
 refine⟨_,rfl,rfl,_,rfl,?_⟩
 refine zbm (fun z=>nomatch z) ?_
 have tl:=F.tight
 obtain⟨w2,cE,cI,lt,ln,xt,ne,F2⟩:=F.parts (W.same s4) aI
 obtain⟨lk,hf⟩:=F2.at_
 obtain⟨aU,bM⟩:=F.kept hf
 have W2:=F2.wood
 have ad:=F2.sold
 have ax:=zto W.nb aI
 have pw:=zek m (zan L C)
 have bY:∀k∈zas m (zan L C),k<m:=fun k hk=>(mem_keptL.mp hk).1
 have ag:=zwm W.nb rfl tl rfl ad W2.okb W2.okc W2.nb
 have aw:∀i,i<(zas m (zan L C)).length→∃w,w∈zb7 m L C∧w.testBit i=true:=fun i hi=>by
  have:i∈zas (zas m (zan L C)).length (zan av (fC2 m L C av)):=by rw[ag.kept];exact List.mem_range.mpr hi
  obtain⟨_,w,h1,h2,h3⟩:=mem_keptL.mp this
  exact⟨w,by rw[←ad];exact mem_wareL.mpr ⟨h1,h2⟩,h3⟩
 have aL:=W2.m1
 have aG:=W2.m9
 have cW:=zi7 m (zan L C)
 obtain⟨kept,aq⟩:∃kept,kept=zas m (zan L C):=⟨_,rfl⟩
 obtain⟨C2,cL⟩:∃C2,C2=fC2 m L C av:=⟨_,rfl⟩
 obtain⟨ae,cJ⟩:∃ae,ae=zb7 m L C:=⟨_,rfl⟩
 rw[←aq,←cL] at W2 ad ag
 rw[←cJ] at ad ax aw
 rw[←aq] at aU ax pw bY aw aL aG cW
 have b7:ae.length≤512:=by rw[←ad];exact zfk aG
 have aC:(zaj ae).length=ae.length:=List.length_map _
 have aJ:(zaj kept).length=kept.length:=List.length_map _
 have aE:∀k∈kept,k≤20:=fun k hk=>by have:=bY k hk;omega
 have cK:∀t∈zan av C2,t.Ok kept.length:=W2.ok
 have bQ:=s4.trans s5
 have bO:=bQ.tab br
 refine⟨_,rfl,f,_,rfl,sqT hf,rfl,_,_,rfl,_,_,rfl,_,_,rfl,_,_,rfl,rfl,?_⟩
 refine⟨_,rfl,bO,w2,kept.length,zan av C2,rfl,W2.woodT,aL,aG,fun l6 H6 s6 c7 bE=>?_⟩
 rw[ad] at bE
 refine⟨l6,rfl,⟨_,SqL.of bE⟩,?_⟩
 refine zcw (K:=K) (a:=l6) (xs:=zaj ae) (fun j ys σ H7=>(∃v,σ=[v,some (.ref lk)])∧Same H6 H7∧ys=zaj ((ae.take j).map (zhs kept))) ⟨⟨none,rfl⟩,Same.refl _,rfl⟩ (fun j ys σ H7 hj pv=>?_) (fun j ys σ H7 hj pv=>?_) (fun j x ys σ H7 hx pv=>?_) (fun ys σ H7 pv l7 cR=>?_)
 ·obtain⟨_,_,rfl⟩:=pv
  rw[List.length_map,List.length_map,List.length_take]
  exact small (by omega)
 ·exact SqL.of (pv.2.1 _ _ bE)
 ·obtain⟨⟨v,rfl⟩,s7,rfl⟩:=pv
  rw[List.getElem?_map] at hx
  obtain⟨wa,aQ,rfl⟩:=Option.map_eq_some_iff.mp hx
  refine⟨_,rfl,_,rfl,lk,kept,wa,rfl,s7 _ _ (s6 _ _ aU),by omega,aE,fun HA sA=>?_⟩
  refine⟨⟨_,rfl⟩,s7.trans sA,?_⟩
  rw[ze8 aQ,zdj]
  rfl
 obtain⟨_,s7,rfl⟩:=pv
 rw[aC,List.take_length,ax]
 have bU:=zai cR (.lst (zaj (zaz m (zan L C))))
 have g7:L2.upd H7 l7 (.lst (zaj (zaz m (zan L C)))) l7=some (.lst (zaj (zaz m (zan L C)))):=zaf
 generalize L2.upd H7 l7 (.lst (zaj (zaz m (zan L C))))=H8 at bU g7 ⊢
 have aF:=(s6.trans s7).trans bU
 refine⟨_,rfl,.list ((zaz m (zan L C)).map fun k:Nat=>PyData.int (k:Int)),.list ((zaz m (zan L C)).map fun k:Nat=>PyData.int (k:Int)),⟨l7,_,rfl,g7,zfn _⟩,⟨ls,_,rfl,aF _ _ (s5 _ _ bg),zfn _⟩,bF,bF,_,rfl,?_⟩
 rw[zi5 _ (SeqAt.canLay_of_shaped bF)]
 refine zga ?_
 have aO:=bQ.trans aF
 have aD:=(pn.to aV bH).same aO
 have bA:pen≠lk:=fun z=>by
  rw[←z] at bM
  rw[s4 _ _ bH] at bM
  cases bM
 have p9:kept.length≤9:=by omega
 have pk:2^kept.length≤512:=Nat.le_trans (Nat.pow_le_pow_right (by decide) p9) (by decide)
 have bW:=zp3 kept.length
 refine⟨4,rfl,by rw[az];decide,by rw[az];decide,?_⟩
 refine zh7 (n:=4) (fun i σ H9=>∃(v9 aT aS:Option V)(k':Int),σ=[some (.ref sp),some (.ref pen),some (.ref wd),some (.ref ls),some (.ref f),some (.ref w2),some (.ref lk),some (.ref lt),some (.ref ln),v9,aT,aS,none]∧SameX pen H8 H9∧H9 pen=some (.lst [.ref sp,.int k'])∧k3≤k'∧k'≤k3+i) ⟨none,none,none,k3,rfl,SameX.refl _ _,aO _ _ bH,by omega,by omega⟩ ?_ ?_
 ·rintro i σ H9 hi ⟨v9,aT,aS,k',rfl,x9,bp,cr,cV⟩
  have W9:=W2.tupS (zc2 (Same.tup aF) (SameX.tup aD.at_ x9))
  refine⟨_,rfl,_,rfl,w2,_,_,_,rfl,rfl,sqT W9.at_,at0,_,_,rfl,rfl,⟨by omega,by omega,by decide⟩,pen,sp,ns,_,k',rfl,aD.to x9 bp,by omega,by omega,by rw[zs8];omega,fun one bt bd=>?_⟩
  rw[zs8] at bd
  obtain⟨on,cN⟩:=Int.eq_ofNat_of_zero_le bt
  subst cN
  have bG:=x9.trans (za1 (pen:=pen) (H:=H9) (.lst [.ref sp,.int (k'+1)]))
  have bq:L2.upd H9 pen (.lst [.ref sp,.int (k'+1)]) pen=some (.lst [.ref sp,.int (k'+1)]):=zaf
  generalize L2.upd H9 pen (.lst [.ref sp,.int (k'+1)])=bj at bG bq ⊢
  have ay:bj lk=some (.lst (zaj kept)):=bG _ _ (Ne.symm bA) (aF _ _ aU)
  refine⟨_,rfl,lk,_,rfl,.inl (SqL.of ay),fun lq cq=>?_⟩
  have aW:=zai cq (.lst (zaj kept))
  have bS:L2.upd bj lq (.lst (zaj kept)) lq=some (.lst (zaj kept)):=zaf
  have aM:=aW _ _ ay
  have bI:=aW _ _ bq
  generalize L2.upd bj lq (.lst (zaj kept))=dg at aW bS aM bI ⊢
  refine⟨_,rfl,lq,kept,on,rfl,bS,pw,p9,aE,by omega,fun c9 bT=>?_⟩
  refine⟨_,rfl,_, "int", "int",true,rfl,TyOf.int _,zpz,_,rfl,?_⟩
  refine zga ?_
  refine⟨_,rfl,_, "int", "bool",false,rfl,TyOf.int _,zog,_,rfl,?_⟩
  refine zga ?_
  refine⟨_,rfl,_,rfl,_,rfl,lk,kept,on,rfl,bT _ _ aM,p9,aE,fun dF cH=>?_⟩
  refine⟨rfl,_,rfl,?_⟩
  refine zwi rfl ?_
  have aA:=(aW.trans bT).trans cH
  exact⟨_,_,_,k'+1,rfl,bG.trans (Same.x aA),aA _ _ bq,by omega,by omega⟩
 rintro σ H9 ⟨v9,aT,aS,k',rfl,x9,bp,cr,cV⟩
 have cF:=zc2 (Same.tup aF) (SameX.tup aD.at_ x9)
 have W9:=W2.tupS cF
 have cQ:=aD.to x9 bp
 have bR:=x9.tab aD.at_ (aF.tab bO)
 have ba:=x9.tab aD.at_ (aO.tab bz)
 have aZ:=x9.tab aD.at_ (aO.tab bv)
 have bu:H9 lk=some (.lst (zaj kept)):=x9 _ _ (Ne.symm bA) (aF _ _ aU)
 refine⟨_,rfl,w2,_,_,_,rfl,rfl,sqT W9.at_,at0,_,rfl,by rw[az];omega,by rw[az];omega,?_⟩
 rw[Int.toNat_natCast]
 refine zh7 (n:=kept.length) (fun i σ HA=>∃(v9:Option V),σ=[some (.ref sp),some (.ref pen),some (.ref wd),some (.ref ls),some (.ref f),some (.ref w2),some (.ref lk),some (.ref lt),some (.ref ln),v9,aT,aS,none]∧Same H9 HA) ⟨_,rfl,Same.refl _⟩ ?_ ?_
 ·rintro i σ HA hi ⟨bZ,rfl,sA⟩
  refine⟨_,rfl,sA.tab bR,w2,kept.length,zan av C2,rfl,(W9.same sA).woodT,aL,aG,fun lB HB sB dD aX=>?_⟩
  rw[ad] at aX
  refine⟨lB,rfl,⟨_,SqL.of aX⟩,?_⟩
  refine zcw (K:=K) (a:=lB) (xs:=zaj ae) (fun j ys σ HC=>(∃v,σ=[v,some (.int (i:Int))])∧HC=HB∧ys=zaj ((ae.take j).filter fun w=>w.testBit i)) ⟨⟨none,rfl⟩,rfl,rfl⟩ (fun j ys σ HC hj pv=>?_) (fun j ys σ HC hj pv=>?_) (fun j x ys σ HC hx pv=>?_) (fun ys σ HC pv lC cC=>?_)
  ·obtain⟨_,_,rfl⟩:=pv
   rw[List.length_map]
   refine small (Nat.le_trans (List.length_filter_le _ _) ?_)
   rw[List.length_take]
   omega
  ·rw[pv.2.1]
   exact SqL.of aX
  ·obtain⟨⟨v,rfl⟩,rfl,rfl⟩:=pv
   rw[List.getElem?_map] at hx
   obtain⟨wa,aQ,rfl⟩:=Option.map_eq_some_iff.mp hx
   refine⟨_,rfl,_,rfl,wa,i,rfl,by omega,_,rfl,?_⟩
   refine zbv (fun c=>?_) (fun c=>?_)
   ·refine⟨_,rfl,⟨_,rfl⟩,rfl,?_⟩
    rw[zjt aQ true c,if_pos rfl,zdj]
    rfl
   ·refine⟨⟨_,rfl⟩,rfl,?_⟩
    rw[zjt aQ false (Bool.eq_false_iff.mpr c),if_neg Bool.false_ne_true,List.append_nil]
  obtain⟨_,rfl,rfl⟩:=pv
  rw[aC,List.take_length]
  have sC:=zai cC (.lst (zaj (ae.filter fun w=>w.testBit i)))
  refine⟨lC,_,rfl,.inl (SqL.of zaf),rfl,_,rfl,?_⟩
  refine zbm (fun z=>?_) ?_
  ·have z':V.int (((zaj (ae.filter fun w=>w.testBit i)).length:Nat):Int)=V.int 0:=z
   injection z' with z'
   rw[show(zaj (ae.filter fun w=>w.testBit i)).length=(ae.filter fun w=>w.testBit i).length from List.length_map _] at z'
   obtain⟨w,hw,hb⟩:=aw i hi
   have hm:w∈ae.filter fun w=>w.testBit i:=List.mem_filter.mpr ⟨hw,hb⟩
   have:=List.length_pos_of_mem hm
   omega
  exact⟨_,rfl,sA.trans (sB.trans sC)⟩
 rintro σ HA ⟨bZ,rfl,sA⟩
 have WA:=W9.same sA
 have aP:=cQ.same sA
 refine⟨_,rfl,_,rfl,_,rfl,w2,_,_,_,rfl,rfl,sqT WA.at_,at0,pen,sp,ns,_,k',rfl,aP,by omega,by omega,by omega,fun ko ce cX=>?_⟩
 obtain⟨kn,cS⟩:=Int.eq_ofNat_of_zero_le ce
 subst cS
 have xB:=za1 (pen:=pen) (H:=HA) (.lst [.ref sp,.int (k'+1)])
 generalize L2.upd HA pen (.lst [.ref sp,.int (k'+1)])=HB at xB ⊢
 have tB:=SameX.tup aP.at_ xB
 have WB:=WA.tupS tB
 have bi:=xB.tab aP.at_ (sA.tab bR)
 have bK:=xB.tab aP.at_ (sA.tab ba)
 have bo:=xB.tab aP.at_ (sA.tab aZ)
 have bB:HB lk=some (.lst (zaj kept)):=xB _ _ (Ne.symm bA) (sA _ _ bu)
 refine⟨bi,w2,kept.length,zan av C2,kn,rfl,WB.woodT,aL,aG,by omega,fun vS HC sC sv=>?_⟩
 obtain⟨wz,aR,cO⟩:=aw kn (by omega)
 rw[←ad] at aR
 obtain⟨pS,xS,bX,rfl,cG,hx⟩:=zq5 sv cK aL aG (by omega) (mem_wareL.mp aR).1 (mem_wareL.mp aR).2 cO
 refine⟨pS,_,_,.str xS,rfl,rfl,sqT cG,zA1,small (by show 2≤1000;decide),fun lD cB=>?_⟩
 have sD:=zai cB (.lst [.str ("never" : Str),.str ("void" : Str)])
 have gD:L2.upd HC lD (.lst [.str ("never" : Str),.str ("void" : Str)]) lD=some (.lst [.str ("never" : Str),.str ("void" : Str)]):=zaf
 generalize L2.upd HC lD (.lst [.str ("never" : Str),.str ("void" : Str)])=HD at sD gD ⊢
 refine⟨lD,_,rfl,.inl (SqL.of gD),rfl,rfl,_,rfl,?_⟩
 have cg:inV (.str xS) [.str ("never" : Str),.str ("void" : Str)]=false:=by
  rcases hx with z|z
  ·rw[z];decide +kernel
  ·rw[z];decide +kernel
 rw[if_neg Bool.false_ne_true,cg]
 refine zga ?_
 have bJ:=sC.trans sD
 have WD:=WB.same bJ
 have aB:∃s,s<2^kept.length∧za0 (zan av C2) s=true:=⟨wz,mem_wareL.mp aR⟩
 refine⟨_,rfl,bJ.tab bi,w2,cE,cI,kept.length,av,C2,rfl,WD,aB,fun f' L3 HE sE F'=>?_⟩
 have e3:L3=av:=ag.again L3 F'.tight
 subst e3
 obtain⟨w3,cZ,dB,dw,di,dh,dq,F3⟩:=F'.parts WD aB
 obtain⟨cy,bN⟩:=F3.at_
 obtain⟨aN,_⟩:=F'.kept bN
 have W3:=F3.wood
 rw[ag.kept,List.length_range,ag.c2] at W3
 rw[ag.kept] at aN
 have aY:=zma WD
 refine⟨_,rfl,f',_,_,_,rfl,rfl,sqT bN,at0,_,rfl,zn4 kept.length L3 C2,zn4 kept.length L3 C2,W3.dn,(WD.same sE).dn,aY,aY,_,rfl,?_⟩
 rw[zi5 _ (SeqAt.canLay_of_shaped aY)]
 refine zga ?_
 have WE:=WD.same sE
 refine⟨_,rfl,f',_,_,_,rfl,rfl,sqT bN,at1,_,rfl,w2,_,_,_,rfl,rfl,sqT WE.at_,at0,_,rfl,fun rg cU=>?_⟩
 have sG:=zai cU (.rng 0 (kept.length:Int))
 have gG:L2.upd HE rg (.rng 0 (kept.length:Int)) rg=some (.rng 0 (kept.length:Int)):=zaf
 generalize L2.upd HE rg (.rng 0 (kept.length:Int))=HG at sG gG ⊢
 refine⟨rg,0,_,rfl,gG,by rw[az];decide,by rw[az];decide,by rw[az];omega,by rw[az];omega,by omega,fun lR cz=>?_⟩
 have eR:List.map (fun i:Nat=>V.int (0+(i:Int))) (List.range' 0 ((kept.length:Int)-0).toNat)=zaj (List.range kept.length):=by
  rw[show((kept.length:Int)-0).toNat=kept.length by omega,←List.range_eq_range']
  refine List.map_congr_left fun i _=>?_
  rw[Int.zero_add]
 rw[eR]
 have sH:=zai cz (.lst (zaj (List.range kept.length)))
 have gH:L2.upd HG lR (.lst (zaj (List.range kept.length))) lR=some (.lst (zaj (List.range kept.length))):=zaf
 generalize L2.upd HG lR (.lst (zaj (List.range kept.length)))=HH at sH gH ⊢
 have bh:=sG.trans sH
 have bf:SeqAt.shaped (.list ((List.range kept.length).map fun k:Nat=>PyData.int (k:Int)))=true:=zju zjf (by decide)
 refine⟨.list ((List.range kept.length).map fun k:Nat=>PyData.int (k:Int)),.list ((List.range kept.length).map fun k:Nat=>PyData.int (k:Int)),⟨cy,_,rfl,bh _ _ aN,zfn _⟩,⟨lR,_,rfl,gH,zfn _⟩,bf,bf,_,rfl,?_⟩
 rw[zi5 _ (SeqAt.canLay_of_shaped bf)]
 refine zga ?_
 have aK:=(bJ.trans sE).trans bh
 have bw:=zc2 (zc2 (zc2 (zc2 (Same.tup aO) (SameX.tup aD.at_ x9)) (Same.tup sA)) tB) (Same.tup aK)
 have WH:=W.tupS bw
 have cM:=WE.same bh
 refine⟨_,rfl,lk,_,rfl,.inl (SqL.of (aK _ _ bB)),_,rfl,wd,_,_,_,rfl,rfl,sqT WH.at_,at0,_,_,rfl,rfl,_,rfl,?_⟩
 rw[aJ]
 refine zbv (fun c=>?_) (fun c=>?_)
 ·exact q _
 have cu:¬kept.length<m:=fun z=>c (decide_eq_true (by omega))
 have bx:kept.length=m:=by omega
 have bL:kept=List.range m:=by rw[aq];exact zvj (by rw[←aq];exact cu)
 have bP:zaz m (zan L C)=zaz m (zan L3 C2):=by
  rw[←ax,←bx,ad]
  conv=>rhs;rw[←List.map_id ae]
  refine List.map_congr_left fun x hx=>?_
  rw[←ad] at hx
  have:=(mem_wareL.mp hx).1
  rw[bx] at this
  rw[bL]
  exact zx2 this
 have bV:=cM.woodT
 rw[bx] at bV
 refine⟨_,rfl,_,rfl,aK.tab bi,aK.tab bK,aK.tab bo,wd,w2,m,zan L C,zan L3 C2,rfl,WH.woodT,bV,m1,m9,zim bP,zim bP.symm,fun HI sI=>?_⟩
 exact q _
end
theorem all_mk{l:PySem.W.OpenLaw}{w:World}{K:PySem.W.Frag}{h:Heap}{mg:Str→Option Value}{fa f1 f2 f3 f4 f5 f6 f7 f8 f9 f10 f11 f12 f13 f14 f15 f16 f17 f18 f19 f20 f21 f22 f23 f24 f25 f26 f27 f28 f29 f30 f31 f32 f33 f34 f35 f36 f37 f38 f39 f40 f41 f42 f43 f44 f45 f46 f47 f48 f49 f50 f51 f52 f53 f54 f55 f56 f57 f58 f59 f60 f61 f62 f63 cc22 tt22 cc40 tt40 cc41 tt41 y_NoWares y_Unlike:Addr}(X:K.In h)(G:h.Ns mainGlobals mg)(hfa:mg "law" = some (.ref fa))
  {d1 d2 d3 d4 d5 d6 d7 d8 d9 d10 d11 d12 d13 d14 d15 d16 d17 d18 d19 d20 d21 d22 d23 d24 d25 d26 d27 d28 d29 d30 d31 d32 d33 d34 d35 d36 d37 d38 d39 d40 d41 d42 d43 d44 d45 d46 d47 d48 d49 d50 d51 d52 d53 d54 d55 d56 d57 d58 d59 d60 d61 d62 d63:FuncData}
  {coc22:Value} {cod22:Option Addr} {cvs22:Array Value} {csl22:Array (Option Value)}
  {coc40:Value} {cod40:Option Addr} {cvs40:Array Value} {csl40:Array (Option Value)}
  {coc41:Value} {cod41:Option Addr} {cvs41:Array Value} {csl41:Array (Option Value)}
  (a1:Dk K "has" zv3 f1 d1)
  (a2:Dk K "options_of" zeb f2 d2)
  (a3:Dk K "with_option" ze6 f3 d3)
  (a4:Dk K "open_options" zc6 f4 d4)
  (a5:Dk K "many_ties" zg8 f5 d5)
  (a6:Dk K "tie_at" zkk f6 d6)
  (a7:Dk K "keeps" zki f7 d7)
  (a8:Dk K "keeps_bough" ze4 f8 d8)
  (a9:Dk K "count_in" zfv f9 d9)
  (a10:Dk K "every_tie" zg6 f10 d10)
  (a11:Dk K "first_broken" zef f11 d11)
  (a12:Dk K "is_ware" zjd f12 d12)
  (a13:Dk K "sure_broken" ze7 f13 d13)
  (a14:Dk K "sure_kept" zgj f14 d14)
  (a15:Dk K "least_sum" ze0 f15 d15)
  (a16:Dk K "greatest_sum" zdb f16 d16)
  (a17:Dk K "sure_broken_bough" za7 f17 d17)
  (a18:Dk K "sure_kept_bough" zbb f18 d18)
  (a19:Dk K "first_sure_broken" zcp f19 d19)
  (a20:Dk K "all_sure_kept" zcv f20 d20)
  (a21:Dk K "cases" znm f21 d21)
  (a22:Dk K "cases_of" zcg f22 d22)
  (e22:d22.code=.ref cc22) (m22:K.lookup cc22=some ⟨coc22,cod22,.fields cvs22,csl22⟩) (n22:(cvs22[11]?:Option Value)=some (.ref tt22))
  (a23:Dk K "ware_leaf" zgl f23 d23)
  (a24:Dk K "told_tree" zdx f24 d24)
  (a25:Dk K "is_tree" zje f25 d25)
  (a26:Dk K "is_broken_leaf" zdg f26 d26)
  (a27:Dk K "wares_in" zh0 f27 d27)
  (a28:Dk K "wares" zoy f28 d28)
  (a29:Dk K "first_ware" zfx f29 d29)
  (a30:Dk K "first_keeping" zcb f30 d30)
  (a31:Dk K "folded" zb6 f31 d31)
  (a32:Dk K "unfolded" zid f32 d32)
  (a33:Dk K "boughs_left" zdo f33 d33)
  (a34:Dk K "cross_left" zd5 f34 d34)
  (a35:Dk K "tightened" ze1 f35 d35)
  (a36:Dk K "first_with" zd7 f36 d36)
  (a37:Dk K "without_needless" zc4 f37 d37)
  (a38:Dk K "first_breaking" zdn f38 d38)
  (a39:Dk K "without_place" zd1 f39 d39)
  (a40:Dk K "within" zch f40 d40)
  (e40:d40.code=.ref cc40) (m40:K.lookup cc40=some ⟨coc40,cod40,.fields cvs40,csl40⟩) (n40:(cvs40[11]?:Option Value)=some (.ref tt40))
  (a41:Dk K "shows_within" zbj f41 d41)
  (e41:d41.code=.ref cc41) (m41:K.lookup cc41=some ⟨coc41,cod41,.fields cvs41,csl41⟩) (n41:(cvs41[11]?:Option Value)=some (.ref tt41))
  (a42:Dk K "compared" zif f42 d42)
  (a43:Dk K "check_alike" ze5 f43 d43)
  (a44:Dk K "kept_leaf" zg5 f44 d44)
  (a45:Dk K "is_kept_leaf" zel f45 d45)
  (a46:Dk K "bars" zrj f46 d46)
  (a47:Dk K "least_bar" zgi f47 d47)
  (a48:Dk K "least_ties" zft f48 d48)
  (a49:Dk K "tie_others" zd8 f49 d49)
  (a50:Dk K "left_without" zda f50 d50)
  (a51:Dk K "standing" zie f51 d51)
  (a52:Dk K "_law_take" zep f52 d52)
  (a53:Dk K "_law_bough" zgz f53 d53)
  (a54:Dk K "_law_boughs" zc9 f54 d54)
  (a55:Dk K "_law_most" zen f55 d55)
  (a56:Dk K "_law_cross" zg7 f56 d56)
  (a57:Dk K "_law_wood" zcj f57 d57)
  (a58:Dk K "_law_has" zji f58 d58)
  (a59:Dk K "_law_barred" zf0 f59 d59)
  (a60:Dk K "_law_old" zhf f60 d60)
  (a61:Dk K "_law_folded" zfp f61 d61)
  (a62:Dk K "_law_alike" zgp f62 d62)
  (a63:Dk K "law" zqy f63 d63)
  (z1:PySem.W.nsIn K mainGlobals "range" = some none)
  (z2:PySem.W.nsIn K mainGlobals "len" = some none)
  (z3:PySem.W.nsIn K mainGlobals "isinstance" = some none)
  (z4:PySem.W.nsIn K mainGlobals "min" = some none)
  (z5:PySem.W.nsIn K mainGlobals "max" = some none)
  (z6:PySem.W.nsIn K mainGlobals "all" = some none)
  (z7:PySem.W.nsIn K mainGlobals "int" = some none)
  (z8:PySem.W.nsIn K mainGlobals "bool" = some none)
  (z9:PySem.W.nsIn K mainGlobals "list" = some none)
  (z10:PySem.W.nsIn K mainGlobals "tuple" = some none)
  (z11:PySem.W.nsIn K mainGlobals "sorted" = some none)
  (z12:PySem.W.nsIn K mainGlobals "sum" = some none)
  (z13:PySem.W.nsIn K mainGlobals "any" = some none)
  (g_NoWares:PySem.W.nsIn K mainGlobals "NoWares" = some (some (.ref y_NoWares)))
  (g_Unlike:PySem.W.nsIn K mainGlobals "Unlike" = some (some (.ref y_Unlike)))
  (xa_NoWares:PySem.W.excIn K y_NoWares zpf zod=true) (xb_NoWares:PySem.W.findIn K (.ref y_NoWares) "__getattribute__" = some (some (.builtin "BaseException.__getattribute__"))) (xc_NoWares:PySem.W.findIn K (.ref y_NoWares) "__getattr__" = some none) (xd_NoWares:PySem.W.findIn K (.ref y_NoWares) "__class__" = some (some (.builtin "object.__class__")))
  (xa_Unlike:PySem.W.excIn K y_Unlike zpf zod=true) (xb_Unlike:PySem.W.findIn K (.ref y_Unlike) "__getattribute__" = some (some (.builtin "BaseException.__getattribute__"))) (xc_Unlike:PySem.W.findIn K (.ref y_Unlike) "__getattr__" = some none) (xd_Unlike:PySem.W.findIn K (.ref y_Unlike) "__class__" = some (some (.builtin "object.__class__")))
  (k_NoWares_NoWares:PySem.W.kitOne K (.ref y_NoWares) (.ref y_NoWares)=some true)
  (k_NoWares_Unlike:PySem.W.kitOne K (.ref y_NoWares) (.ref y_Unlike)=some false)
  (v_NoWares:PySem.W.kitOne K (.ref y_NoWares) (.type "ValueError")=some true)
  (s_NoWares_NoWares:zva K y_NoWares y_NoWares=true)
  (k_Unlike_NoWares:PySem.W.kitOne K (.ref y_Unlike) (.ref y_NoWares)=some false)
  (k_Unlike_Unlike:PySem.W.kitOne K (.ref y_Unlike) (.ref y_Unlike)=some true)
  (v_Unlike:PySem.W.kitOne K (.ref y_Unlike) (.type "ValueError")=some true)
  : (∃fd:FuncData,(∀(s:Shared)(v:Value),BindsTo s fd ⟨[v],[]⟩ [("_law_script",v)])∧∀base:Heap,K.In base→base.Ns mainGlobals mg→(∀p∈([(cc22,tt22),(cc40,tt40),(cc41,tt41)]:List (Addr×Addr)),zdm mg base p.1 p.2)→FnOk l.prog w K mg base CX0 29 fa fd ["_law_script"] (spT tt22 (spT tt40 (spT tt41 (zsj K))))):=by
 have e:=hfa.symm.trans (PySem.W.mg_of X G a63.1)
 cases e
 have T:Txt K mg ⟨f1,f2,f3,f4,f5,f6,f7,f8,f9,f10,f11,f12,f13,f14,f15,f16,f17,f18,f19,f20,f21,f22,f23,f24,f25,f26,f27,f28,f29,f30,f31,f32,f33,f34,f35,f36,f37,f38,f39,f40,f41,f42,f43,f44,f45,f46,f47,f48,f49,f50,f51,f52,f53,f54,f55,f56,f57,f58,f59,f60,f61,f62,fa,cc22,tt22,cc40,tt40,cc41,tt41,y_NoWares,y_Unlike⟩ ⟨d1,d2,d3,d4,d5,d6,d7,d8,d9,d10,d11,d12,d13,d14,d15,d16,d17,d18,d19,d20,d21,d22,d23,d24,d25,d26,d27,d28,d29,d30,d31,d32,d33,d34,d35,d36,d37,d38,d39,d40,d41,d42,d43,d44,d45,d46,d47,d48,d49,d50,d51,d52,d53,d54,d55,d56,d57,d58,d59,d60,d61,d62,d63⟩:=⟨PySem.W.mg_none_of X G z1,PySem.W.mg_none_of X G z2,PySem.W.mg_none_of X G z3,PySem.W.mg_none_of X G z4,PySem.W.mg_none_of X G z5,PySem.W.mg_none_of X G z6,PySem.W.mg_none_of X G z7,PySem.W.mg_none_of X G z8,PySem.W.mg_none_of X G z9,PySem.W.mg_none_of X G z10,PySem.W.mg_none_of X G z11,PySem.W.mg_none_of X G z12,PySem.W.mg_none_of X G z13,a1.df X G (bd2 fun _ _ _ _ _ _ _ _=>rfl),a2.df X G (bd1 fun _ _ _ _ _ _ _=>rfl),a3.df X G (bd2 fun _ _ _ _ _ _ _ _=>rfl),a4.df X G (bd3 fun _ _ _ _ _ _ _ _ _=>rfl),a5.df X G (bd1 fun _ _ _ _ _ _ _=>rfl),a6.df X G (bd2 fun _ _ _ _ _ _ _ _=>rfl),a7.df X G (bd2 fun _ _ _ _ _ _ _ _=>rfl),a8.df X G (bd2 fun _ _ _ _ _ _ _ _=>rfl),a9.df X G (bd2 fun _ _ _ _ _ _ _ _=>rfl),a10.df X G (bd1 fun _ _ _ _ _ _ _=>rfl),a11.df X G (bd2 fun _ _ _ _ _ _ _ _=>rfl),a12.df X G (bd2 fun _ _ _ _ _ _ _ _=>rfl),a13.df X G (bd3 fun _ _ _ _ _ _ _ _ _=>rfl),a14.df X G (bd3 fun _ _ _ _ _ _ _ _ _=>rfl),a15.df X G (bd3 fun _ _ _ _ _ _ _ _ _=>rfl),a16.df X G (bd3 fun _ _ _ _ _ _ _ _ _=>rfl),a17.df X G (bd3 fun _ _ _ _ _ _ _ _ _=>rfl),a18.df X G (bd3 fun _ _ _ _ _ _ _ _ _=>rfl),a19.df X G (bd4 fun _ _ _ _ _ _ _ _ _ _=>rfl),a20.df X G (bd3 fun _ _ _ _ _ _ _ _ _=>rfl),a21.df X G (bd3 fun _ _ _ _ _ _ _ _ _=>rfl),a22.df X G (bd4 fun _ _ _ _ _ _ _ _ _ _=>rfl),a23.df X G (bd3 fun _ _ _ _ _ _ _ _ _=>rfl),a24.df X G (bd5 fun _ _ _ _ _ _ _ _ _ _ _=>rfl),a25.df X G (bd5 fun _ _ _ _ _ _ _ _ _ _ _=>rfl),a26.df X G (bd4 fun _ _ _ _ _ _ _ _ _ _=>rfl),a27.df X G (bd2 fun _ _ _ _ _ _ _ _=>rfl),a28.df X G (bd1 fun _ _ _ _ _ _ _=>rfl),a29.df X G (bd3 fun _ _ _ _ _ _ _ _ _=>rfl),a30.df X G (bd4 fun _ _ _ _ _ _ _ _ _ _=>rfl),a31.df X G (bd1 fun _ _ _ _ _ _ _=>rfl),a32.df X G (bd2 fun _ _ _ _ _ _ _ _=>rfl),a33.df X G (bd2 fun _ _ _ _ _ _ _ _=>rfl),a34.df X G (bd2 fun _ _ _ _ _ _ _ _=>rfl),a35.df X G (bd2 fun _ _ _ _ _ _ _ _=>rfl),a36.df X G (bd3 fun _ _ _ _ _ _ _ _ _=>rfl),a37.df X G (bd3 fun _ _ _ _ _ _ _ _ _=>rfl),a38.df X G (bd4 fun _ _ _ _ _ _ _ _ _ _=>rfl),a39.df X G (bd2 fun _ _ _ _ _ _ _ _=>rfl),a40.df X G (bd2 fun _ _ _ _ _ _ _ _=>rfl),a41.df X G (bd3 fun _ _ _ _ _ _ _ _ _=>rfl),a42.df X G (bd2 fun _ _ _ _ _ _ _ _=>rfl),a43.df X G (bd2 fun _ _ _ _ _ _ _ _=>rfl),a44.df X G (bd3 fun _ _ _ _ _ _ _ _ _=>rfl),a45.df X G (bd4 fun _ _ _ _ _ _ _ _ _ _=>rfl),a46.df X G (bd4 fun _ _ _ _ _ _ _ _ _ _=>rfl),a47.df X G (bd3 fun _ _ _ _ _ _ _ _ _=>rfl),a48.df X G (bd3 fun _ _ _ _ _ _ _ _ _=>rfl),a49.df X G (bd4 fun _ _ _ _ _ _ _ _ _ _=>rfl),a50.df X G (bd2 fun _ _ _ _ _ _ _ _=>rfl),a51.df X G (bd2 fun _ _ _ _ _ _ _ _=>rfl),a52.df X G (bd2 fun _ _ _ _ _ _ _ _=>rfl),a53.df X G (bd3 fun _ _ _ _ _ _ _ _ _=>rfl),a54.df X G (bd2 fun _ _ _ _ _ _ _ _=>rfl),a55.df X G (bd2 fun _ _ _ _ _ _ _ _=>rfl),a56.df X G (bd2 fun _ _ _ _ _ _ _ _=>rfl),a57.df X G (bd1 fun _ _ _ _ _ _ _=>rfl),a58.df X G (bd2 fun _ _ _ _ _ _ _ _=>rfl),a59.df X G (bd2 fun _ _ _ _ _ _ _ _=>rfl),a60.df X G (bd2 fun _ _ _ _ _ _ _ _=>rfl),a61.df X G (bd1 fun _ _ _ _ _ _ _=>rfl),a62.df X G (bd2 fun _ _ _ _ _ _ _ _=>rfl),a63.df X G (bd1 fun _ _ _ _ _ _ _=>rfl),e22,e40,e41,PySem.W.mg_of X G g_NoWares,PySem.W.mg_of X G g_Unlike,⟨xa_NoWares,xb_NoWares,xc_NoWares,xd_NoWares⟩,⟨xa_Unlike,xb_Unlike,xc_Unlike,xd_Unlike⟩,k_NoWares_NoWares,k_NoWares_Unlike,v_NoWares,s_NoWares_NoWares,k_Unlike_NoWares,k_Unlike_Unlike,v_Unlike⟩
 exact⟨d63,zz2 a63.2 fun _ _ _ _ _ _ _=>rfl,fun base _ _ LL=>zy5 T (LL _ List.mem_cons_self) (LL _ (List.mem_cons_of_mem _ List.mem_cons_self)) (LL _ (List.mem_cons_of_mem _ (List.mem_cons_of_mem _ List.mem_cons_self)))⟩
theorem walk{l:PySem.W.OpenLaw}{q:Program}{loose:List Str}{XP:(Str→Option Value)→Heap→Prop}{YP:World→Heap→Prop}{d:DefRec}{K:Params→PySem.W.Frag}{c22 P22 c40 P40 c41 P41:Addr}(hn:l.most=some 63)(hdf:d.params.defaults=[])
  (hY:∀(w:World)(h:Heap),YP w h→(K w.params).In h)
  (hK0:∀w:World,PySem.W.noTabs (K w.params)=true) (hT:∀(w:World)(h:Heap),YP w h→PySem.W.TabsAt [(c22,P22),(c40,P40),(c41,P41)] h)
(F:∀(w:World)(mg:Str→Option Value)(fa:Addr)(h:Heap),(K w.params).In h→h.Ns mainGlobals mg→mg d.name=some (.ref fa) →
   ∃fd:FuncData,(∀(s:Shared)(u:Value),BindsTo s fd ⟨[u],[]⟩ [("_law_script",u)])∧∀base:Heap,(K w.params).In base→base.Ns mainGlobals mg→(∀p∈([(c22,P22),(c40,P40),(c41,P41)]:List (Addr×Addr)),zdm mg base p.1 p.2)→FnOk l.prog w (K w.params) mg base CX0 29 fa fd ["_law_script"] (spT P22 (spT P40 (spT P41 (zsj (K w.params)))))):
  PySem.W.WalkO q loose XP YP l.row.toRowW d [] (fun f vs=>PySem.call f vs):=
 L2.walk_ofT (n:=63) (k:=29) (x := "_law_script") (tabs:=fun _=>[(c22,P22),(c40,P40),(c41,P41)]) (sp:=fun w=>(spT P22 (spT P40 (spT P41 (zsj (K w.params)))))) hn (by decide) hdf ⟨rfl,by decide,by decide⟩ hY hK0 hT F (fun _ _ a ns hl hT hS=>⟨hT _ List.mem_cons_self,hT _ (List.mem_cons_of_mem _ List.mem_cons_self),hT _ (List.mem_cons_of_mem _ (List.mem_cons_of_mem _ List.mem_cons_self)),a,ns,rfl,hS,hl,fun _=>rfl⟩)
end Ow
structure PySem.W.Fast:Prop where
 (tw10126208993178343143 tw3326086254820425801 tw241205269956394014 tw11659692451495138932 tw12751891718293469632 tw6519662759221486391 tw6165396303592008224 tw15331233311689317251 tw11575655644572541914 tw15231383210026200430 tw13464645485601640942 tw11552018357499053956 tw6494326326098795915 tw4736507740339178148 tw9276259104952384134 tw5200510274595054867 tw17126088679188469966 tw16655651041873770760 tw3471016774902076604 tw263318478276409016 tw7747414122541476035 tw17342466120055873857 tw12830542970348846239 tw3086932010941503701 tw5531447816327569106 tw16304528996717793562 tw3235771819456914412 tw10004592683505240784 tw15415131131160357129 tw10051512158181923904 tw15179783919798818010 tw5674939837969271571 tw5285490467931148460 tw16559277237770500979 tw10795665693086913346 tw7575353938466899400 tw18404425470136180093 tw2213438165584085716 tw11575872528146350493 tw13226309084672288416 tw2968250644976736343 tw2730264200032425377 tw12847570404248188782 tw8872321312049670371 tw18035880798288560894 tw12908379039199096174 tw17505719409302342409 tw5158416114871374792 tw5144929571734250075 tw4512640476537783482 tw17908948253630626063 tw15653339714586202908 tw15753496912080901689 tw14646923631654065822 tw7085828774101286991 tw10347724490147329293 tw10329876308211316163 tw15810240654235471401 tw15928209473787360510 tw9709726668554799502 tw18408343941482018597 tw6857853946149637636 tw13676872084367490345 tw16026315521215837804 tw8513296923980156982 tw1106826335565892049 tw15096116334921977248 tw15216760632198212203 tw577840550623368792 tw15907957488002646932 tw17777068113239429621 tw16960477950940922743 tw9160751214317646140 tw14903554218293125884 tw7985054618362537726 tw8076694627823496015 tw9906828218584377139 tw11042382502853131232 tw16573148452392477500 tw5488609873479000919 tw3050926499098145891 tw3349189319762020994 tw13160951959356514404 tw14899450545323558323 tw8418165326835822037 tw7263919226064837469 tw15135881193646401098 tw10659147735250141102 tw15553881489677186894 tw15787568741678426097 tw10389781915812082522 tw1475133145883028083 tw10232720624364811011 tw623549443038223904 tw11542793378896421192 tw16492125239155332364 tw7495043723937277249 tw9680502094207804664 tw13680869049358679631 tw15490840332388255738 tw2839926653050155816 tw8457064500980117928 tw17004388482249167790 tw12710072323224059846 tw8832304323618701678 tw10074290804226525252 tw14326934504496610995 tw9699168390152167379 tw12706895326773189118 tw16155440047690179340 tw6085020002906050063 tw15875921555528189944 tw15553684095824357715 tw3891648609404830725 tw7737630606973860020 tw10119888042940040962 tw13514457207024290303 tw7893349106501243785 tw1552258923533106802 tw17096741705148334222 tw12263620581779858117 tw14603840822023704751 tw13714621320862418534 tw3930298753457344327 tw2575528952610324060 tw7044709869076503953 tw14018647825934894574 tw16141200547757473187 tw5252195310524067039 tw7632720066863379208 tw13915357556210365340 tw11302268183398146336 tw7333336401919998303 tw14433654047888053162 tw1444146453568580746 tw13640568069948165840 tw7430808639695269822 tw12989893474103843880 tw5295995468327534147 tw214848832527048343 tw849021425097670084 tw11231320090320523862 tw2823937110634719414 tw16043417610971588635 tw3425368729033030807 tw15774055769566646849 tw425210282458414267 tw16968829173811526688 tw10100674042072847831 tw6877944089007541997 tw16709909953520017532 tw5729704794403970886 tw10361999438806592753 tw10897982946329139442 tw4057104983142914190 tw12304373806639531025 tw7630659674185958821 tw8215918593755512302 tw8144850648885004261 tw16486931416856589349 tw14626284011816637975 tw4614806152595791612 tw9922280213591412157 tw11914284659789185413 tw8275850933533074969 tw3981466435480708875 tw14037402065644367277 tw12184549519977404963 tw484754410085944465 tw8001398837960472408 tw18123558364237553989 tw3247554270375269142 tw10501178608713740697 tw3227880174126760071 tw6372794441391922498 tw1087181281291207114 tw10771634739279534083 tw2106641728269706823 tw1045655971679147653 tw7221331231165590863 tw2497614463251687943 tw8289119296353908595 tw10107878295579737058 tw2194641030914390776 tw8180859010751830133 tw13021518371911931726 tw16690823566555005558 tw9104433906623644619 tw15468077812755586321 tw8263297586566821789 tw17149560736748008544 tw4945342671455756954 tw14640842009240481047 tw9520412585240220393 tw2896284710806512656 tw12471921335253778685 tw10381953985624317835 tw11594724023000218069 tw4521404004715779865 tw8690874360716047866 tw10748093859536323302 tw16184949988355944467 tw4422916862258166751 tw16608114989008186143 tw11088773259840632101 tw3326265631605761374 tw2892721263899431418 tw12792445671896347335 tw9799156721001745236 tw6966157887812054053 tw26335427195560569 tw16940652509844201363 tw4653410091731675969 tw11984971994758257502 tw12253803524745140928 tw13005982083620058813 tw12927029629956355352 tw3725811449293700962 tw1200383631454819745 tw8999247243261400414 tw6764912429271228451 tw12634886237632355051 tw14711540134479997316 tw4282575865721096910 tw10084838705815250279 tw10787712617525986467 tw14285957578409445529 tw13341760607809788855 tw8387733696439252284 tw4936817960210178890 tw2724111199646917125 tw15968755126748850093 tw9282413872082597826 tw4888078693464097448 tw13305017926661103854 tw6264139612784879858 tw2592517702833649679 tw1186155866637574733 tw18080519028533435470 tw279704076847010827 tw10995072281903248353 tw4457462263803505357 tw13252853212053521475 tw3423618233257576214 tw12351086922656537312 tw10886476720941348543 tw109766182895009608 tw11365160977861464725 tw12846335225579874064 tw2699957986411989813 tw2648832899954228415 tw17907886840643902262 tw1341861102935307413 tw17808018024521472871 tw17135593014225254384 tw16241832541042120457 tw17245425878090880297 tw9293390873373979947 tw2129007475248987430 tw12297364024907467443 tw14695728386199928203 tw5800929585624473158 tw2743611639683214827 tw18276046725228774857 tw5658622987019653050 tw15307991591579257296 tw14750202115609272583 tw1143816012619338374 tw5795508362071170223 tw17041868478677548913 tw14171892023724423427 tw9431626646949137005 tw14109918096747910190 tw853359145186296353 tw1848829364215439821 tw10388613268659022353 tw1454137356976240847 tw7779158432959905500 tw10277977116845533850 tw17248497178614572017 tw8665192008071229325 tw16355278846476396958 tw8648323081884081037 tw13940749493654860726 tw7170142270306895823 tw3549636769486206168 tw2340705295293940625 tw8719893266343145284 tw501492901757553187 tw10055436963886947805 tw13990760831336352667 tw4369483187259533751 tw12537107183939797351 tw3013567019143908453 tw8015104526293817068 tw16210677583768142298 tw8387365812510975900 tw8701086756289232560 tw14886210523999314025 tw10443229835127127021 tw14480401673418254648 tw12470719073552375380 tw10180291187331345514 tw6188175268471637025 tw7116829441767482578 tw14501934046049004466 tw4197394554512915105 tw3290569987502954405 tw5265514826853166609 tw9716772997382530609 tw13406953697798834047 tw10515877270963745979 tw7186483275512346719 tw18218476139615876677 tw13978027153039889110 tw3134574181241028295 tw14534920968673688120 tw13199066414910648626 tw12562319190562973910 tw10304578936295582316 tw6626203808538372960 tw8016561054827229018 tw14555034202084953786 tw8585116864268414581 tw8522632550864557285 tw6899144778135851176 tw11690461102474102950 tw9948722405507004471 tw13048080569424500727 tw2847225890953505155 tw8280069309378364144 tw16058279984735870589 tw4675528352611491666 tw7925591714696437678 tw8086982247047473421 tw17912300327981761550 tw4843191143976999202 tw8032395368439994160 tw7415565124150011076 tw17909564539247998739 tw17743556575423042896 tw11843885973980267094 tw8889845228248051366 tw15096394564139113068 tw1059145282510760840 tw13451223968438968414 tw11522065022912663219 tw13403586471907429582 tw7918940912736427480 tw2787707336953676542 tw9795248841501974619 tw5916340198596639100 tw7569201222222134080 tw9353028813920246679 tw4699113661420379003 tw8502594273126624697 tw2348027738651000021 tw6930113364889562932 tw9713483989142967878 tw876474270853880177 tw4027407230039759523 tw14205057699896913169 tw6636075952061809129 tw11005612751594102503 tw13940049250793164362 tw13591179716059127341 tw3190218213832204820 tw15892904810057332572 tw4494322866251708614 tw11840863198453796016 tw2102145672855708998 tw17047703315873537773 tw512475379470040219 tw1973888686848590767 tw971330562966189543 tw15752619450860797748 tw10345030363843288794 tw1141828133651905638 tw13044085040146689751 tw13307936944689971816 tw2981555153560548208 tw16440302801097401862 tw4578999171499656979 tw481561020314169228 tw14790740493245387876 tw7419103618439563675 tw9817073683192192323 tw5035372756997931994 tw2078842161418803691 tw2137063465780683872 tw15701942948111260308 tw7368854271776591960 tw17644601685765895522 tw16655500521222967329 tw6982293880414920163 tw12372560294513003120 tw11452756128462202336 tw12635974168610268263 tw16334666625563512863 tw5340378573836886964 tw4274143436623262341 tw16656280531542176992 tw17542555392561336399 tw6128127721575362435 tw14599642450384067034 tw9745884771571528782 tw7314395183392205103 tw10822968958651428987 tw10704412633269017737 tw15272929738466927924 tw11515679081691726682:True)
open PySem PySem.W PyProof.Rows
set_option maxRecDepth 100000 in
set_option maxHeartbeats 0 in
theorem PySem.Challenge.cw_optionwood_k73_whole_folded_sells_the_sa_holds : PySem.Challenge.rw_optionwood_k73_whole_folded_sells_the_sa.Holds := by
 w_on; o_law; k_head; (case hw => w_witness2)
 k_fill
 refine' Ow.walk (l := PySem.Challenge.rw_optionwood_k73_whole_folded_sells_the_sa) (c22 := _) (P22 := _) (c40 := _) (P40 := _) (c41 := _) (P41 := _) rfl rfl (fun w h Y => PySem.W.km_in_of Y) ?K0 ?hT ?F
 case F =>
  intro w mg fa h KX G ad
  refine' Ow.all_mk KX G ad ?a1 ?a2 ?a3 ?a4 ?a5 ?a6 ?a7 ?a8 ?a9 ?a10 ?a11 ?a12 ?a13 ?a14 ?a15 ?a16 ?a17 ?a18 ?a19 ?a20 ?a21 ?a22 ?e22 ?m22 ?n22 ?a23 ?a24 ?a25 ?a26 ?a27 ?a28 ?a29 ?a30 ?a31 ?a32 ?a33 ?a34 ?a35 ?a36 ?a37 ?a38 ?a39 ?a40 ?e40 ?m40 ?n40 ?a41 ?e41 ?m41 ?n41 ?a42 ?a43 ?a44 ?a45 ?a46 ?a47 ?a48 ?a49 ?a50 ?a51 ?a52 ?a53 ?a54 ?a55 ?a56 ?a57 ?a58 ?a59 ?a60 ?a61 ?a62 ?a63 ?z1 ?z2 ?z3 ?z4 ?z5 ?z6 ?z7 ?z8 ?z9 ?z10 ?z11 ?z12 ?z13 ?g_NoWares ?g_Unlike ?xa_NoWares ?xb_NoWares ?xc_NoWares ?xd_NoWares ?xa_Unlike ?xb_Unlike ?xc_Unlike ?xd_Unlike ?k_NoWares_NoWares ?k_NoWares_Unlike ?v_NoWares ?s_NoWares_NoWares ?k_Unlike_NoWares ?k_Unlike_Unlike ?v_Unlike
  all_goals try (refine' L2.dk ?a ?l ?c ?k; (case a => k_is); (case l => k_is); (case c => k_is); (case k => k_is))
  (case e22 => exact rfl)
  (case m22 => k_is)
  (case n22 => exact rfl)
  (case e40 => exact rfl)
  (case m40 => k_is)
  (case n40 => exact rfl)
  (case e41 => exact rfl)
  (case m41 => k_is)
  (case n41 => exact rfl)
  (case z1 => k_is)
  (case z2 => k_is)
  (case z3 => k_is)
  (case z4 => k_is)
  (case z5 => k_is)
  (case z6 => k_is)
  (case z7 => k_is)
  (case z8 => k_is)
  (case z9 => k_is)
  (case z10 => k_is)
  (case z11 => k_is)
  (case z12 => k_is)
  (case z13 => k_is)
  (case g_NoWares => k_is)
  (case g_Unlike => k_is)
  (case xa_NoWares => first | k_is | kernel_rfl)
  (case xb_NoWares => first | k_is | kernel_rfl)
  (case xc_NoWares => first | k_is | kernel_rfl)
  (case xd_NoWares => first | k_is | kernel_rfl)
  (case xa_Unlike => first | k_is | kernel_rfl)
  (case xb_Unlike => first | k_is | kernel_rfl)
  (case xc_Unlike => first | k_is | kernel_rfl)
  (case xd_Unlike => first | k_is | kernel_rfl)
  (case k_NoWares_NoWares => first | k_is | kernel_rfl)
  (case k_NoWares_Unlike => first | k_is | kernel_rfl)
  (case v_NoWares => first | k_is | kernel_rfl)
  (case s_NoWares_NoWares => first | k_is | kernel_rfl)
  (case k_Unlike_NoWares => first | k_is | kernel_rfl)
  (case k_Unlike_Unlike => first | k_is | kernel_rfl)
  (case v_Unlike => first | k_is | kernel_rfl)
 case K0 => intro w; kernel_rfl
 case hT =>
  intro w h Y q hq
  simp only [List.mem_cons, List.not_mem_nil, or_false] at hq
  rcases hq with rfl | rfl | rfl
  ·exact ⟨PySem.W.codeHd_of_K (PySem.W.km_in_of Y) (by kernel_rfl), PySem.W.km_tabs_of Y _ (by decide)⟩
  ·exact ⟨PySem.W.codeHd_of_K (PySem.W.km_in_of Y) (by kernel_rfl), PySem.W.km_tabs_of Y _ (by decide)⟩
  ·exact ⟨PySem.W.codeHd_of_K (PySem.W.km_in_of Y) (by kernel_rfl), PySem.W.km_tabs_of Y _ (by decide)⟩
#print axioms PySem.Challenge.cw_optionwood_k73_whole_folded_sells_the_sa_holds

