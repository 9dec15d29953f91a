import PyProof.Rows.All
import Wide.All
import OpenK.AllK
import Wide.FinOn
import Lean
import PyProof.EqAt
import PyProof.EqKinds
import PyProof.TupleCall
import PySem.Challenge.RW_optionwood_k81_texts_refused
set_option Elab.async false
set_option linter.all false
set_option maxRecDepth 100000
set_option maxRecDepth 100000
set_option maxHeartbeats 4000000
abbrev Gz:=@List.length_map
abbrev GB:=@PyProof.Rows.cps_toList_append
abbrev GC:=@List.length_append
abbrev GD:=@PySem.wpAny_bind
abbrev GE:=@List.mem_singleton
abbrev GF:=@decide_eq_true
abbrev GG:=@List.getElem?_eq_getElem
abbrev GH:=@List.append_assoc
abbrev GI:=@List.mem_cons
abbrev GJ:=@of_decide_eq_true
abbrev GL:=@List.mem_append
abbrev GM:=@List.mem_cons_self
abbrev GN:=@List.length_cons
abbrev GO:=@List.mem_of_getElem?
abbrev GP:=@List.mem_cons_of_mem
abbrev GQ:=@List.getElem?_map
abbrev GR:=@PySem.Heap.get?_push_of_some
abbrev GS:=@PySem.Heap.lt_size
abbrev GU:=@List.getElem?_eq_some_iff
abbrev GV:=@PySem.wpAny_pure
abbrev GW:=@Nat.le_refl
abbrev GX:=@List.map_append
abbrev GY:=@if_neg
abbrev GZ:=@decide_eq_false
abbrev G8:=@List.length_take
abbrev Ha:=@Bool.and_eq_true
abbrev Hb:=@List.size_toArray
abbrev Hc:=@List.mem_map
abbrev Hd:=@List.length_drop
abbrev He:=@List.getD_eq_getElem?_getD
abbrev Hf:=@PySem.F.plainAttrs_str
abbrev Hg:=@PySem.boot_len
abbrev Hh:=@Bool.false_ne_true
abbrev Hi:=@Nat.le_of_ble_eq_true
abbrev Hj:=@Nat.lt_of_lt_of_le
abbrev Hk:=@PySem.Heap.get?_push_size
abbrev Hl:=@if_pos
abbrev Hm:=@Nat.le_trans
abbrev Hn:=@PySem.F.plainAttrs_list
abbrev Ho:=@Bool.eq_false_iff
abbrev Hq:=@Nat.ne_of_lt
abbrev Hr:=@PyProof.Rows.boot_isinstance
abbrev Hs:=@List.not_mem_nil
abbrev Ht:=@PySem.F.slot_list_append
abbrev Hu:=@PySem.F.type_list_append
abbrev Hv:=@List.all_eq_true
abbrev Hw:=@List.mem_append_right
abbrev Hx:=@List.length_pos_iff
abbrev Hy:=@List.take_length
abbrev Hz:=@PySem.F.slot_str_join
abbrev HA:=@PySem.F.type_str_join
abbrev HC:=@List.take_of_length_le
abbrev HD:=@List.map_cons
abbrev HE:=@Bool.false_and
abbrev HF:=@PySem.sizeLine_eq
abbrev HG:=@List.mem_of_mem_take
abbrev HH:=@Array.length_toList
abbrev HI:=@Option.some.inj
abbrev HJ:=@Nat.lt_of_le_of_lt
abbrev HK:=@decide_eq_true_iff
abbrev HL:=@List.mem_of_mem_drop
abbrev HM:=@PyProof.Rows.boot_tuple
abbrev HN:=@List.map_map
abbrev HP:=@List.getElem?_append_right
abbrev HQ:=@List.take_succ
abbrev HR:=@PySem.W.mg_none_of
abbrev HU:=@PySem.PassesOwn.never
abbrev HV:=@Bool.true_and
abbrev HW:=@Nat.lt_irrefl
abbrev HX:=@List.getElem?_append_left
abbrev HY:=@PyProof.Rows.boot_str
abbrev HZ:=@List.append_nil
abbrev Ia:=@PySem.F.slot_str_split
abbrev Ib:=@PySem.F.type_str_split
abbrev Ic:=@PySem.StrLaws.join_length_le
abbrev Ie:=@List.length_filter_le
abbrev Ig:=@Array.getElem?_eq_getElem
abbrev Ih:=@List.mem_range
abbrev Ii:=@PySem.W.mg_of
abbrev Ij:=@Ne.symm
abbrev Ik:=@PySem.Heap.get?_update_self
abbrev Il:=@List.contains_iff_mem
abbrev Im:=@List.getElem?_toArray
abbrev Io:=@Nat.ne_of_gt
abbrev Ip:=@List.flatMap_append
abbrev Iq:=@List.mem_map_of_mem
abbrev Ir:=@List.mem_filter
abbrev Iu:=@Int.toNat_natCast
abbrev Iv:=@Nat.zero_le
abbrev Iw:=@or_false
abbrev Ix:=@List.length_replicate
abbrev Iy:=@PySem.Heap.SameBut.update
abbrev Iz:=@List.filterMap_cons
abbrev IA:=@Bool.eq_iff_iff
abbrev IC:=@PySem.W.kia_one
abbrev ID:=@congrArg
abbrev IE:=@List.length_range
abbrev IF:=@decide_eq_true_eq
abbrev IG:=@PyProof.Rows.boot_list
abbrev IH:=@List.getElem_mem
abbrev II:=@List.map_take
abbrev IJ:=@PySem.wpAny_field
abbrev IK:=@List.take_append_drop
abbrev IL:=@Nat.lt_succ_of_lt
abbrev IM:=@PyProof.Rows.callWith_type1
abbrev IN:=@List.length_range'
abbrev IP:=@List.mem_append_left
abbrev IQ:=@List.pairwise_cons
abbrev IR:=@PySem.wpAny_mono
abbrev IS:=@PySem.Heap.get?_update_other
abbrev IT:=@PySem.wpAny_call_entry
abbrev IU:=@Int.toNat_of_nonneg
abbrev IV:=@beq_eq_false_iff_ne
abbrev IW:=@List.flatMap_cons
abbrev IY:=@PySem.wpAny_newObj_type
abbrev IZ:=@PySem.wpAny_truthy_bool
abbrev Ja:=@List.getElem?_eq_none
abbrev Jb:=@List.map_drop
abbrev Jc:=@PySem.wpAny_holding
abbrev Jd:=@PySem.F.called_set
abbrev Je:=@PySem.Around.under_plainId
abbrev Jf:=@PySem.wpAny_callSpecial?_slot
abbrev Jg:=@Array.getElem?_eq_none
abbrev Jh:=@Bool.not_eq_true'
abbrev Ji:=@List.take_succ_eq_append_getElem
abbrev Jj:=@PySem.mem_of_lookup
abbrev Jk:=@List.nodup_cons
abbrev Jl:=@PySem.codeAny_builtin
abbrev Jm:=@PySem.wpAny_loadPart'
abbrev Jn:=@List.cons.inj
abbrev Jo:=@PySem.Heap.size_push
abbrev Jp:=@List.length_eq_zero_iff
abbrev Jq:=@PySem.wpAny_loadPart_at
abbrev Jr:=@Nat.min_eq_left
abbrev Js:=@PyProof.Rows.F.plain_set_update_loop
abbrev Jt:=@List.drop_of_length_le
abbrev Ju:=@Nat.le_of_lt
abbrev Jv:=@PySem.SeqAt.canLay_of_shaped
abbrev Jw:=@List.all_cons
abbrev Jx:=@Array.all_eq_true'
abbrev Jy:=@Array.getElem?_eq_some_iff
abbrev Jz:=@PySem.F.slot_tuple_iterator_next
abbrev JA:=@List.filter_append
abbrev JB:=@PySem.Obj.data_mapFields
abbrev JC:=@PySem.wpAny_Call_Name_kw
abbrev JD:=@PySem.wpAny_setField_rec
abbrev JE:=@Array.getElem?_toList
abbrev JF:=@PyProof.Rows.boot_int
abbrev JG:=@Bool.or_eq_true
abbrev JH:=@Array.mem_toList_iff
abbrev JI:=@List.map_congr_left
abbrev JJ:=@List.map_eq_nil_iff
abbrev JK:=@List.filter_cons_of_neg
abbrev JL:=@List.filter_cons_of_pos
abbrev JM:=@Nat.le_add_right
abbrev JN:=@Nat.min_eq_right
abbrev JO:=@PySem.wpAny_seqItems
abbrev JP:=@PySem.wpAny_setField
abbrev JQ:=@Option.map_eq_some_iff
abbrev JR:=@PySem.wpAny_nextOf_list_item
abbrev JS:=@PySem.wpAny_pyIter_tuple
abbrev JT:=@List.Perm.append_left
abbrev JU:=@List.length_singleton
abbrev JV:=@PySem.Obj.isFreed_of_fields
abbrev JW:=@PySem.builtinLookup_eq_fast
abbrev JX:=@List.nodup_append
abbrev JY:=@PySem.F.typeOf_object_class
abbrev JZ:=@List.Perm.refl
abbrev J0:=@List.perm_ext_iff_of_nodup
abbrev J1:=@Nat.pow_le_pow_right
abbrev J2:=@PySem.call_meets
abbrev J3:=@List.mem_flatMap
abbrev J4:=@PySem.codeAny_mono
abbrev J5:=@PySem.wpAny_askSetting
abbrev J6:=@List.drop_eq_getElem_cons
abbrev J7:=@PySem.F.plain_extend_loop
abbrev J8:=@Option.some_ne_none
abbrev J9:=@PyProof.Rows.F.entry_set_update_loop
abbrev Ka:=@PySem.wpAny_isSubtype_exc
abbrev Kb:=@PyProof.Rows.boot_sorted
abbrev Kc:=@PySem.F.slot_list_extend
abbrev Kd:=@PySem.F.type_list_extend
abbrev Ke:=@PySem.strLen_append
abbrev Kf:=@List.all_append
abbrev Kg:=@List.forIn_cons
abbrev Kh:=@List.head?_cons
abbrev Ki:=@PySem.wpAny_execs_nil
abbrev Kj:=@PySem.wpAny_passesOwn
abbrev Kk:=@Bool.not_eq_false'
abbrev Kl:=@Int.emod_lt_of_pos
abbrev Km:=@List.append_of_mem
abbrev Kn:=@List.contains_cons
abbrev Ko:=@beq_iff_eq
abbrev Kq:=@of_decide_eq_false
abbrev Kr:=@PySem.typeIs_str
abbrev Ks:=@Nat.add_sub_cancel_left
abbrev Kt:=@List.drop_eq_nil_of_le
abbrev Ku:=@List.forIn_nil
abbrev Kv:=@List.getElem?_set_self
abbrev Kw:=@Nat.add_le_add
abbrev Kx:=@PySem.PassesOwn.leaving
abbrev Ky:=@if_true
abbrev Kz:=@PySem.wpAny_pyIter_list
abbrev KA:=@PySem.wpAny_setState_of
abbrev KB:=@Bool.not_eq_true
abbrev KC:=@PySem.F.slot_str_ascii_iterator_iter
abbrev KD:=@List.filter_cons
abbrev KE:=@Nat.lt_succ_self
abbrev KF:=@PySem.plainId_quiet
abbrev KG:=@PySem.wpAny_standAt
abbrev KH:=@List.getElem?_set_ne
abbrev KI:=@PySem.W.looks_findIn
abbrev KJ:=@PySem.codeAny_call_builtin
abbrev KL:=@PySem.F.slot_zip_next
abbrev KM:=@Int.emod_nonneg
abbrev KN:=@PySem.typeLookup_type
abbrev KO:=@PySem.wpAny_updateSeq
abbrev KP:=@List.getElem?_range
abbrev KQ:=@List.getElem_of_mem
abbrev KR:=@List.take_succ_cons
abbrev KS:=@PySem.F.slot_gs_get
abbrev KT:=@ne_true_of_eq_false
abbrev KU:=@PySem.wpAny_setEntries_of
abbrev KW:=@List.idxOf_lt_length_of_mem
abbrev KY:=@Nat.lt_or_ge
abbrev KZ:=@Nat.sub_self
abbrev K0:=@Bool.false_eq_true
abbrev K1:=@PySem.Calls.Constant_str
abbrev K2:=@PySem.F.args_str_split_2
abbrev K3:=@Int.natAbs_natCast
abbrev K4:=@List.filterMap_map
abbrev K5:=@List.getElem?_drop
abbrev K6:=@List.mem_filterMap
abbrev K7:=@List.perm_append_singleton
abbrev K8:=@Nat.eq_zero_or_pos
abbrev K9:=@Option.toList_some
abbrev La:=@PySem.F.entry_str_split
abbrev Lb:=@List.mem_range'_1
abbrev Lc:=@List.pairwise_map
abbrev Ld:=@Nat.le_succ
abbrev Le:=@PySem.Obj.cls_mapFields
abbrev Lf:=@PySem.slot_list_getitem
abbrev Lg:=@PySem.wpAny_pyIter_slot
abbrev Lh:=@List.Pairwise.imp_of_mem
abbrev Li:=@List.take_nil
abbrev Lj:=@PySem.wpAny_attempt
abbrev Lk:=@Array.toList_inj
abbrev Ll:=@PySem.F.slot_str_split
abbrev Lm:=@List.cons_append
abbrev Ln:=@List.getElem?_replicate
abbrev Lo:=@List.range'_succ
abbrev Lp:=@Nat.not_lt_of_le
abbrev Lq:=@Nat.toDigits_of_lt_base
abbrev Lr:=@PyProof.Rows.boot_range
abbrev Ls:=@beq_self_eq_true
abbrev Lu:=@PySem.wpAny_execs_cons
abbrev Lv:=@PySem.wpAny_isInstance
abbrev Lw:=@PySem.wpAny_rule
abbrev Lx:=@List.foldl_cons
abbrev Ly:=@List.length_nil
abbrev Lz:=@List.of_mem_zip
abbrev LA:=@List.range_succ
abbrev LB:=@Nat.not_lt_zero
abbrev LC:=@Bool.and_false
abbrev LD:=@List.drop_zero
abbrev LF:=@List.nodup_nil
abbrev LG:=@List.take_left
abbrev LH:=@List.take_zero
abbrev LI:=@if_false
abbrev LJ:=@Bool.and_true
abbrev LK:=@Bool.false_or
abbrev LL:=@List.any_cons
abbrev R:=@rfl
namespace L2
open PySem PySem.Spec PyProof.Rows
abbrev fE:=Sum Int Str
def sG:fE->Value->Bool
 |.inl k,v=>Value.isInt k v
 |.inr x,v=>Value.isStrOf x v
def Bt(w:World):fE->Int
 |.inl k=>hashInt k
 |.inr x=>hashStr w x
theorem i4:∀{k:fE} {v:Value},sG k v=true->(∃i t,k=Sum.inl i/\v=Value.int i t)\/(∃x t,k=Sum.inr x/\v=Value.str x t)
 |.inl i,v,h=>by
  obtain⟨t,e⟩:=Value.isInt_shape (k:=i) (v:=v) h;exact .inl ⟨i,t,R,e⟩
 |.inr x,v,h=>by
  obtain⟨t,e⟩:=Value.isStrOf_shape (x:=x) (v:=v) h;exact .inr ⟨x,t,R,e⟩
theorem zq(a b:Int):decide ((Sum.inl a:fE)=Sum.inl b)=(a==b):=by
 by_cases e:a=b
 ·subst e;simp
 ·have h:¬(Sum.inl a:fE)=Sum.inl b:=λq=>e (Sum.inl.inj q);rw[GZ h];exact(IV.mpr e).symm
theorem Ay(a b:Str):decide ((Sum.inr a:fE)=Sum.inr b)=decide (a=b):=by
 by_cases e:a=b
 ·subst e;simp
 ·have h:¬(Sum.inr a:fE)=Sum.inr b:=λq=>e (Sum.inr.inj q);rw[GZ h,GZ e]
theorem zU(a:Int)(b:Str):decide ((Sum.inl a:fE)=Sum.inr b)=false:=GZ (λq=>nomatch q)
theorem zv(a:Str)(b:Int):decide ((Sum.inr a:fE)=Sum.inl b)=false:=GZ (λq=>nomatch q)
def wF(prog:Program)(w:World):PySem.KeyKind prog w fE where
 is:=sG
 hash:=Bt w
 inj:=λv a b g f=>by
  rcases i4 g with⟨i,t,rfl,rfl⟩|⟨x,t,rfl,rfl⟩
  ·rcases i4 f with⟨j,u,rfl,e⟩|⟨y,u,rfl,e⟩
   ·injection e with c _;rw[c]
   ·exact nomatch e
  ·rcases i4 f with⟨j,u,rfl,e⟩|⟨y,u,rfl,e⟩
   ·exact nomatch e
   ·injection e with c _;rw[c]
 byValue:=λk v h=>by
  rcases i4 h with⟨i,t,rfl,rfl⟩|⟨x,t,rfl,rfl⟩<;>rfl
 pyHash:=λd h=>by
  rcases i4 d with⟨i,t,rfl,rfl⟩|⟨x,t,rfl,rfl⟩
  ·exact wpAny_pyHash_int h
  ·exact wpAny_pyHash_str h
 eqBool:=λl d h=>by
  rcases i4 l with⟨i,t,rfl,rfl⟩|⟨x,t,rfl,rfl⟩
  ·rcases i4 d with⟨j,u,rfl,rfl⟩|⟨y,u,rfl,rfl⟩
   ·rw[zq] at h;exact wpAny_eqBool_int h
   ·rw[zU] at h;exact SeqAt.EqAt.int_str i t y u _ _ _ _ h
  ·rcases i4 d with⟨j,u,rfl,rfl⟩|⟨y,u,rfl,rfl⟩
   ·rw[zv] at h;exact SeqAt.EqAt.str_int x t j u _ _ _ _ h
   ·rw[Ay] at h;exact wpAny_eqBool_str h
 «strs»:=λk x t v h=>by
  rcases i4 h with⟨i,u,rfl,e⟩|⟨y,u,rfl,e⟩
  ·exact nomatch e
  ·injection e with c _;subst c
   cases v<;>rfl
inductive V where
 |non|bl (b:Bool)|int (i:Int)|str (x:Str)|byt (b:Array UInt8)|flt (b:UInt64)|ref (a:Addr)|ty (n:String)
 deriving DecidableEq
def RelV:V->Value->Prop
 |.non,u=>u=Value.none
 |.bl b,u=>u=Value.bool b
 |.int i,u=>∃t,u=Value.int i t
 |.str x,u=>∃t,u=Value.str x t
 |.byt b,u=>∃t,u=Value.bytes b t
 |.flt b,u=>∃t,u=Value.float b t
 |.ref a,u=>u=Value.ref a
 |.ty n,u=>u=Value.type n
abbrev Vals:List V->List Value->Prop:=Paired RelV
theorem Vals.length{xs:List V}{a:List Value}(r:Vals xs a):xs.length=a.length:=Paired.length r
theorem Vals.get:∀{xs:List V} {a:List Value} {i:Nat} {x:V},Vals xs a->xs[i]?=some x->∃u,a[i]?=some u/\RelV x u
 |_,_,_,_,.nil,e=>by simp at e
 |_,_,0,_,.cons r _,e=>by simp at e;subst e;exact⟨_,rfl,r⟩
 |_,_,i+1,x,.cons _ t,e=>by
  obtain⟨u,h1,b⟩:=Vals.get (i:=i) (x:=x) t (by simpa using e);exact⟨u,by simpa using h1,b⟩
theorem Vals.set{x:V}{u:Value}(r:RelV x u):∀{xs:List V} {a:List Value} (i:Nat),Vals xs a->Vals (xs.set i x) (a.set i u)
 |_,_,_,.nil=>.nil
 |_,_,0,.cons _ t=>.cons r t
 |_,_,i+1,.cons q t=>.cons q (Vals.set r i t)
theorem Vals.append:∀{xs ys:List V} {a ws:List Value},Vals xs a->Vals ys ws->Vals (xs++ys) (a++ws)
 |_,_,_,_,.nil,s=>s
 |_,_,_,_,.cons r t,s=>.cons r (Vals.append t s)
theorem Vals.take:∀{xs:List V} {a:List Value} (n:Nat),Vals xs a->Vals (xs.take n) (a.take n)
 |_,_,0,_=>.nil
 |_,_,_+1,.nil=>.nil
 |_,_,n+1,.cons r t=>.cons r (Vals.take n t)
theorem Vals.drop:∀{xs:List V} {a:List Value} (n:Nat),Vals xs a->Vals (xs.drop n) (a.drop n)
 |_,_,0,r=>r
 |_,_,_+1,.nil=>.nil
 |_,_,n+1,.cons _ t=>Vals.drop n t
def o7:Option V->Option Value->Prop
 |some v,some u=>RelV v u
 |none,none=>True
 |_,_=>False
def KV{a:Type}:List (a×V)->List (a×Value)->Prop:=Paired λ(p:a×V)(q:a×Value)=>p.1=q.1/\RelV p.2 q.2
def kV:fE->V
 |.inl i=>.int i
 |.inr x=>.str x
inductive HO where
 |lst (xs:List V)
 |tup (xs:List V)
 |dK (kvs:List (fE×V))|dT (kvs:List (List fE×V))
 |set (S:Int->Bool) (n:Nat)
 |ins (C dx:Addr) (fs:List (Str×V))
 |own (x:Addr)
 |xd (fs:List (Str×V))
 |met (f x:Addr)
 |rng (lo hi:Int)
 |frz (o:Obj) (u:HO)
 |tbl (ps:Array Value)
 |ext (φ:Heap->Prop)
abbrev Hp:=Addr->Option HO
def upd(H:Hp)(a:Addr)(o:HO):Hp:=λb=>if b=a then some o else H b
theorem bI{H:Hp}{a:Addr}{o:HO}:upd H a o a=some o:=by unfold upd;rw[Hl rfl]
theorem bR{H:Hp}{a b:Addr}{o:HO}(h:b≠a):upd H a o b=H b:=by unfold upd;rw[GY h]
theorem oJ{H:Hp}{a b:Addr}{o u:HO}(h:H a=some o)(h':H b=some u)(d:o≠u):a≠b:=by
 intro e;subst e;rw[h] at h';exact d (HI h')
theorem cY{H:Hp}{a b:Addr}{o:HO}(h:H a=some o)(h':H b=none):a≠b:=by
 intro e;subst e;rw[h] at h';cases h'
section
variable(P:Program)(w:World)
def ObjOk(H:Hp)(h:Heap)(a:Addr):HO->Prop
 |.lst c=>c.length<=sizeLine/\∃(b:List Value)(n:Nat),Vals c b/\h.get? a=some { cls:=.type "list",data:=.seq b.toArray n }
 |.tup c=>c.length<=sizeLine/\∃b:List Value,Vals c b/\IsTup h a b.toArray
 |.dK kvs=>kvs.length<=sizeLine/\(a==sysModules)=false/\∃j,KV kvs j/\h.DictOf (wF P w) a j
 |.dT kvs=>kvs.length<=sizeLine/\(a==sysModules)=false/\∃c:List (List fE×Addr×Value),
   Paired (λ(p:List fE×V)(q:List fE×Addr×Value)=>p.1=q.1/\H q.2.1=some (.tup (p.1.map kV))/\RelV p.2 q.2.2) kvs c /\
   ∃o e k,h.get? a=some o/\o.ExactDict/\o.data=.dict e k/\e.toList=c.map (entryOfKey (tupleKind (wF P w)))/\(c.map (·.1)).Nodup
 |.set S n=>h.SetOf (intKind P w) a S n
 |.ins C dx fs=>H dx=some (.own a)/\fs.length<=1000/\dx≠a/\h.get? a=some (PySem.W.instObj C dx) /\
   ∃d,h.Ns1 dx d/\(∀f,o7 (fs.lookup f) (d f))/\PySem.Within d (fs.map (·.1))
 |.own _=>∃o,h.get? a=some o
 |.xd fs=>∃d,h.Ns1 a d/\∀f,o7 (fs.lookup f) (d f)
 |.rng lo hi=>∃t u v,h.get? a=some { cls:=.type "range",data:=.fields #[.int lo t,.int hi u,.int 1 v] }
 |.frz o u=>h.get? a=some o/\ObjOk H h a u
 |.tbl ps=>h.get? a=some { cls:=.none,data:=.fields ps }
 |.met f x=>h.get? a=some (PySem.W.methodObj (.ref f) (.ref x))
 |.ext φ=>φ h/\(∃o,h.get? a=some o)/\∀g i:Heap,φ g->(∀o,g.get? a=some o->i.get? a=some o)->φ i
def HOk(H:Hp)(h:Heap):Prop:=∀a o,H a=some o->ObjOk P w H h a o
end
section
variable{P:Program}{w:World}{H H':Hp}{h h':Heap}{a:Addr}{o:HO}
theorem ObjOk.lt(x:ObjOk P w H h a o):a<h.objs.size:=by
 cases o with
 |lst xs=>obtain⟨_,_,_,_,e⟩:=x;exact GS e
 |tup xs=>obtain⟨_,_,_,p⟩:=x;exact p.lt
 |dK kvs=>obtain⟨_,_,_,_,o,_,_,e,_⟩:=x;exact GS e
 |dT kvs=>obtain⟨_,_,_,_,o,_,_,e,_⟩:=x;exact GS e
 |set S n=>obtain⟨o,_,_,_,e,_⟩:=x;exact GS e
 |ins C dx fs=>obtain⟨_,_,_,e,_⟩:=x;exact GS e
 |own y=>obtain⟨_,e⟩:=x;exact GS e
 |xd fs=>obtain⟨_,⟨_,_,_,e,_⟩,_⟩:=x;exact GS e
 |rng lo hi=>obtain⟨_,_,_,e⟩:=x;exact GS e
 |frz ob u=>obtain⟨e,_⟩:=x;exact GS e
 |tbl ps=>exact GS (show h.get? a=some _ from x)
 |met f y=>exact GS (show h.get? a=some _ from x)
 |ext φ=>obtain⟨_,⟨_,e⟩,_⟩:=x;exact GS e
theorem Paired.mapP{c d:Type}{F G:c->d->Prop}:∀{l₁:List c} {l₂:List d},Paired F l₁ l₂->(∀a b,F a b->G a b)->Paired G l₁ l₂
 |_,_,.nil,_=>.nil
 |_,_,.cons r t,f=>.cons (f _ _ r) (Paired.mapP t f)
theorem ObjOk.stay(x:ObjOk P w H h a o)(k:∀b u,(b=a\/H b=some (.own a))->h.get? b=some u->h'.get? b=some u)
  (B:∀b,H b=some (.own a)->H' b=some (.own a)) (D:∀b xs,H b=some (.tup xs)->H' b=some (.tup xs)):ObjOk P w H' h' a o:=by
 induction o with
 |lst xs=>obtain⟨z,l,n,r,e⟩:=x;exact⟨z,l,n,r,k _ _ (.inl rfl) e⟩
 |tup xs=>obtain⟨z,l,r,g,e,c⟩:=x;exact⟨z,l,r,g,k _ _ (.inl rfl) e,c⟩
 |dK kvs=>obtain⟨z,y,F,r,g,j,i,e,c⟩:=x;exact⟨z,y,F,r,g,j,i,k _ _ (.inl rfl) e,c⟩
 |dT kvs=>
  obtain⟨z,y,xs,r,g,j,i,e,c⟩:=x;exact⟨z,y,xs,Paired.mapP r λp q z=>⟨z.1,D _ _ z.2.1,z.2.2⟩,g,j,i,k _ _ (.inl rfl) e,c⟩
 |set S n=>obtain⟨g,j,i,t,e,c⟩:=x;exact⟨g,j,i,t,k _ _ (.inl rfl) e,c⟩
 |ins C dx fs=>
  obtain⟨d,z,E,e,m,⟨s,j,i,A,c⟩,r⟩:=x;exact⟨B _ d,z,E,k _ _ (.inl rfl) e,m,⟨s,j,i,k _ _ (.inr d) A,c⟩,r⟩
 |own y=>obtain⟨g,e⟩:=x;exact⟨g,k _ _ (.inl rfl) e⟩
 |xd fs=>obtain⟨m,⟨s,j,i,e,c⟩,r⟩:=x;exact⟨m,⟨s,j,i,k _ _ (.inl rfl) e,c⟩,r⟩
 |rng lo hi=>obtain⟨t,u,v,e⟩:=x;exact⟨t,u,v,k _ _ (.inl rfl) e⟩
 |frz g u ih=>obtain⟨e,q⟩:=x;exact⟨k _ _ (.inl rfl) e,ih q⟩
 |tbl ps=>
  have e:h.get? a=some { cls:=.none,data:=.fields ps }:=x;show h'.get? a=some { cls:=.none,data:=.fields ps };exact k a _ (.inl rfl) e
 |met f y=>
  have e:h.get? a=some (PySem.W.methodObj (.ref f) (.ref y)):=x;show h'.get? a=some (PySem.W.methodObj (.ref f) (.ref y));exact k a _ (.inl rfl) e
 |ext φ=>obtain⟨p,⟨o,e⟩,st⟩:=x;exact⟨st _ _ p λo q=>k _ _ (.inl rfl) q,⟨o,k _ _ (.inl rfl) e⟩,st⟩
theorem HOk.lt(x:HOk P w H h)(e:H a=some o):a<h.objs.size:=(x a o e).lt
theorem HOk.fresh(x:HOk P w H h)(e:h.objs.size<=a):H a=none:=by
 cases q:H a with
 |none=>rfl
 |some u=>exact absurd (Hj (x.lt q) e) (HW _)
theorem HOk.kept(x:HOk P w H h)(k:∀b u,h.get? b=some u->h'.get? b=some u):HOk P w H h':=λa o e=>
 (x a o e).stay (λb u _ q=>k b u q) (λ_ q=>q) λ_ _ q=>q
theorem HOk.laid(x:HOk P w H h)(k:∀b u,h.get? b=some u->h'.get? b=some u)(g:h.objs.size<=a)(new:ObjOk P w (upd H a o) h' a o):HOk P w (upd H a o) h':=λb u e=>by
 have f:=x.fresh g;by_cases d:b=a
 ·subst d;rw[bI] at e;cases e;exact new
 ·rw[bR d] at e;exact(x b u e).stay (λc v _ q=>k c v q) (λc q=>by rw[bR (cY q f)];exact q) λc i q=>by rw[bR (cY q f)];exact q
end
def Rd(H:Hp)(a:Addr)(u:HO):Prop:=H a=some u\/∃o,H a=some (.frz o u)
theorem Rd.ok{P:Program}{w:World}{H:Hp}{h:Heap}{a:Addr}{u:HO}(r:Rd H a u)(x:HOk P w H h):ObjOk P w H h a u:=by
 rcases r with r|⟨o,r⟩
 ·exact x a u r
 ·obtain⟨_,q⟩:=x a _ r;exact q
def mF:Option HO->Prop
 |some (.lst _)=>True
 |some (.dK _)=>True
 |some (.dT _)=>True
 |some (.set _ _)=>True
 |some (.ins _ _ _)=>True
 |some (.ext _)=>True
 |_=>False
section
variable{P:Program}{w:World}{H:Hp}{h h':Heap}{x e:Addr}{o':HO}
theorem HOk.write(p:HOk P w H h)(j:mF (H x))(m:e=x\/H e=some (.own x))(k:∀b u,b≠e->h.get? b=some u->h'.get? b=some u)(l:∃u,h'.get? e=some u)
  (new:ObjOk P w (upd H x o') h' x o'):HOk P w (upd H x o') h':=λb u q=>by
 have d:∀c y,H c=some (.own y)->c≠x:=λc y r z=>by subst z;rw[r] at j;exact j
 have f:∀c xs,H c=some (.tup xs)->c≠x:=λc xs r z=>by subst z;rw[r] at j;exact j
 by_cases g:b=x
 ·subst g;rw[bI] at q;cases q;exact new
 ·rw[bR g] at q;by_cases a:b=e
  ·have n:H b=some (.own x):=by
    rcases m with z|z
    ·exact absurd (a.trans z) g
    ·rw[a];exact z
   rw[q] at n;cases n;obtain⟨v,o⟩:=l;exact⟨v,by rw[a];exact o⟩
  ·refine(p b u q).stay (λc v i r=>k c v ?_ r) (λc r=>by rw[bR (d c b r)];exact r) λc xs r=>by rw[bR (f c xs r)];exact r
   rcases i with rfl|i
   ·exact a
   ·rintro rfl;rcases m with z|z
    ·exact d c b i z
    ·rw[i] at z;cases z;exact g rfl
end
structure Un(fs ex:List Addr)(H H':Hp)(h h':Heap):Prop where
 keep:∀b o,h.get? b=some o->H b=none->b∉fs->b∉ex->h'.get? b=some o
 slot:∀b o,h.get? b=some o->H b=none->b∈fs->b∉ex->∃sl,h'.get? b=some { o with slots:=sl }
 free:∀b o,h.get? b=some o->H b=none->b∉ex->H' b=none
 there:∀b o,h.get? b=some o->b∉ex->∃o',h'.get? b=some o'
 tups:∀b xs,H b=some (.tup xs)->H' b=some (.tup xs)
 frzs:∀b o u,H b=some (.frz o u)->H' b=some (.frz o u)
 tbls:∀b ps,H b=some (.tbl ps)->∃more,H' b=some (.tbl (ps++more))
section
variable{fs fs' ex ex':List Addr}{H H1 H2:Hp}{h h1 h2 h':Heap}{a x e:Addr}{o:HO}
theorem Un.any(u:Un fs ex H H1 h h1){b:Addr}{c:Obj}(q:h.get? b=some c)(n:H b=none)(f:b∉ex):∃sl,h1.get? b=some { c with slots:=sl }:=by
 by_cases d:b∈fs
 ·exact u.slot b c q n d f
 ·exact⟨c.slots,u.keep b c q n d f⟩
theorem Un.kept(k:∀b u,h.get? b=some u->h'.get? b=some u):Un fs ex H H h h':=
 ⟨λb c q _ _ _=>k b c q,λb c q _ _ _=>⟨c.slots,k b c q⟩,λ_ _ _ n _=>n,λb c q _=>⟨c,k b c q⟩,λ_ _ q=>q,λ_ _ _ q=>q,λ_ d q=>⟨#[],by rw[q];simp⟩⟩
theorem Un.refl:Un fs ex H H h h:=Un.kept λ_ _ q=>q
theorem Un.laid(k:∀b u,h.get? b=some u->h'.get? b=some u)(d:h.objs.size<=a)(c:H a=none):Un fs ex H (upd H a o) h h' where
 keep:=λb u q _ _ _=>k b u q
 slot:=λb u q _ _ _=>⟨u.slots,k b u q⟩
 free:=λb u q n _=>by rw[bR (Hq (Hj (GS q) d))];exact n
 there:=λb u q _=>⟨u,k b u q⟩
 tups:=λb f q=>by rw[bR (cY q c)];exact q
 frzs:=λb u f q=>by rw[bR (cY q c)];exact q
 tbls:=λb g q=>⟨#[],by rw[bR (cY q c),q];simp⟩
theorem Un.write(c:mF (H x))(l:e=x\/H e=some (.own x))(k:∀b u,b≠e->h.get? b=some u->h'.get? b=some u)(d:∃u,h'.get? e=some u):Un fs ex H (upd H x o) h h':=by
 have j:∀b,H b=none->b≠x:=λb n z=>by subst z;rw[n] at c;exact c
 have i:∀b,H b=none->b≠e:=λb n z=>by
  subst z;rcases l with r|r
  ·exact j b n r
  ·rw[n] at r;cases r
 have f:∀b u,H b=some u->¬mF (some u)->b≠x:=λb u q m z=>by subst z;rw[q] at c;exact m c
 refine⟨λb u q n _ _=>k b u (i b n) q,λb u q n _ _=>⟨u.slots,k b u (i b n) q⟩,λb u q n _=>by rw[bR (j b n)];exact n,λb u q _=>?_,
  λb p q=>by rw[bR (f b _ q λz=>z)];exact q,λb u p q=>by rw[bR (f b _ q λz=>z)];exact q,λb s q=>⟨#[],by rw[bR (f b _ q λz=>z),q];simp⟩⟩
 by_cases g:b=e
 ·subst g;exact d
 ·exact⟨u,k b u g q⟩
end
def mK(h:Heap)(H:Hp):List Addr:=(List.range h.objs.size).filter λa=>(H a).isSome
def jt(h:Heap)(H:Hp):Heap:=PySem.W.hideAll h (mK h H)
theorem E7(h:Heap)(H:Hp):(jt h H).objs.size=h.objs.size:=PySem.W.hideAll_size _ _
theorem FP{h:Heap}{H:Hp}{b:Addr}{o:Obj}(e:h.get? b=some o)(n:H b=none):(jt h H).get? b=some o:=
 PySem.W.hideAll_get _ e λa=>by
  have q:(H b).isSome=true:=(Ir.mp a).2;rw[n] at q;simp at q
theorem yJ{h:Heap}{H:Hp}{b:Addr}{o:Obj}(e:(jt h H).get? b=some o):h.get? b=some o/\H b=none:=by
 have a:h.get? b=some o:=PySem.W.of_hideAll (mK h H) e;refine⟨a,?_⟩
 cases q:H b with
 |none=>rfl
 |some x=>
  have c:b∈mK h H:=Ir.mpr ⟨Ih.mpr (GS a),by simp[q]⟩;have z:(jt h H).get? b=none:=PySem.W.hideAll_none (mK h H) c;rw[z] at e;cases e
structure Mod(K:PySem.W.Frag)(mg:Str->Option Value)(base:Heap):Prop where
 kin:K.In base
 glob:base.Ns mainGlobals mg
 blt:∃mb,base.Ns builtinsNs mb/\∀x:Str,x ≠ "__name__" -> mb x=bootBuiltins x
 nolimit:base.NoLimit
structure Cx where
 prog:Program
 w:World
 K:PySem.W.Frag
 mg:Str->Option Value
 base:Heap
 A:Around
 N:List Str
 s₀:Shared
 H₀:Hp
 env:Env
 outer:List Env
 stack:List Env
 ex:List Addr
 fn:Str->Bool
 calm:Bool
 pn:List (Addr×Obj)
 xe:Value->Shared->Prop
def dh(l:List Env):List Addr:=l.filterMap (·.frame)
abbrev Cx.fs(X:Cx):List Addr:=dh X.outer
def oP(a:Scope)(x:Str):Prop:=a.names.lookup x=some .local\/a.names.lookup x=some .cell\/a.names.lookup x=some .free
def kn(a:Scope)(x:Str):Prop:=a.names.lookup x=some .local\/a.names.lookup x=some .cell
def BP(env:Env)(h:Heap)(m:Str->Option Value)(x:Str)(u:Value):Prop:=
 (env.kindOf x=some .local/\m x=some u)\/((env.kindOf x=some .cell\/env.kindOf x=some .free)/\∃c,env.cells.lookup x=some c/\h.IsCell c (some u))
structure Cx.Ok(X:Cx):Prop where
 mod:Mod X.K X.mg X.base
 kind:X.env.scope.kind=.function
 glob:X.env.globals=mainGlobals
 blt:X.env.builtins=builtinsNs
 above:X.s₀.heap.objs.size<=X.env.locals
 inj:∀x y c,X.env.cells.lookup x=some c->X.env.cells.lookup y=some c->x=y
 has:∀x,(X.env.kindOf x=some .cell\/X.env.kindOf x=some .free)->∃c,X.env.cells.lookup x=some c
 cab:∀x c,X.fn x=true->X.env.cells.lookup x=some c->X.s₀.heap.objs.size<=c
 hd:X.calm=true->X.A.handled=none
 frames:X.A.frames=some X.stack
 stk:X.stack=X.outer\/(X.stack=X.env::X.outer/\X.env.frame=some X.env.locals)
 exf:∀b∈X.ex,b≠X.env.locals/\∀x c,X.env.cells.lookup x=some c->c≠b
 bs:∀b o,X.base.get? b=some o->X.s₀.heap.get? b=some o/\X.H₀ b=none
 bsz:X.base.objs.size<=X.s₀.heap.objs.size
 noex:∀b o,X.base.get? b=some o->b∉X.ex
 exfs:∀b∈X.ex,b∉X.fs
 funs:X.s₀.heap.FunFrames X.base X.outer
 frf:∀b∈X.fs,X.H₀ b=none
structure Inv(X:Cx)(pins:List (Addr×Obj))(σ:List (Option V))(H:Hp)(s:Shared):Prop where
 ok:X.Ok
 os:s.os=X.s₀.os
 bare:AllBare s.gens
 base:Un X.fs X.ex X.H₀ H X.s₀.heap s.heap
 loc:∃m,s.heap.Ns X.env.locals m/\∀(i:Nat)(x:Str)(v:V),X.N[i]?=some x->σ[i]?=some (some v)->oP X.env.scope x->∃u,RelV v u/\BP X.env s.heap m x u
 cell:∀x c,X.env.cells.lookup x=some c->∃v,s.heap.IsCell c v
 free:H X.env.locals=none
 freeC:∀x c,X.env.cells.lookup x=some c->H c=none
 pin:∀p∈X.pn++pins,s.heap.get? p.1=some p.2/\H p.1=none/\p.1≠X.env.locals/\p.1∉X.fs/\∀v,p.2.data≠.cell v
 hok:HOk X.prog X.w H s.heap
 len:σ.length=X.N.length
section
variable{X:Cx}{pins:List (Addr × Obj)}{σ:List (Option V)}{H H':Hp}{s:Shared}{h':Heap}
theorem Cx.Ok.nofr(c:X.Ok){b:Addr}{o:Obj}(e:X.base.get? b=some o):b∉X.fs:=λa=>by
 have:=(c.funs.mem a).1;rw[e] at this;cases this
theorem Inv.bs(I:Inv X pins σ H s):∀b o,X.base.get? b=some o->s.heap.get? b=some o/\H b=none:=λb o e=>
 ⟨I.base.keep b o (I.ok.bs b o e).1 (I.ok.bs b o e).2 (I.ok.nofr e) (I.ok.noex b o e),I.base.free b o (I.ok.bs b o e).1 (I.ok.bs b o e).2 (I.ok.noex b o e)⟩
theorem Inv.bk(I:Inv X pins σ H s):∀b o,X.base.get? b=some o->s.heap.get? b=some o:=λb o e=>(I.bs b o e).1
theorem Inv.mod(I:Inv X pins σ H s):Mod X.K X.mg X.base:=I.ok.mod
theorem Inv.kIn(I:Inv X pins σ H s):X.K.In s.heap:=I.ok.mod.kin.keeps I.bk
theorem Inv.lt(I:Inv X pins σ H s):X.env.locals<s.heap.objs.size:=let ⟨_,hn,_⟩:=I.loc;hn.lt
theorem Inv.sz(I:Inv X pins σ H s):X.s₀.heap.objs.size<=s.heap.objs.size:=Hm I.ok.above (Ju I.lt)
theorem Inv.nofs(I:Inv X pins σ H s){a:Addr}(h:s.heap.objs.size<=a):a∉X.fs:=λb=>by
 obtain⟨_,o,c,_⟩:=I.ok.funs.mem b;exact absurd (Hj (GS c) (Hm I.sz h)) (HW _)
theorem Inv.cne(I:Inv X pins σ H s):∀x c,X.env.cells.lookup x=some c->c≠X.env.locals:=λx c e z=>by
 obtain⟨v,o,f,d⟩:=I.cell x c e;obtain⟨m,⟨i,h,g,b,a,_⟩,_⟩:=I.loc;rw[z,b] at f;cases f;rw[a] at d;cases d
theorem Inv.funs(I:Inv X pins σ H s):s.heap.FunFrames X.base X.outer:=by
 have a:∀(l:List Env),(∀b∈dh l,b∈X.fs)->X.s₀.heap.FunFrames X.base l->s.heap.FunFrames X.base l:=by
  intro l
  induction l with
  |nil=>intro _ _;trivial
  |cons env r ih=>
   intro g j;obtain⟨i,⟨L,o,f,k,m,h⟩,n⟩:=j;have c:L∈X.fs:=g L (by unfold dh;rw[Iz,f];exact GM);obtain⟨p,e⟩:=I.base.slot L o m (I.ok.frf L c) c λz=>I.ok.exfs L z c;exact⟨i,⟨L,_,f,k,e,h⟩,ih (λb d=>g b (by unfold dh;rw[Iz,f];exact GP _ d)) n⟩
 exact a X.outer (λ_ d=>d) I.ok.funs
theorem Inv.stack(I:Inv X pins σ H s):s.heap.FunFrames X.base X.stack:=by
 rcases I.ok.stk with e|⟨e,a⟩
 ·rw[e];exact I.funs
 ·rw[e];obtain⟨m,b,_⟩:=I.loc;refine .cons (by rw[I.ok.kind];decide) a b ?_ I.funs;exact Heap.get?_none_of_le (Hm I.ok.bsz I.ok.above)
theorem Inv.stkSub(I:Inv X pins σ H s):∀b∈dh X.stack,b∈X.env.locals::X.fs:=λb a=>by
 rcases I.ok.stk with e|⟨e,c⟩
 ·rw[e] at a;exact GP _ a
 ·rw[e] at a;unfold dh at a;rw[Iz,c] at a;exact a
theorem Inv.stkFree(I:Inv X pins σ H s):∀b∈dh X.stack,H b=none:=λb a=>by
 rcases GI.mp (I.stkSub b a) with e|a
 ·rw[e];exact I.free
 ·obtain⟨_,o,c,_⟩:=I.ok.funs.mem a;exact I.base.free b o c (I.ok.frf b a) λz=>I.ok.exfs b z a
theorem Inv.step{g':Array GenState}{t':Nat}{d':Drawn}{ch:List Addr}(I:Inv X pins σ H s)
  (g:∀b∈ch,(b∈X.ex\/X.s₀.heap.objs.size<=b)/\b≠X.env.locals/\(∀x c,X.env.cells.lookup x=some c->c≠b)/\∀p∈X.pn++pins,p.1≠b)
  (h:∀b o,b≠X.env.locals->b∉X.fs->b∉ch->s.heap.get? b=some o->H b=none->h'.get? b=some o)
  (t:∀b o,b≠X.env.locals->b∈X.fs->b∉ch->s.heap.get? b=some o->H b=none->∃sl,h'.get? b=some { o with slots:=sl }) (f:∀b o,b∉ch->s.heap.get? b=some o->H b=none->H' b=none)
  (A:∀b o,b∉ch->s.heap.get? b=some o->∃o',h'.get? b=some o')
  (J:∀b xs,H b=some (.tup xs)->H' b=some (.tup xs)) (E:∀b o u,H b=some (.frz o u)->H' b=some (.frz o u)) (G:∀b M,H b=some (.tbl M)->∃F,H' b=some (.tbl (M++F)))
  (ns:∀m,s.heap.Ns X.env.locals m->h'.Ns X.env.locals m) (O:HOk X.prog X.w H' h') (hg:AllBare g'):
  Inv X pins σ H' { s with heap:=h',gens:=g',drawn:=d',toks:=t' }:=by
 have Q:∀b o,X.s₀.heap.get? b=some o->b≠X.env.locals:=λb o e=>Hq (Hj (GS e) I.ok.above);have L:∀b o,X.s₀.heap.get? b=some o->b∉X.ex->b∉ch:=λb o e a y=>by
  rcases(g b y).1 with z|z
  ·exact a z
  ·exact absurd (Hj (GS e) z) (HW _)
 have P:∀x c,X.env.cells.lookup x=some c->∀v,s.heap.IsCell c v->h'.IsCell c v:=λx c e v ⟨o,B,N⟩=>by
  have C:c∉ch:=λz=>(g c z).2.2.1 x c e rfl;by_cases S:c∈X.fs
  ·obtain⟨sl,q⟩:=t c o (I.cne x c e) S C B (I.freeC x c e);exact⟨_,q,N⟩
  ·exact⟨o,h c o (I.cne x c e) S C B (I.freeC x c e),N⟩
 refine⟨I.ok,I.os,hg,⟨λb o e n y a=>?_,λb o e n y a=>?_,λb o e n a=>?_,λb o e a=>?_,λb xs e=>J b xs (I.base.tups b xs e),λb o xs e=>E b o xs (I.base.frzs b o xs e),λb M e=>?_⟩,?_,λx c e=>?_,?_,λx c e=>?_,λp T=>?_,O,I.len⟩
 ·exact h b o (Q b o e) y (L b o e a) (I.base.keep b o e n y a) (I.base.free b o e n a)
 ·obtain⟨sl,j⟩:=I.base.slot b o e n y a;obtain⟨Y,D⟩:=t b _ (Q b o e) y (L b o e a) j (I.base.free b o e n a);exact⟨Y,D⟩
 ·obtain⟨o',j⟩:=I.base.there b o e a;exact f b o' (L b o e a) j (I.base.free b o e n a)
 ·obtain⟨o',j⟩:=I.base.there b o e a;exact A b o' (L b o e a) j
 ·obtain⟨m1,j⟩:=I.base.tbls b M e;obtain⟨m2,D⟩:=G b _ j;exact⟨m1++m2,by rw[D,Array.append_assoc]⟩
 ·obtain⟨m,hn,hl⟩:=I.loc;refine⟨m,ns m hn,λi x v j D Z=>?_⟩;obtain⟨u,r,l⟩:=hl i x v j D Z;refine⟨u,r,?_⟩;rcases l with l|⟨k,c,e,z⟩
  ·exact .inl l
  ·exact .inr ⟨k,c,e,P x c e _ z⟩
 ·obtain⟨v,z⟩:=I.cell x c e;exact⟨v,P x c e v z⟩
 ·obtain⟨m,⟨o,_,_,B,_⟩,_⟩:=I.loc;exact f _ o (λz=>(g _ z).2.1 rfl) B I.free
 ·obtain⟨v,o,B,N⟩:=I.cell x c e;exact f c o (λz=>(g c z).2.2.1 x c e rfl) B (I.freeC x c e)
 ·obtain⟨e,n,U,W,d⟩:=I.pin p T;have C:p.1∉ch:=λz=>(g p.1 z).2.2.2 p T rfl;exact⟨h p.1 p.2 U W C e n,f p.1 p.2 C e n,U,W,d⟩
theorem Inv.un{t':Nat}(I:Inv X pins σ H s)(u:Un X.fs [] H H' s.heap h')(c:HOk X.prog X.w H' h'):Inv X pins σ H' { s with heap:=h',toks:=t' }:=by
 obtain⟨m,⟨o,p,l,f,r⟩,_⟩:=id I.loc;obtain⟨v,i⟩:=u.any f I.free (by simp);exact I.step (g':=s.gens) (d':=s.drawn) (ch:=[]) (λ_ z=>nomatch z) (λb o _ a _ e n=>u.keep b o e n a (by simp)) (λb o _ a _ e n=>u.slot b o e n a (by simp)) (λb o _ e n=>u.free b o e n (by simp)) (λb o _ e=>u.there b o e (by simp)) u.tups u.frzs u.tbls (λq j=>by
  obtain⟨t,h,g,d,k⟩:=j;rw[f] at d;cases d;exact⟨_,h,g,i,k⟩) c I.bare
theorem Inv.call{g':Array GenState}{t':Nat}{d':Drawn}{ch:List Addr}(I:Inv X pins σ H s)(u:Un (dh X.stack) ch H H' s.heap h')(g:HOk X.prog X.w H' h')(q:AllBare g')
  (d:∀b∈ch,(b∈X.ex\/X.s₀.heap.objs.size<=b)/\b≠X.env.locals/\(∀x c,X.env.cells.lookup x=some c->c≠b)/\∀p∈X.pn++pins,p.1≠b):
  Inv X pins σ H' { s with heap:=h',gens:=g',drawn:=d',toks:=t' }:=by
 obtain⟨m,⟨o,A,y,i,r⟩,_⟩:=id I.loc;obtain⟨D,f⟩:=u.any i I.free λz=>(d _ z).2.1 rfl;exact I.step (ch:=ch) d (λb o f l a e n=>u.keep b o e n (λz=>(GI.mp (I.stkSub b z)).elim f l) a) (λb o _ _ a e n=>u.any e n a) (λb o a e n=>u.free b o e n a) (λb o a e=>u.there b o e a) u.tups u.frzs u.tbls (λB t=>by
  obtain⟨C,k,j,h,v⟩:=t;rw[i] at h;cases h;exact⟨_,k,j,f,v⟩) g q
theorem Inv.turned{t':Nat}{it:Addr}(I:Inv X pins σ H s)(k:∀b o,b≠it->s.heap.get? b=some o->h'.get? b=some o)(w:H it=none)(f:it≠X.env.locals)
  (h1:it∈X.ex\/X.s₀.heap.objs.size<=it) (i:∀x c,X.env.cells.lookup x=some c->c≠it) (j:∀p∈X.pn++pins,p.1≠it):Inv X pins σ H { s with heap:=h',toks:=t' }:=by
 have d:∀b u,H b=some u->b≠it:=λb u e z=>by rw[z,w] at e;cases e
 refine I.step (g':=s.gens) (d':=s.drawn) (ch:=[it]) (λb l=>?_) (λb o _ _ a e _=>k b o (λz=>a (by simp[z])) e) (λb o _ _ a e _=>⟨o.slots,k b o (λz=>a (by simp[z])) e⟩) (λ_ _ _ _ n=>n)
  (λb o a e=>⟨o,k b o (λz=>a (by simp[z])) e⟩) (λ_ _ e=>e) (λ_ _ _ e=>e) (λb A e=>⟨#[],by rw[e];simp⟩) (λm t=>?_) (λb u e=>?_) I.bare
 ·have e:b=it:=by simpa using l
  subst e;exact⟨h1,f,i,j⟩
 ·obtain⟨o,h,g,y,r⟩:=t;exact⟨o,h,g,k _ o (Ij f) y,r⟩
 ·refine(I.hok b u e).stay (λc v a q=>k c v ?_ q) (λ_ q=>q) λ_ _ q=>q;rcases a with z|z
  ·rw[z];exact d b u e
  ·exact d c _ z
theorem Inv.tok(I:Inv X pins σ H s)(t:Nat):Inv X pins σ H { s with toks:=t }:=I.un (h':=s.heap) (t':=t) Un.refl I.hok
theorem Inv.kept{t':Nat}(I:Inv X pins σ H s)(k:∀b u,s.heap.get? b=some u->h'.get? b=some u):Inv X pins σ H { s with heap:=h',toks:=t' }:=I.un (Un.kept k) (I.hok.kept k)
theorem Inv.laid{a:Addr}{o:HO}{t':Nat}(I:Inv X pins σ H s)(k:∀b u,s.heap.get? b=some u->h'.get? b=some u)(c:s.heap.objs.size<=a)(new:ObjOk X.prog X.w (upd H a o) h' a o):
  Inv X pins σ (upd H a o) { s with heap:=h',toks:=t' }:=I.un (Un.laid k c (I.hok.fresh c)) (I.hok.laid k c new)
theorem Inv.write{x e:Addr}{o:HO}{t':Nat}(I:Inv X pins σ H s)(d:mF (H x))(c:e=x\/H e=some (.own x))(k:∀b u,b≠e->s.heap.get? b=some u->h'.get? b=some u)(a:∃u,h'.get? e=some u)
  (new:ObjOk X.prog X.w (upd H x o) h' x o):Inv X pins σ (upd H x o) { s with heap:=h',toks:=t' }:=I.un (Un.write d c k a) (I.hok.write d c k a new)
theorem Inv.pins_of{a:List (Addr×Obj)}(I:Inv X pins σ H s)(h:∀p∈a,s.heap.get? p.1=some p.2/\H p.1=none/\p.1≠X.env.locals/\p.1∉X.fs/\∀v,p.2.data≠.cell v):Inv X a σ H s:=
 ⟨I.ok,I.os,I.bare,I.base,I.loc,I.cell,I.free,I.freeC,λp b=>(GL.mp b).elim (λz=>I.pin p (IP _ z)) (h p),I.hok,I.len⟩
theorem qW{N:List Str}(e:N.Nodup){i j:Nat}{x:Str}(a:N[i]?=some x)(b:N[j]?=some x):i=j:=by
 obtain⟨f,c⟩:=GU.mp a;obtain⟨g,d⟩:=GU.mp b;exact(List.getElem_inj e).mp (c.trans d.symm)
theorem D6{M:Model}{A:Around}{E:Value->Shared->Prop}{i:Nat}{x:Str}{v:V}{u:Value}{Q:Unit->Shared->Prop}(I:Inv X pins σ H s)(hN:X.N.Nodup)(hi:X.N[i]?=some x)(t:kn X.env.scope x)(r:RelV v u)
  (h:∀s',Inv X pins (σ.set i (some v)) H s'->(∃a,Heap.SameBut a s.heap s'.heap/\(a=X.env.locals\/X.env.cells.lookup x=some a))->Q () s') (hf:X.fn x=true\/X.env.scope.names.lookup x=some .local:=by first|exact .inl rfl|exact .inr rfl|assumption):wpAny M A (storeName X.env x u) Q E s:=by
 obtain⟨m,U,hl⟩:=id I.loc;have ag:(X.env.scope.kind==.class||(X.env.scope.kind==.module&&X.env.locals !=X.env.globals))=false:=by rw[I.ok.kind];rfl
 have C:i<σ.length:=by rw[I.len];exact(GU.mp hi).1
 have F:=I.cne;have aa:∀{a:Addr} {h':Heap},(∃o,s.heap.get? a=some o/\H a=none)->Heap.SameBut a s.heap h'->HOk X.prog X.w H h':=λ{a h'} ha f b ob e=>by
  obtain⟨_,_,ae⟩:=ha;refine(I.hok b ob e).stay (λc P l q=>(f.2 c ?_).trans q) (λ_ q=>q) λ_ _ q=>q;rintro rfl;rcases l with rfl|l
  ·rw[ae] at e;cases e
  ·rw[ae] at l;cases l
 rcases t with D|D
 ·refine wpAny_storeName_local D U (λh' ao f=>?_) ag;obtain⟨oL,_,_,am,_⟩:=id U;refine h _ ⟨I.ok,I.os,I.bare,⟨λb o e n G t=>?_,λb o e n G t=>?_,I.base.free,λb o e t=>?_,I.base.tups,I.base.frzs,I.base.tbls⟩,⟨_,ao,λj y v' g B T=>?_⟩,λy c e=>?_,I.free,I.freeC,λp W=>?_,aa ⟨oL,am,I.free⟩ f,by simpa using I.len⟩ ⟨_,f,.inl rfl⟩
  ·exact(f.2 b (Hq (Hj (GS e) I.ok.above))).trans (I.base.keep b o e n G t)
  ·obtain⟨sl,g⟩:=I.base.slot b o e n G t;exact⟨sl,(f.2 b (Hq (Hj (GS e) I.ok.above))).trans g⟩
  ·obtain⟨Z,g⟩:=I.base.there b o e t;exact⟨Z,(f.2 b (Hq (Hj (GS e) I.ok.above))).trans g⟩
  ·by_cases J:j=i
   ·subst J;rw[hi] at g;cases g;rw[Kv C] at B
    cases B
    exact⟨u,r,.inl ⟨D,by simp⟩⟩
   ·rw[KH (Ij J)] at B;obtain⟨u',r',q⟩:=hl j y v' g B T;refine⟨u',r',?_⟩;rcases q with⟨k,e⟩|⟨k,c,e,z⟩
    ·refine .inl ⟨k,?_⟩;have:y≠x:=λe=>J (qW hN g (e▸hi));simp[this,e]
    ·exact .inr ⟨k,c,e,z.sameBut f (F y c e)⟩
  ·obtain⟨P,z⟩:=I.cell y c e;exact⟨P,z.sameBut f (F y c e)⟩
  ·obtain⟨e,n,O,Y,d⟩:=I.pin p W;exact⟨(f.2 p.1 O).trans e,n,O,Y,d⟩
 ·have S:X.fn x=true:=by
   rcases hf with z|z
   ·exact z
   ·rw[z] at D;cases D
  obtain⟨c,l⟩:=I.ok.has x (.inl D);obtain⟨P,z⟩:=I.cell x c l;refine wpAny_storeName_cell I.ok.kind D l z (λh' aj f=>?_);obtain⟨oc,ak,af⟩:=id z;refine h { s with heap:=h' } ⟨I.ok,I.os,I.bare,⟨λb o e n G t=>?_,λb o e n G t=>?_,I.base.free,λb o e t=>?_,I.base.tups,I.base.frzs,I.base.tbls⟩,⟨m,U.sameBut f (Ij (F x c l)),λj y v' g B T=>?_⟩,λy L e=>?_,I.free,I.freeC,λp W=>?_,aa ⟨oc,ak,I.freeC x c l⟩ f,by simpa using I.len⟩ ⟨c,f,.inr l⟩
  ·exact(f.2 b (Hq (Hj (GS e) (I.ok.cab x c S l)))).trans (I.base.keep b o e n G t)
  ·obtain⟨sl,g⟩:=I.base.slot b o e n G t;exact⟨sl,(f.2 b (Hq (Hj (GS e) (I.ok.cab x c S l)))).trans g⟩
  ·obtain⟨Z,g⟩:=I.base.there b o e t;exact⟨Z,(f.2 b (Hq (Hj (GS e) (I.ok.cab x c S l)))).trans g⟩
  ·by_cases J:j=i
   ·subst J;rw[hi] at g;cases g;rw[Kv C] at B
    cases B
    exact⟨u,r,.inr ⟨.inl D,c,l,aj⟩⟩
   ·rw[KH (Ij J)] at B;obtain⟨u',r',q⟩:=hl j y v' g B T;refine⟨u',r',?_⟩;rcases q with q|⟨k,L,e,z'⟩
    ·exact .inl q
    ·refine .inr ⟨k,L,e,z'.sameBut f ?_⟩;rintro rfl;exact J (qW hN g (I.ok.inj _ _ _ e l▸hi))
  ·by_cases ai:L=c
   ·subst ai;exact⟨_,aj⟩
   ·obtain⟨w2,z2⟩:=I.cell y L e;exact⟨w2,z2.sameBut f ai⟩
  ·obtain⟨e,n,O,Y,d⟩:=I.pin p W;refine⟨(f.2 p.1 ?_).trans e,n,O,Y,d⟩;intro q;rw[q,ak] at e;have q':oc=p.2:=HI e;exact d P (by rw[<-q'];exact af)
theorem qV{M:Model}{A:Around}{E:Value->Shared->Prop}{i:Nat}{x:Str}{v:V}{u:Value}{Q:Unit->Shared->Prop}(I:Inv X pins σ H s)(c:X.N.Nodup)(hi:X.N[i]?=some x)(e:kn X.env.scope x)(r:RelV v u)
  (h:∀a,Inv X pins (σ.set i (some v)) H a->Q () a) (d:X.fn x=true\/X.env.scope.names.lookup x=some .local:=by first|exact .inl rfl|exact .inr rfl|assumption):wpAny M A (storeName X.env x u) Q E s:=
 D6 I c hi e r (λa b _=>h a b) d
theorem Inv.call'{a:Shared}{ch:List Addr}(I:Inv X pins σ H s)(k:a.os=s.os)(u:Un (dh X.stack) ch H H' s.heap a.heap)(f:HOk X.prog X.w H' a.heap)(j:AllBare a.gens)
  (d:∀b∈ch,(b∈X.ex\/X.s₀.heap.objs.size<=b)/\b≠X.env.locals/\(∀x c,X.env.cells.lookup x=some c->c≠b)/\∀p∈X.pn++pins,p.1≠b):Inv X pins σ H' a:=by
 obtain⟨h',h,g,i,l⟩:=a;have e:l=s.os:=k;subst e;exact I.call (g':=h) (t':=i) (d':=g) u f j d
end
abbrev XK:=Value->Option Addr->Hp->Prop
abbrev St:=List (Option V)
abbrev VK:=V->Hp->Prop
abbrev TE:=St->Hp->VK->Prop
abbrev TT:=St->Hp->(Bool->Hp->Prop)->Prop
abbrev TA:=St->Hp->(List V->Hp->Prop)->Prop
structure Ends where
 nx:St->Hp->Prop
 rt:VK
 bk:St->Hp->Prop:=λ_ _=>False
 ct:St->Hp->Prop:=λ_ _=>False
abbrev TS:=Ends->St->Hp->Prop
def EP(X:Cx)(a:List (Addr×Obj))(d:St)(Q:VK)(u:Value)(c:Shared):Prop:=∃v b,Inv X a d b c/\RelV v u/\Q v b
def TP(X:Cx)(a:List (Addr×Obj))(e:St)(Q:Bool->Hp->Prop)(b:Bool)(d:Shared):Prop:=∃c,Inv X a e c d/\Q b c
def AP(X:Cx)(a:List (Addr×Obj))(f:St)(Q:List V->Hp->Prop)(e:List Value)(d:Shared):Prop:=∃c b,Inv X a f b d/\Vals c e/\Q c b
def SP(X:Cx)(b:List (Addr×Obj))(D:Ends)(f:Flow)(d:Shared):Prop:=
 match f with
 |.next=>∃a c,Inv X b a c d/\D.nx a c
 |.brk=>∃a c,Inv X b a c d/\D.bk a c
 |.cont=>∃a c,Inv X b a c d/\D.ct a c
 |.ret u=>∃v a c,Inv X b a c d/\RelV v u/\D.rt v c
def PE(X:Cx)(e:Expr)(t:TE):Prop:=
 ∀(a:List (Addr×Obj))(s:Shared)(b:St)(H:Hp)(Q:VK),Inv X a b H s->t b H Q->wpAny (model X.prog X.w) X.A (eval e X.env) (EP X a b Q) X.xe s
def PT(X:Cx)(e:Expr)(t:TT):Prop:=
 ∀(a:List (Addr×Obj))(s:Shared)(b:St)(H:Hp)(Q:Bool->Hp->Prop),Inv X a b H s->t b H Q->wpAny (model X.prog X.w) X.A (isTrue e X.env (eval e X.env)) (TP X a b Q) X.xe s
def PW(X:Cx)(e:Expr)(t:TT):Prop:=
 ∀(b:Sem Value)(a:List (Addr×Obj))(s:Shared)(c:St)(H:Hp)(Q:Bool->Hp->Prop),Inv X a c H s->t c H Q->wpAny (model X.prog X.w) X.A (isTrue e X.env b) (TP X a c Q) X.xe s
theorem PW.pt{X:Cx}{e:Expr}{t:TT}(h:PW X e t):PT X e t:=h _
def PA(X:Cx)(d:List Expr)(t:TA):Prop:=
 ∀(b:Pos)(a:List (Addr×Obj))(s:Shared)(c:St)(H:Hp)(Q:List V->Hp->Prop),Inv X a c H s->t c H Q->wpAny (model X.prog X.w) X.A (spliced (backTo b (starEach d X.env))) (AP X a c Q) X.xe s
def PS(X:Cx)(st:Stmt)(t:TS):Prop:=
 ∀(a:List (Addr×Obj))(s:Shared)(b:St)(H:Hp)(D:Ends),Inv X a b H s->t D b H->wpAny (model X.prog X.w) X.A (exec st X.env) (SP X a D) X.xe s
def PSs(X:Cx)(st:List Stmt)(t:TS):Prop:=
 ∀(a:List (Addr×Obj))(s:Shared)(b:St)(H:Hp)(D:Ends),Inv X a b H s->t D b H->wpAny (model X.prog X.w) X.A (execs st X.env) (SP X a D) X.xe s
theorem bZ{c:Type}{t:Sem c}{Q b:c->Shared->Prop}{M:Model}{A:Around}{E:Value->Shared->Prop}{s:Shared}(h:wpAny M A t Q E s)(d:∀a s,Q a s->b a s):wpAny M A t b E s:=IR h d λ_ _ x=>x
section
variable{X:Cx}
def eG(i:Nat):TE:=λa H Q=>∃v,a[i]?=some (some v)/\Q v H
def tC(v:V):TE:=λ_ H Q=>Q v H
theorem zV{i:Nat}{x:Str}{j:Pos}(o:X.N[i]?=some x)(w:oP X.env.scope x)(g:(x==("__debug__" : Str))=false:=by decide)(f:(x==("__classdict__" : Str))=false:=by decide):PE X (.Name x j) (eG i):=by
 intro b s y H Q I h;obtain⟨v,e,h⟩:=h;obtain⟨m,t,p⟩:=I.loc;obtain⟨u,r,l⟩:=p i x v o e w;have d:EP X b y Q u s:=⟨v,H,I,r,h⟩
 rcases l with⟨a,q⟩|⟨a,c,n,k⟩
 ·exact wpAny_Name (wpAny_loadName_local I.ok.kind a t q d) g
 ·rcases a with a|a
  ·exact wpAny_Name (wpAny_loadName_cell I.ok.kind a n k d) g
  ·exact wpAny_Name (wpAny_loadName_free I.ok.kind a n k d f) g
theorem bJ{i j pos}:PE X (.Constant (.int i) j pos) (tC (.int i)):=λ_ _ _ H _ I h=>wpAny_Constant_int ⟨.int i,H,I.tok _,⟨_,R⟩,h⟩
theorem eY{b j pos}:PE X (.Constant (.bool b) j pos) (tC (.bl b)):=λ_ _ _ H _ I h=>Constant_bool ⟨.bl b,H,I,R,h⟩
theorem rN{j pos}:PE X (.Constant .none j pos) (tC .non):=λ_ _ _ H _ I h=>Constant_none ⟨.non,H,I,R,h⟩
theorem bM{x j pos}:PE X (.Constant (.str x) j pos) (tC (.str x)):=λ_ _ _ H _ I h=>K1 ⟨.str x,H,I.tok _,⟨_,R⟩,h⟩
def Gl(X:Cx)(x:Str):Prop:=X.env.kindOf x=some .globalImplicit
theorem mh{E:Value->Shared->Prop}{a:List (Addr×Obj)}{s:Shared}{f:St}{H:Hp}{x:Str}{u:Value}{b:Pos}{Q:Value->Shared->Prop}(I:Inv X a f H s)(d:Gl X x)(e:X.mg x=some u)(h:Q u s)
  (c:(x==("__debug__" : Str))=false:=by decide):wpAny (model X.prog X.w) X.A (eval (.Name x b) X.env) Q E s:=
 Calls.Name_function_global I.ok.kind d (Calls.loadGlobal_global (by rw[I.ok.glob];exact I.mod.glob.keeps I.bk) e h) c
theorem jK{E:Value->Shared->Prop}{a:List (Addr×Obj)}{s:Shared}{k:St}{H:Hp}{x:Str}{u:Value}{b:Pos}{Q:Value->Shared->Prop}(I:Inv X a k H s)(f:Gl X x)(g:X.mg x=none)(j:bootBuiltins x=some u)(h:Q u s)
  (i:x ≠ "__name__" := by decide) (e:(x==("__debug__" : Str))=false:=by decide):wpAny (model X.prog X.w) X.A (eval (.Name x b) X.env) Q E s:=by
 obtain⟨l,c,d⟩:=I.mod.blt;exact Calls.Name_function_global I.ok.kind f (Calls.loadGlobal_builtin (by rw[I.ok.glob];exact I.mod.glob.keeps I.bk) g (by rw[I.ok.blt];exact c.keeps I.bk) ((d x i).trans j) h) e
theorem fU{x:Str}{v:V}{u:Value}{a:Pos}(c:Gl X x)(d:X.mg x=some u)(r:RelV v u)(b:(x==("__debug__" : Str))=false:=by decide):PE X (.Name x a) (tC v):=
 λ_ _ _ H _ I h=>mh I c d ⟨v,H,I,r,h⟩ b
theorem gY{x:Str}{v:V}{u:Value}{a:Pos}(c:Gl X x)(d:X.mg x=none)(f:bootBuiltins x=some u)(r:RelV v u)(e:x ≠ "__name__" := by decide)(b:(x==("__debug__" : Str))=false:=by decide):PE X (.Name x a) (tC v):=
 λ_ _ _ H _ I h=>jK I c d f ⟨v,H,I,r,h⟩ e b
variable{a b:Expr}{ta tb:TE}{pos:Pos}
def tB(t:TE):TT:=λe H Q=>t e H λx d=>∃c,x=.bl c/\Q c d
theorem dO{e:Expr}{t:TE}(h:PE X e t)(g:∀c,isTrue e X.env c=(do let v <-c;standAt e.pos;holding [v] (truthy v)):=by intro _;rfl):PT X e (tB t):=by
 intro f s j H Q I i;refine isTrue_plain (bZ (h f s j H _ I i) λv k ⟨x,H1,I1,r1,q1⟩=>?_) (g _);obtain⟨d,rfl,q⟩:=q1
 cases r1
 exact IZ ⟨H1,I1,q⟩
variable{tA tB':TT}{rest:List Expr}
def Bx(t u:TT):TT:=λe H Q=>t e H λc d=>if c=true then u e d Q else Q false d
def yj(t u:TT):TT:=λe H Q=>t e H λc d=>if c=true then Q true d else u e d Q
def BX(t:TT):TT:=λe H Q=>t e H λc d=>Q (!c) d
theorem iC(f:PT X a tA):PW X (.BoolOp .And [a] pos) tA:=by
 intro j d s g H Q I h;refine isTrue_and (bZ (f d s g H Q I h) λc i e=>?_)
 cases c with
 |true=>exact isTrue_and_nil e
 |false=>exact e
theorem iQ(f:PT X a tA):PW X (.BoolOp .Or [a] pos) tA:=by
 intro j d s g H Q I h;refine isTrue_or (bZ (f d s g H Q I h) λc i e=>?_)
 cases c with
 |false=>exact isTrue_or_nil e
 |true=>exact e
theorem iD(g:PT X a tA)(i:PW X (.BoolOp .And (b::rest) pos) tB'):PW X (.BoolOp .And (a::b::rest) pos) (Bx tA tB'):=by
 intro k d s f H Q I h;refine isTrue_and (bZ (g d s f H _ I h) λc j ⟨e,I1,q1⟩=>?_)
 cases c with
 |true=>exact i k d j f e Q I1 q1
 |false=>exact⟨e,I1,q1⟩
theorem iE(g:PT X a tA)(i:PW X (.BoolOp .Or (b::rest) pos) tB'):PW X (.BoolOp .Or (a::b::rest) pos) (yj tA tB'):=by
 intro k d s f H Q I h;refine isTrue_or (bZ (g d s f H _ I h) λc j ⟨e,I1,q1⟩=>?_)
 cases c with
 |true=>exact⟨e,I1,q1⟩
 |false=>exact i k d j f e Q I1 q1
theorem dY(f:PT X a tA):PT X (.UnaryOp .Not a pos) (BX tA):=by
 intro d s g H Q I h;exact isTrue_not (f d s g H (λc e=>Q (!c) e) I h)
def AG(ta tb:TE):TE:=λe H Q=>ta e H λx d=>∃c,x=.bl c/\if c=true then tb e d Q else Q (.bl false) d
def BF(ta tb:TE):TE:=λe H Q=>ta e H λx d=>∃c,x=.bl c/\if c=true then Q (.bl true) d else tb e d Q
def AT(ta:TE):TE:=λe H Q=>ta e H λx d=>∃c,x=.bl c/\Q (.bl (!c)) d
theorem ig{op}{t:TE}(h:PE X a t):PE X (.BoolOp op [a] pos) t:=λc s e H Q I d=>BoolOp_one (h c s e H Q I d)
theorem ii(g:PE X a ta)(i:PE X (.BoolOp .And (b::rest) pos) tb):PE X (.BoolOp .And (a::b::rest) pos) (AG ta tb):=by
 intro d s f H Q I h;refine BoolOp_and (bZ (g d s f H _ I h) λv j ⟨x,H1,I1,r1,e⟩=>?_);obtain⟨c,rfl,e⟩:=e
 cases r1
 refine IZ ?_
 cases c with
 |true=>exact i d j f H1 Q I1 e
 |false=>exact⟨.bl false,H1,I1,rfl,e⟩
theorem sD(g:PE X a ta)(i:PE X (.BoolOp .Or (b::rest) pos) tb):PE X (.BoolOp .Or (a::b::rest) pos) (BF ta tb):=by
 intro d s f H Q I h;refine BoolOp_or (bZ (g d s f H _ I h) λv j ⟨x,H1,I1,r1,e⟩=>?_);obtain⟨c,rfl,e⟩:=e
 cases r1
 refine IZ ?_
 cases c with
 |false=>exact i d j f H1 Q I1 e
 |true=>exact⟨.bl true,H1,I1,rfl,e⟩
theorem AI(f:PE X a ta):PE X (.UnaryOp .Not a pos) (AT ta):=by
 intro d s g H Q I h;refine UnaryOp_ (bZ (f d s g H _ I h) λv i ⟨x,H1,I1,r1,e⟩=>?_);obtain⟨c,rfl,e⟩:=e
 cases r1
 exact not_of (IZ ⟨.bl (!c),H1,I1,R,e⟩)
def yi(t:TT)(ta tb:TE):TE:=λd H Q=>t d H λc e=>if c=true then ta d e Q else tb d e Q
theorem vF{c:Expr}(l:PT X c tA)(j:PE X a ta)(k:PE X b tb):PE X (.IfExp c a b pos) (yi tA ta tb):=by
 intro e s f H Q I h;refine wpAny_IfExp (bZ (l e s f H _ I h) λd i ⟨g,I1,q1⟩=>?_)
 cases d with
 |true=>exact j e i f g Q I1 q1
 |false=>exact k e i f g Q I1 q1
end
def SqL(K:PySem.W.Frag)(H:Hp)(a:Addr)(xs:List V):Prop:=
 Rd H a (.lst xs) \/
  ∃(o:Obj)(b:Array Value)(n:Nat),K.lookup a=some o/\o.cls=.type "list" /\ o.dict=none/\o.data=.seq b n/\b.size<=sizeLine/\Vals xs b.toList
def SqT(K:PySem.W.Frag)(H:Hp)(a:Addr)(xs:List V):Prop:=
 Rd H a (.tup xs) \/
  ∃(o:Obj)(b:Array Value)(n:Nat),K.lookup a=some o/\o.cls=.type "tuple" /\ o.data=.seq b n/\b.size<=sizeLine/\Vals xs b.toList
def BC:Value->Option V
 |.none=>some .non
 |.bool b=>some (.bl b)
 |.int i _=>some (.int i)
 |.str x _=>some (.str x)
 |.bytes b _=>some (.byt b)
 |.float b _=>some (.flt b)
 |.ref a=>some (.ref a)
 |.type n=>some (.ty n)
 |_=>none
theorem RelV.abs{x:V}{u:Value}(r:RelV x u):BC u=some x:=by
 cases x with
 |non=>cases r;rfl
 |bl _=>cases r;rfl
 |int _=>obtain⟨t,rfl⟩:=r;rfl
 |str _=>obtain⟨t,rfl⟩:=r;rfl
 |byt _=>obtain⟨t,rfl⟩:=r;rfl
 |flt _=>obtain⟨t,rfl⟩:=r;rfl
 |ref _=>cases r;rfl
 |ty _=>cases r;rfl
theorem RelV.inj{x y:V}{u:Value}(r:RelV x u)(q:RelV y u):x=y:=HI (r.abs.symm.trans q.abs)
theorem Vals.inj:∀{xs ys:List V} {a:List Value},Vals xs a->Vals ys a->xs=ys
 |_,_,_,.nil,.nil=>rfl
 |_,_,_,.cons r t,.cons r' t'=>by rw[r.inj r',Vals.inj t t']
section
variable{X:Cx}{pins:List (Addr × Obj)}{σ:St}{H:Hp}{s:Shared}{a:Addr}{xs ys:List V}
theorem SqL.of{K:PySem.W.Frag}(h:H a=some (.lst xs)):SqL K H a xs:=.inl (.inl h)
theorem SqT.of{K:PySem.W.Frag}(h:H a=some (.tup xs)):SqT K H a xs:=.inl (.inl h)
theorem Inv.list(I:Inv X pins σ H s)(h:SqL X.K H a xs):∃b:List Value,Vals xs b/\PlainL s.heap a b.toArray/\xs.length<=sizeLine:=by
 rcases h with h|⟨o,b,n,f,c,d,g,i,r⟩
 ·obtain⟨z,b,n,r,e⟩:=h.ok I.hok;exact⟨b,r,⟨_,n,e,R,R,R⟩,z⟩
 ·refine⟨b.toList,r,⟨o,n,I.kIn a o f,c,d,by simpa using g⟩,?_⟩;have e:=r.length;simp only[HH] at e;omega
theorem Inv.tuple(I:Inv X pins σ H s)(h:SqT X.K H a xs):∃b:List Value,Vals xs b/\IsTup s.heap a b.toArray/\xs.length<=sizeLine:=by
 rcases h with h|⟨o,b,n,d,c,f,g,r⟩
 ·obtain⟨z,b,r,p⟩:=h.ok I.hok;exact⟨b,r,p,z⟩
 ·refine⟨b.toList,r,⟨o,I.kIn a o d,c,n,by simpa using f⟩,?_⟩;have e:=r.length;simp only[HH] at e;omega
theorem Inv.list_inj(I:Inv X pins σ H s)(h:SqL X.K H a xs)(h':SqL X.K H a ys):xs=ys:=by
 obtain⟨g,r,⟨o,n,e,_,_,d⟩,_⟩:=I.list h;obtain⟨b,j,⟨l,k,f,_,_,c⟩,_⟩:=I.list h';rw[e] at f;cases f;rw[d] at c;injection c with i _;have:g=b:=by simpa using ID Array.toList i
 subst this;exact r.inj j
theorem Inv.tuple_inj(I:Inv X pins σ H s)(h:SqT X.K H a xs)(h':SqT X.K H a ys):xs=ys:=by
 obtain⟨g,r,⟨o,e,_,n,d⟩,_⟩:=I.tuple h;obtain⟨b,j,⟨l,f,_,k,c⟩,_⟩:=I.tuple h';rw[e] at f;cases f;rw[d] at c;injection c with i _;have:g=b:=by simpa using ID Array.toList i
 subst this;exact r.inj j
end
abbrev Cx.wish(X:Cx)(E:Value->Shared->Prop):Cx:={ X with xe:=E }
abbrev Cx.nox(X:Cx):Cx:=X.wish λ_ _=>False
theorem Cx.Ok.wish{X:Cx}(a:X.Ok)(E:Value->Shared->Prop):(X.wish E).Ok:=
 ⟨a.mod,a.kind,a.glob,a.blt,a.above,a.inj,a.has,a.cab,a.hd,a.frames,a.stk,a.exf,a.bs,a.bsz,a.noex,a.exfs,a.funs,a.frf⟩
theorem Cx.Ok.unwish{X:Cx}{E:Value->Shared->Prop}(a:(X.wish E).Ok):X.Ok:=
 ⟨a.mod,a.kind,a.glob,a.blt,a.above,a.inj,a.has,a.cab,a.hd,a.frames,a.stk,a.exf,a.bs,a.bsz,a.noex,a.exfs,a.funs,a.frf⟩
section
variable{X:Cx}{pins:List (Addr × Obj)}{σ:St}{H:Hp}{s:Shared}{E:Value -> Shared -> Prop}
theorem Inv.wish(I:Inv X pins σ H s)(E:Value->Shared->Prop):Inv (X.wish E) pins σ H s:=⟨I.ok.wish E,I.os,I.bare,I.base,I.loc,I.cell,I.free,I.freeC,I.pin,I.hok,I.len⟩
theorem Inv.unwish(I:Inv (X.wish E) pins σ H s):Inv X pins σ H s:=⟨I.ok.unwish,I.os,I.bare,I.base,I.loc,I.cell,I.free,I.freeC,I.pin,I.hok,I.len⟩
theorem SP.unwish{D:Ends}{f:Flow}{c:Shared}(h:SP (X.wish E) pins D f c):SP X pins D f c:=by
 cases f with
 |next=>obtain⟨a,b,I,q⟩:=h;exact⟨a,b,I.unwish,q⟩
 |brk=>obtain⟨a,b,I,q⟩:=h;exact⟨a,b,I.unwish,q⟩
 |cont=>obtain⟨a,b,I,q⟩:=h;exact⟨a,b,I.unwish,q⟩
 |ret u=>obtain⟨v,a,b,I,r,q⟩:=h;exact⟨v,a,b,I.unwish,r,q⟩
theorem PSs.nox{st:List Stmt}{t:TS}(h:PSs X.nox st t):PSs X st t:=λpins s σ H D I a=>
 IR (h pins s σ H D (I.wish _) a) (λ_ _ q=>q.unwish) λ_ _ z=>False.elim z
end
section
variable{X:Cx}{st:Stmt}{rest:List Stmt}{t u:TS}{e:Expr}{te:TE}{pos:Pos}
def AW:TS:=λD a H=>D.nx a H
def iU(t u:TS):TS:=λD a H=>t { D with nx:=u D } a H
theorem cu:PSs X [] AW:=λ_ _ a H _ I h=>Ki ⟨a,H,I,h⟩
theorem bQ(h1:PS X st t)(g:PSs X rest u):PSs X (st::rest) (iU t u):=by
 intro a s j H D I h;refine Lu (bZ (h1 a s j H { D with nx:=u D } I h) λf i q=>?_)
 cases f with
 |next=>
  obtain⟨b,c,d,q⟩:=q;exact g a i b c D d q
 |ret v=>exact q
 |brk=>exact q
 |cont=>exact q
theorem bP(h1:PS X st t):PSs X [st] t:=by
 intro a s b H D I h;refine Lu (bZ (h1 a s b H D I h) λf c q=>?_)
 cases f with
 |next=>exact Ki q
 |ret v=>exact q
 |brk=>exact q
 |cont=>exact q
theorem Inv.quiet{a:List (Addr×Obj)}{b:St}{H:Hp}{s:Shared}(I:Inv X a b H s):interactive X.env=false:=by simp[interactive,I.ok.kind]
def ou(te:TE):TS:=λD a H=>te a H λ_ b=>D.nx a b
theorem eA(c:PE X e te)(d:swapsWith e none pos.line X.env=pure false:=by rfl):PS X (.Expr e pos) (ou te):=by
 intro a s b H D I h;exact wpAny_Expr_any (bZ (c a s b H _ I h) λv f ⟨x,H1,I1,r1,q1⟩=>⟨b,H1,I1,q1⟩) I.quiet d
def mV(te:TE):TS:=λD a H=>te a H D.rt
theorem ce(c:PE X e te):PS X (.Return (some e) pos) (mV te):=by
 intro a s b H D I h;exact wpAny_Return_some (bZ (c a s b H _ I h) λv d ⟨x,H1,I1,r1,q1⟩=>⟨x,b,H1,I1,r1,q1⟩)
def sZ(c:TT)(t u:TS):TS:=λD a H=>c a H λb d=>if b=true then t D a d else u D a d
theorem cg{c:Expr}{a b:List Stmt}{k:TT}(n:PT X c k)(l:PSs X a t)(m:PSs X b u):PS X (.If c a b pos) (sZ k t u):=by
 intro f s g H D I h;refine wpAny_If (bZ (n f s g H _ I h) λd j ⟨i,I1,q1⟩=>?_)
 cases d with
 |true=>exact l f j g i D I1 q1
 |false=>exact m f j g i D I1 q1
def zZ:TS:=λ_ _ _=>False
theorem ja:PS X st zZ:=λ_ _ _ _ _ _ h=>h.elim
end
abbrev TG:=V->St->Hp->(St->Hp->Prop)->Prop
abbrev jv:=List V->St->Hp->(St->Hp->Prop)->Prop
def PG(X:Cx)(a:Expr)(t:TG):Prop:=
 ∀(b:List (Addr×Obj))(s:Shared)(e:St)(H:Hp)(v:V)(u:Value)(Q:St->Hp->Prop),Inv X b e H s->RelV v u->t v e H Q ->
  wpAny (model X.prog X.w) X.A (assign a X.env u) (λ_ f=>∃c d,Inv X b c d f/\Q c d) X.xe s
def lH(X:Cx)(h:List Expr)(t:jv):Prop:=
 ∀(a:List (Addr×Obj))(s:Shared)(f:St)(H:Hp)(e:List V)(d:List Value)(Q:St->Hp->Prop),Inv X a f H s->Vals e d->t e f H Q ->
  wpAny (model X.prog X.w) X.A (assignInOrder ((assignEach h X.env).map (·.2)) d) (λ_ g=>∃b c,Inv X a b c g/\Q b c) X.xe s
abbrev pc:=V->V->V->Hp->(Hp->Prop)->Prop
def tu(X:Cx)(t:pc):Prop:=
 ∀(a:List (Addr×Obj))(s:Shared)(e:St)(H:Hp)(o i v:V)(d c u:Value)(Q:Hp->Prop),Inv X a e H s->RelV o d->RelV i c->RelV v u->t o i v H Q ->
  wpAny (model X.prog X.w) X.A (setItem d c u) (λ_ f=>∃b,Inv X a e b f/\Q b) X.xe s
section
variable{X:Cx}{pos:Pos}
def gn(i:Nat):TG:=λv a H Q=>Q (a.set i (some v)) H
theorem cG{i:Nat}{x:Str}(c:X.N.Nodup)(hi:X.N[i]?=some x)(e:kn X.env.scope x)(d:X.fn x=true\/X.env.scope.names.lookup x=some .local:=by first|exact .inl rfl|exact .inr rfl|assumption):PG X (.Name x pos) (gn i):=by
 intro a s g H v u Q I r h;exact wpAny_assign_Name (qV I c hi e r (λf b=>⟨_,H,b,h⟩) d)
def BU:jv:=λa b H Q=>a=[]/\Q b H
def AR(t:TG)(u:jv):jv:=λc d H Q=>∃v r,c=v::r/\t v d H λa b=>u r a b Q
theorem jc:lH X [] BU:=by
 intro a s b H d c Q I r h;obtain⟨e,h⟩:=h;subst e
 cases r
 exact assignInOrder_nil ⟨b,H,I,h⟩
theorem eU{e:Expr}{b:List Expr}{t:TG}{u:jv}(h1:PG X e t)(f:lH X b u)
  (g:(assignEach (e::b) X.env).map (·.2)=assign e X.env::(assignEach b X.env).map (·.2):=by rfl):lH X (e::b) (AR t u):=by
 intro a s j H m k Q I r h;obtain⟨v,l,d,h⟩:=h;subst d
 cases r with
 |cons r rr=>
  rw[g];refine assignInOrder_cons (bZ (h1 a s j H _ _ _ I r h) λ_ i ⟨c,H1,I1,q1⟩=>?_);exact f a i c H1 _ _ Q I1 rr q1
def sT(K:PySem.W.Frag)(n:Nat)(t:jv):TG:=λv c H Q=>∃a b,v=.ref a/\SqT K H a b/\b.length=n/\t b c H Q
theorem zO{d:List Expr}{k:Nat}{t:jv}{n:Nat}(q:X.calm=true)(h:lH X d t)
  (x:(assignEach d X.env).length=n:=by rfl) (f:(assignEach d X.env).findIdx? (·.1)=none:=by rfl):PG X (.Tuple d k pos) (sT X.K n t):=by
 intro c s j H v u Q I r g;obtain⟨a,B,m,y,w,g⟩:=g;subst m
 cases r
 obtain⟨C,i,z,D⟩:=I.tuple y;refine assign_Tuple_tuple (I.ok.hd q) z (by simp[x,<-w,i.length]) f λp A=>?_;have l:Inv X c j H { s with heap:=p }:=I.kept (t':=s.toks) λb o e=>A b o (Hq (GS e)) e;exact h c _ j H B _ Q l (by simpa using i) g
def BO(to e:TE)(t:pc):TG:=λv a H Q=>to a H λo b=>e a b λi c=>t o i v c λd=>Q a d
theorem At{o i:Expr}{to e:TE}{t:pc}(j:PE X o to)(hi:PE X i e)(k:tu X t)
  (g:∀v,assign (.Subscript o i pos) X.env v=(do
   let b <-holding [v] (eval o X.env)
   let c <-holding [v,b] (eval i X.env)
   standAt pos
   holding [v,b,c] (setItem b c v)
   release [v,b,c] []):=by intro _;rfl):PG X (.Subscript o i pos) (BO to e t):=by
 intro a s d H v u Q I r h;rw[g];refine GD (Jc (bZ (j a s d H _ I h) λb l ⟨x,H1,I1,r1,q1⟩=>?_));refine GD (Jc (bZ (hi a l d H1 _ I1 q1) λc m ⟨y,H2,I2,r2,q2⟩=>?_));refine GD (KG (GD (Jc (bZ (k a m d H2 x y v b c u _ I2 r1 r2 r q2) λ_ n ⟨f,I3,q3⟩=>?_))));exact wpAny_release ⟨d,f,I3,q3⟩
def iW(c:TE)(g:TG):TS:=λD a H=>c a H λx b=>g x a b D.nx
theorem rX{b e:Expr}{c:TE}{g:TG}(i:PE X e c)(j:PG X b g)(k:swapsWithSole [b] e pos.line X.env=pure false:=by rfl)(l:swappedStores [b] e X.env=pure none:=by rfl)
  (f:(assignEach [b] X.env).map (·.2)=[assign b X.env]:=by rfl):PS X (.Assign [b] e pos) (iW c g):=by
 intro a s d H D I h;refine wpAny_Assign_stores (bZ (i a s d H _ I h) λv m ⟨x,H1,I1,r1,q1⟩=>?_) k l;rw[f];exact bZ (j a m d H1 x v _ I1 r1 q1) λ_ n q=>q
theorem cj{i:Nat}{x:Str}{e:Expr}{c:TE}{a:Pos}(f:X.N.Nodup)(hi:X.N[i]?=some x)(l:kn X.env.scope x)(g:PE X e c)(k:swapsWith e (some (.Name x a)) pos.line X.env=pure false:=by rfl)(j:X.fn x=true\/X.env.scope.names.lookup x=some .local:=by first|exact .inl rfl|exact .inr rfl|assumption):
  PS X (.Assign [.Name x a] e pos) (iW c (gn i)):=by
 intro b s m H D I h;refine wpAny_Assign_Name (bZ (g b s m H _ I h) λv n ⟨y,H1,I1,r1,q1⟩=>?_) k;exact qV I1 f hi l r1 (λo d=>⟨_,H1,d,q1⟩) j
end
structure It where
 go:Nat->Hp->Prop
 yld:Nat->Hp->V->Hp->Prop
 stop:Nat->Hp->Prop
def gJ(X:Cx)(a:List (Addr×Obj))(H:Hp)(b:Addr):Prop:=
 H b=none/\b≠X.env.locals/\b∉X.fs/\(b∈X.ex\/X.s₀.heap.objs.size<=b)/\(∀x c,X.env.cells.lookup x=some c->c≠b)/\∀p∈X.pn++a,p.1≠b
theorem Inv.fpOk{X:Cx}{a:List (Addr×Obj)}{i:St}{H f:Hp}{s:Shared}{b:Addr}(I:Inv X a i H s)(d:s.heap.objs.size<=b)(g:f b=none):gJ X a f b:=by
 refine⟨g,Io (Hj I.lt d),I.nofs d,.inr (Hm I.sz d),λx c e z=>?_,λp h z=>?_⟩
 ·obtain⟨v,q⟩:=I.cell x c e;exact absurd (Hj q.lt (by rw[z];exact d)) (HW _)
 ·exact absurd (Hj (GS (I.pin p h).1) (by rw[z];exact d)) (HW _)
structure lE(P:Program)(w:World)(K:PySem.W.Frag)(tg:Expr)(J:It)(fp:List Addr)(it:Addr)(tn:Nat->Heap->Prop):Prop where
 mem:it∈fp
 obj:∀i h,tn i h->∀b∈fp,∃o,h.get? b=some o/\∀v,o.data≠.cell v
 keep:∀i h h',tn i h->(∀b∈fp,∀o,h.get? b=some o->h'.get? b=some o)->tn i h'
 item:∀(X:Cx),X.prog=P->X.w=w->X.K=K->X.calm=true->∀(i:Nat)(pins:List (Addr×Obj))(s:Shared)(σ:St)(H:Hp)(E:Value->Shared->Prop),Inv X pins σ H s->(∀b∈fp,gJ X pins H b)->tn i s.heap->J.go i H ->
  wpAny (model P w) X.A (pyNext (.ref it)) (λr s1=>∃u,r=some u /\
   wpAny (model P w) X.A (letOwnedTupleGo tg (.ref it) u) (λ_ s2=>∃x H',Inv X pins σ H' s2/\RelV x u/\J.yld i H x H'/\tn (i+1) s2.heap/\∀b∈fp,H' b=none) E s1) E s
 done:∀(X:Cx),X.prog=P->X.w=w->X.K=K->X.calm=true->∀(i:Nat)(pins:List (Addr×Obj))(s:Shared)(σ:St)(H:Hp)(E:Value->Shared->Prop),Inv X pins σ H s->(∀b∈fp,gJ X pins H b)->tn i s.heap->J.stop i H ->
  wpAny (model P w) X.A (pyNext (.ref it)) (λr s1=>r=none/\Inv X pins σ H s1) E s
 self:∀(A:Around)(i:Nat)(s:Shared)(Q:Value->Shared->Prop)(E:Value->Shared->Prop),tn i s.heap->Q (.ref it) s->wpAny (model P w) A (pyIter (.ref it)) Q E s
abbrev TI:=St->Hp->(It->Hp->Prop)->Prop
def oN(X:Cx)(a:List (Addr×Obj))(j:St)(i:Expr)(R:It->Hp->Prop)(d:Value)(g:Shared):Prop:=
 ∃(f:Addr)(e:List Addr)(h:Nat->Heap->Prop)(J:It)(c:Hp),d=.ref f/\Inv X a j c g/\lE X.prog X.w X.K i J e f h/\h 0 g.heap/\(∀b∈e,gJ X a c b)/\R J c
def PI(X:Cx)(e b:Expr)(f:TI):Prop:=
 ∀(a:List (Addr×Obj))(s:Shared)(c:St)(H:Hp)(R:It->Hp->Prop),Inv X a c H s->f c H R ->
  wpAny (model X.prog X.w) X.A (eval b X.env) (λv d=>wpAny (model X.prog X.w) X.A (pyIter v) (oN X a c e R) X.xe d) X.xe s
theorem ow{M:Model}{A:Around}{E:Value->Shared->Prop}{s:Shared}{b:Expr}{it:Addr}{u:Value}{o:Obj}{n:String}{c:Array Value}{Q:Unit->Shared->Prop}(g:s.heap.get? it=some o)(d:o.cls=.type n)(e:o.data=.fields c)
    (f:["enumerate", "zip", "dict_itemiterator", "dict_reverseitemiterator", "odict_iterator", "itertools.zip_longest", "itertools.pairwise"].contains n=false) (a:Q () s):wpAny M A (letOwnedTupleGo b (.ref it) u) Q E s:=by
  unfold letOwnedTupleGo
  cases b<;>first
    |exact GV a
    | (cases u <;> first
        |exact GV a
        | (refine GD (wpAny_load g ?_)
           rw[d,e];show wpAny M A (if (["enumerate", "zip", "dict_itemiterator", "dict_reverseitemiterator", "odict_iterator", "itertools.zip_longest", "itertools.pairwise"].contains n&&c[0]?==some (rawInt _))=true then _ else _) Q E s;rw[GY (by intro h;rw[f,HE] at h;cases h)];exact GV a))
def gP(K:PySem.W.Frag)(a:Addr):It:=
 ⟨λi H=>∃b x,SqL K H a b/\b[i]?=some x,λi H x c=>c=H/\∀b,SqL K H a b->b[i]?=some x,λi H=>∃b,SqL K H a b/\b.length<=i⟩
def jT(K:PySem.W.Frag)(a:Addr):It:=
 ⟨λi H=>∃b x,SqT K H a b/\b[i]?=some x,λi H x c=>c=H/\∀b,SqT K H a b->b[i]?=some x,λi H=>∃b,SqT K H a b/\b.length<=i⟩
def gK(lo:Int)(n:Nat):It:=⟨λi _=>i<n,λi H x a=>a=H/\x=.int (lo+i),λi _=>n<=i⟩
theorem vB{P:Program}{w:World}{K:PySem.W.Frag}{tg:Expr}(a it:Addr):lE P w K tg (gP K a) [it] it (λi h=>h.IsListIter it a i) where
 mem:=by simp
 obj:=λi h st b g=>by
  have e:b=it:=by simpa using g
  subst e;obtain⟨o,e,c,d⟩:=st;exact⟨o,e,λv z=>by rw[d] at z;cases z⟩
 keep:=λi h j st k=>st.at λo e=>k it (by simp) o e
 item:=by
  intro X B D A L i f s M H E I l st C;subst B D A;obtain⟨xs,x,m,F⟩:=C;obtain⟨O,G,p,Y⟩:=I.list m;obtain⟨u,T,Z⟩:=G.get F;obtain⟨n,q,S,r,t,y⟩:=l it (by simp);refine wpAny_pyNext_list_item st p.isList (x:=u) (by simpa using T) λj J sb=>?_;have N:Inv X f M H { s with heap:=j }:=I.turned (t':=s.toks) (λb o g e=>(sb.2 b g).trans e) n q r t y;obtain⟨o,e,c,d⟩:=id J;exact⟨u,R,ow (s:={ s with heap:=j }) e c d (by decide) ⟨x,H,N,Z,⟨R,λys U=>by rw[I.list_inj U m];exact F⟩,J,λb g=>(l b g).1⟩⟩
 done:=by
  intro X B D A L i f s M H E I l st C;subst B D A;obtain⟨xs,m,F⟩:=C;obtain⟨O,G,p,Y⟩:=I.list m;obtain⟨n,q,S,r,t,y⟩:=l it (by simp);have hl:=G.length;exact wpAny_pyNext_list_end (I.ok.hd L) st p.isList (by simp;omega) λj Q=>⟨R,I.turned (t':=s.toks) (λb o g e=>Q b o g e) n q r t y⟩
 self:=λ_ _ _ _ _ st h=>wpAny_pyIter_listiter st h
theorem uo{P:Program}{w:World}{K:PySem.W.Frag}{tg:Expr}(a it:Addr):lE P w K tg (jT K a) [it] it (λi h=>h.IsTupleIter it a i) where
 mem:=by simp
 obj:=λi h st b g=>by
  have e:b=it:=by simpa using g
  subst e;obtain⟨o,e,c,d⟩:=st;exact⟨o,e,λv z=>by rw[d] at z;cases z⟩
 keep:=λi h j st k=>st.at λo e=>k it (by simp) o e
 item:=by
  intro X C F B M i f s N H E I l st D;subst C F B;obtain⟨xs,x,m,G⟩:=D;obtain⟨n,J,p,Y⟩:=I.tuple m;obtain⟨u,T,Z⟩:=J.get G;obtain⟨q,r,S,t,y,A⟩:=l it (by simp);refine wpAny_pyNext_tuple_item st (show s.heap.IsTuple a n.toArray from p) (x:=u) (by simpa using T) λj L sb=>?_;have O:Inv X f N H { s with heap:=j }:=I.turned (t':=s.toks) (λb o g e=>(sb.2 b g).trans e) q r t y A;obtain⟨o,e,c,d⟩:=id L;exact⟨u,R,ow (s:={ s with heap:=j }) e c d (by decide) ⟨x,H,O,Z,⟨R,λys U=>by rw[I.tuple_inj U m];exact G⟩,L,λb g=>(l b g).1⟩⟩
 done:=by
  intro X C F B M i f s N H E I l st D;subst C F B;obtain⟨xs,m,G⟩:=D;obtain⟨n,J,p,Y⟩:=I.tuple m;obtain⟨q,r,S,t,y,A⟩:=l it (by simp);have hl:=J.length;exact wpAny_pyNext_tuple_end (I.ok.hd M) st (show s.heap.IsTuple a n.toArray from p) (by simp;omega) λj Q=>⟨R,I.turned (t':=s.toks) (λb o g e=>Q b o g e) q r t y A⟩
 self:=λ_ _ _ _ _ st h=>wpAny_pyIter_tupleiter st h
theorem Dv{P:Program}{w:World}{K:PySem.W.Frag}{M:Expr}(it:Addr)(lo:Int)(n:Nat):lE P w K M (gK lo n) [it] it (λi h=>IsRangeIter h it (lo+(i:Nat)*1) ((n:Int)-(i:Nat)) 1) where
 mem:=by simp
 obj:=λi h st b c=>by
  have e:b=it:=by simpa using c
  subst e;exact⟨_,st,λv z=>by
   have N:Data.fields _=Data.cell v:=z
   cases N⟩
 keep:=λi h d st k=>k it (by simp) _ st
 item:=by
  intro X r y q u i a s C H E I f st x;subst r y q;obtain⟨g,j,G,l,m,p⟩:=f it (by simp);have W:=Walks.range (prog:=X.prog) (w:=X.w) (I.ok.hd u) it lo 1 n;refine W.item i s _ _ x st λv d B J A L=>?_;obtain⟨t,rfl⟩:=J;have D:Inv X a C H { s with heap:=d,toks:=B }:=I.turned (λb o c e=>L b o (by simpa using c) e) g j l m p;refine⟨_,R,ow (s:={ s with heap:=d,toks:=B }) (n := "range_iterator") A rfl rfl (by decide) ⟨.int (lo+i),H,D,⟨t,?_⟩,⟨R,R⟩,A,λb c=>(f b c).1⟩⟩;rw[Int.mul_one]
 done:=by
  intro X r y q u i a s C H E I f st x;subst r y q;obtain⟨g,j,G,l,m,p⟩:=f it (by simp);exact wpAny_pyNext_range_end (I.ok.hd u) st (by have:n<=i:=x;omega) λd F=>⟨R,I.turned (t':=s.toks) (λb o c e=>F b o c e) g j l m p⟩
 self:=λ_ _ _ _ _ st h=>wpAny_pyIter_rangeiter st h
section
variable{X:Cx}{tg:Expr}
def oq(K:PySem.W.Frag)(c:TE):TI:=λe H R=>c e H λx b=>∃a,x=.ref a/\(∃d,SqL K b a d)/\R (gP K a) b
def sQ(K:PySem.W.Frag)(c:TE):TI:=λe H R=>c e H λx b=>∃a,x=.ref a/\(∃d,SqT K b a d)/\R (jT K a) b
theorem Gi{l:Expr}{f:TE}(i:PE X l f):PI X tg l (oq X.K f):=by
 intro c s k H R I h;refine bZ (i c s k H _ I h) λv d ⟨x,H1,I1,r1,q1⟩=>?_;obtain⟨a,e,⟨t,j⟩,q⟩:=q1;subst e
 cases r1
 obtain⟨m,r,p,n⟩:=I1.list j;refine Kz p.isList ?_;refine⟨d.heap.objs.size,[d.heap.objs.size],_,_,H1,rfl,I1.kept (t':=d.toks) λb o e=>GR _ e,vB a _,⟨_,Hk _ rfl,rfl,rfl⟩,λb g=>?_,q⟩;have e:b=d.heap.objs.size:=by simpa using g
 subst e;exact I1.fpOk (GW _) (I1.hok.fresh (GW _))
theorem Ag{l:Expr}{f:TE}(j:PE X l f):PI X tg l (sQ X.K f):=by
 intro c s m H R I h;refine bZ (j c s m H _ I h) λv d ⟨x,H1,I1,r1,q1⟩=>?_;obtain⟨a,e,⟨t,k⟩,q⟩:=q1;subst e
 cases r1
 obtain⟨g,r,p,n⟩:=I1.tuple k;refine JS (show d.heap.IsTuple a g.toArray from p) ?_;refine⟨d.heap.objs.size,[d.heap.objs.size],_,_,H1,rfl,I1.kept (t':=d.toks) λb o e=>GR _ e,uo a _,⟨_,Hk _ rfl,rfl,rfl⟩,λb i=>?_,q⟩;have e:b=d.heap.objs.size:=by simpa using i
 subst e;exact I1.fpOk (GW _) (I1.hok.fresh (GW _))
theorem vN{a:List (Addr×Obj)}{d:St}{H:Hp}{s:Shared}{R:It->Hp->Prop}{E:Value->Shared->Prop}{lo hi:Int}{t u v:Tok}{tk:Nat}(I:Inv X a d H s)(h1 : -(2^62)<=lo)(h:lo<2^62)(i : -(2^62)<=hi)(j:hi<2^62)
  (q:R (gK lo (hi-lo).toNat) H):wpAny (model X.prog X.w) X.A (pyIter (.ref s.heap.objs.size)) (oN X a d tg R) E { s with heap:=s.heap.push { cls:=.type "range",data:=.fields #[.int lo t,.int hi u,.int 1 v] },toks:=tk }:=by
 refine wpAny_pyIter_range (IsRange.new ..) (small_one h1 h i j) ?_;have c:Inv X a d H { s with heap:=s.heap.push { cls:=.type "range",data:=.fields #[.int lo t,.int hi u,.int 1 v] },toks:=tk }:=I.kept λb o e=>GR _ e;refine⟨(s.heap.push { cls:=.type "range",data:=.fields #[.int lo t,.int hi u,.int 1 v] }).objs.size,[(s.heap.push { cls:=.type "range",data:=.fields #[.int lo t,.int hi u,.int 1 v] }).objs.size],_,_,H,rfl,
  c.kept (t':=tk) λb o e=>GR _ e,Dv _ lo (hi-lo).toNat,?_,λb k=>?_,q⟩
 ·have f:lo+((0:Nat):Int)*1=lo:=by simp
  have g:(((hi-lo).toNat:Nat):Int)-((0:Nat):Int)=Builtin.Range.rangeSize lo hi 1:=by rw[rangeSize_one];split<;>omega
  show IsRangeIter _ _ (lo+((0:Nat):Int)*1) ((((hi-lo).toNat:Nat):Int)-((0:Nat):Int)) 1;rw[f,g];exact Hk _ rfl
 ·have e:b=(s.heap.push { cls:=.type "range",data:=.fields #[.int lo t,.int hi u,.int 1 v] }).objs.size:=by simpa using k
  subst e;exact c.fpOk (GW _) (c.hok.fresh (GW _))
def AJ(b:TA):TI:=λd H R=>b d H λc a=>∃j:Int,c=[.int j]/\-(2^62)<=j/\j<2^62/\R (gK 0 j.toNat) a
def AK(b:TA):TI:=λd H R=>b d H λc a=>∃i j:Int,c=[.int i,.int j]/\(-(2^62)<=i/\i<2^62/\-(2^62)<=j/\j<2^62)/\R (gK i (j-i).toNat) a
theorem iL{a:Expr}{f:TA}{p c:Pos}(i:Gl X "range")(k:X.mg "range" = none)(g:PA X [a] f)(l:starEach [a] X.env=[(false,eval a X.env)]:=by rfl):PI X tg (.Call (.Name "range" p) [a] [] c) (AJ f):=by
 intro b s n H R I h;refine Call_ (jK I i k boot_range (IM (bZ (g c b s n H _ I h) λu o ⟨v,H1,I1,r1,d⟩=>?_) l rfl));obtain⟨j,e,d,m,q⟩:=d;subst e
 cases r1 with
 |cons r rr=>
  cases rr
  obtain⟨t,rfl⟩:=r;exact call_range_1 (vN I1 (by omega) (by omega) d m (by simpa using q))
theorem EK{a b:Expr}{k:TA}{p f:Pos}(m:Gl X "range")(n:X.mg "range" = none)(l:PA X [a,b] k)(o:starEach [a,b] X.env=[(false,eval a X.env),(false,eval b X.env)]:=by rfl)(c:starEach [b] X.env=[(false,eval b X.env)]:=by rfl):
  PI X tg (.Call (.Name "range" p) [a,b] [] f) (AK k):=by
 intro d s x H R I h;refine Call_ (jK I m n boot_range (IM (bZ (l f d s x H _ I h) λA y ⟨B,H1,I1,r1,g⟩=>?_) (by rw[o,c]) (by rw[c];rfl)));obtain⟨i,j,e,⟨g,u,v,w⟩,q⟩:=g;subst e
 cases r1 with
 |cons r rr=>
  cases rr with
  |cons r' rr=>
   cases rr
   obtain⟨t,rfl⟩:=r;obtain⟨z,rfl⟩:=r';exact call_range_2 (vN I1 g u v w q)
def mM(j:TI)(g:TG)(tb:TS):TS:=λD a H=>j a H λJ f=>∃W:Nat->Nat->St->Hp->Prop,(∃m,W 0 m a f)/\∀i m a H,W i m a H ->
 (J.stop i H/\D.nx a H)\/(J.go i H/\∃N:St->Hp->Prop,(∀c b,N c b->∃e,e<m/\W (i+1) e c b)/\∀x b,J.yld i H x b->g x a b λd h=>tb { D with nx:=N,ct:=N,bk:=D.nx } d h)
def jL(fp:List Addr)(h:Heap):List (Addr×Obj):=fp.filterMap λb=>(h.get? b).map λo=>(b,o)
theorem kz{fp:List Addr}{h:Heap}{b:Addr}{o:Obj}(a:b∈fp)(e:h.get? b=some o):(b,o)∈jL fp h:=K6.mpr ⟨b,a,by rw[e];rfl⟩
theorem EQ{fp:List Addr}{h:Heap}{p:Addr×Obj}(d:p∈jL fp h):p.1∈fp/\h.get? p.1=some p.2:=by
 obtain⟨b,c,e⟩:=K6.mp d
 cases q:h.get? b with
 |none=>rw[q] at e;cases e
 |some o=>
  rw[q] at e;have a:(b,o)=p:=HI e;subst a;exact⟨c,q⟩
theorem Inv.pinned{a:List (Addr×Obj)}{g:St}{H:Hp}{s:Shared}{fp:List Addr}(I:Inv X a g H s)(k:∀b∈fp,gJ X a H b)(l:∀b∈fp,∃o,s.heap.get? b=some o/\∀v,o.data≠.cell v):Inv X (a++jL fp s.heap) g H s:=
 I.pins_of λp m=>(GL.mp m).elim (λz=>I.pin p (Hw _ z)) λz=>by
  obtain⟨f,e⟩:=EQ z;obtain⟨h,i,j,_⟩:=k p.1 f;obtain⟨o,c,d⟩:=l p.1 f;rw[e] at c;cases c;exact⟨e,h,i,j,d⟩
theorem Inv.unpinned{a d:List (Addr×Obj)}{b:St}{H:Hp}{s:Shared}(I:Inv X (a++d) b H s):Inv X a b H s:=I.pins_of λp c=>I.pin p (Hw _ (IP _ c))
theorem eV{p:Expr}{z:List Stmt}{wi:TI}{g:TG}{tb:TS}{O:Pos}(E:PassesOwn (model X.prog X.w) X.A X.env X.xe)(hc:X.calm=true)(hi:PI X tg p wi)(hg:PG X tg g)(l:PSs X z tb)
  (hs:∀x,foldedSetIterable p X.env x=pure x:=by intro _;rfl):PS X (.For tg p z [] O) (mM wi g tb):=by
 intro a s σ H D I h;refine wpAny_For (bZ (hi a s σ H _ I h) λv s1 h1=>bZ h1 λaq s2 h2=>?_) hs;obtain⟨it,C,tn,J,H2,e,I2,T,am,f2,W,⟨m0,w0⟩,ah⟩:=h2;subst e;have L:∀{y:Hp},(∀b∈C,y b=none)->∀b∈C,gJ X a y b:=λhn b l=>⟨hn b l,(f2 b l).2⟩
 refine codeAny_forLoop_any (λn s'=>∃i q y,Inv X a q y s'/\tn i s'.heap/\(∀b∈C,y b=none)/\W i n q y) ?_ m0 ⟨0,σ,H2,I2,am,λb l=>(f2 b l).1,w0⟩;rintro n s3 ⟨i,t,G,S,Z,Y,w3⟩;rcases ah i n t G w3 with⟨ag,qn⟩|⟨go,N,hN,step⟩
 ·refine Kj E (bZ (T.done X rfl rfl rfl hc i a s3 t G X.xe S (L Y) Z ag) λr s4 ⟨M,I4⟩=>?_);subst M;exact Ki ⟨t,G,I4,qn⟩
 ·refine Kj E (bZ (T.item X rfl rfl rfl hc i a s3 t G X.xe S (L Y) Z go) λr s4 ⟨u,M,h4⟩=>?_);subst M;refine Kj E (bZ h4 λ_ s5 ⟨x,H5,I5,r5,y5,af,ao⟩=>?_);have ak:=I5.pinned (L ao) (T.obj _ _ af);refine Kj E (bZ (hg _ s5 t H5 x u _ ak r5 (step x H5 y5)) λ_ s6 ⟨Q,H6,I6,q6⟩=>?_);refine Kj E (bZ (l _ s6 Q H6 _ I6 q6) λf P B=>?_);have U:∀{c:St} {j:Hp},Inv X (a++jL C s5.heap) c j P->N c j->∃m,m<n/\∃i q y,Inv X a q y P/\tn i P.heap/\(∀b∈C,y b=none)/\W i m q y:=λ{c j} k F=>by
   obtain⟨m',hm,w7⟩:=hN c j F;refine⟨m',hm,i+1,c,j,k.unpinned,T.keep _ _ _ af λb l o e=>(k.pin (b,o) (Hw _ (Hw _ (kz l e)))).1,λb l=>?_,w7⟩;obtain⟨o,e,d⟩:=T.obj _ _ af b l;exact(k.pin (b,o) (Hw _ (Hw _ (kz l e)))).2.1
  cases f with
  |next=>obtain⟨c,j,k,F⟩:=B;exact U k F
  |cont=>obtain⟨c,j,k,F⟩:=B;exact U k F
  |brk=>obtain⟨c,j,k,B⟩:=B;exact⟨c,j,k.unpinned,B⟩
  |ret v=>obtain⟨x7,c,j,k,r7,B⟩:=B;exact⟨x7,c,j,k.unpinned,r7,B⟩
end
theorem kK{K:PySem.W.Frag}{a:Addr}{xs:List V}{g:TG}{tb:TS}{D:Ends}{b:St}{H:Hp}(c:Nat->St->Hp->Prop)(n:c 0 b H)(s:∀i b H,i<=xs.length->c i b H->SqL K H a xs)
  (t:∀i x b H,xs[i]?=some x->c i b H->g x b H λh j=>tb { D with nx:=c (i+1),ct:=c (i+1),bk:=D.nx } h j) (o:∀b H,c xs.length b H->D.nx b H):
  ∃W:Nat->Nat->St->Hp->Prop,(∃m,W 0 m b H)/\∀i m b H,W i m b H ->
   ((gP K a).stop i H/\D.nx b H)\/((gP K a).go i H/\∃N:St->Hp->Prop,(∀f d,N f d->∃l,l<m/\W (i+1) l f d)/\∀x d,(gP K a).yld i H x d->g x b d λh j=>tb { D with nx:=N,ct:=N,bk:=D.nx } h j):=by
 refine⟨λi m b H=>m=xs.length-i/\i<=xs.length/\c i b H,⟨xs.length,by simp,Iv _,n⟩,?_⟩;rintro i m b H ⟨rfl,r,p⟩;have q:=s i b H r p;by_cases k:i<xs.length
 ·refine .inr ⟨⟨xs,xs[i],q,by simp[k]⟩,c (i+1),λf d u=>⟨xs.length-(i+1),by omega,R,k,u⟩,λx d y=>?_⟩;obtain⟨e,y⟩:=y;subst e;exact t i x b _ (y xs q) p
 ·have e:i=xs.length:=by omega
  subst e;exact .inl ⟨⟨xs,q,GW _⟩,o b H p⟩
theorem mf{K:PySem.W.Frag}{a:Addr}{xs:List V}{g:TG}{tb:TS}{D:Ends}{b:St}{H:Hp}(c:Nat->St->Hp->Prop)(n:c 0 b H)(s:∀i b H,i<=xs.length->c i b H->SqT K H a xs)
  (t:∀i x b H,xs[i]?=some x->c i b H->g x b H λh j=>tb { D with nx:=c (i+1),ct:=c (i+1),bk:=D.nx } h j) (o:∀b H,c xs.length b H->D.nx b H):
  ∃W:Nat->Nat->St->Hp->Prop,(∃m,W 0 m b H)/\∀i m b H,W i m b H ->
   ((jT K a).stop i H/\D.nx b H)\/((jT K a).go i H/\∃N:St->Hp->Prop,(∀f d,N f d->∃l,l<m/\W (i+1) l f d)/\∀x d,(jT K a).yld i H x d->g x b d λh j=>tb { D with nx:=N,ct:=N,bk:=D.nx } h j):=by
 refine⟨λi m b H=>m=xs.length-i/\i<=xs.length/\c i b H,⟨xs.length,by simp,Iv _,n⟩,?_⟩;rintro i m b H ⟨rfl,r,p⟩;have q:=s i b H r p;by_cases k:i<xs.length
 ·refine .inr ⟨⟨xs,xs[i],q,by simp[k]⟩,c (i+1),λf d u=>⟨xs.length-(i+1),by omega,R,k,u⟩,λx d y=>?_⟩;obtain⟨e,y⟩:=y;subst e;exact t i x b _ (y xs q) p
 ·have e:i=xs.length:=by omega
  subst e;exact .inl ⟨⟨xs,q,GW _⟩,o b H p⟩
theorem vg{lo:Int}{n:Nat}{g:TG}{tb:TS}{D:Ends}{a:St}{H:Hp}(c:Nat->St->Hp->Prop)(l:c 0 a H)
  (q:∀i a H,i<n->c i a H->g (.int (lo+i)) a H λf h=>tb { D with nx:=c (i+1),ct:=c (i+1),bk:=D.nx } f h) (o:∀a H,c n a H->D.nx a H):
  ∃W:Nat->Nat->St->Hp->Prop,(∃m,W 0 m a H)/\∀i m a H,W i m a H ->
   ((gK lo n).stop i H/\D.nx a H)\/((gK lo n).go i H/\∃N:St->Hp->Prop,(∀d b,N d b->∃k,k<m/\W (i+1) k d b)/\∀x b,(gK lo n).yld i H x b->g x a b λf h=>tb { D with nx:=N,ct:=N,bk:=D.nx } f h):=by
 refine⟨λi m a H=>m=n-i/\i<=n/\c i a H,⟨n,by simp,Iv _,l⟩,?_⟩;rintro i m a H ⟨rfl,s,p⟩;by_cases j:i<n
 ·refine .inr ⟨j,c (i+1),λd b r=>⟨n-(i+1),by omega,R,j,r⟩,λx b y=>?_⟩;obtain⟨e,y⟩:=y;subst e y;exact q i a _ j p
 ·have e:i=n:=by omega
  subst e;exact .inl ⟨GW _,o a H p⟩
abbrev R2:=V->V->Hp->VK->Prop
def dG(X:Cx)(f:Value->Value->Sem Value)(r:R2):Prop:=
 ∀(a:List (Addr×Obj))(s:Shared)(b:St)(H:Hp)(x y:V)(v u:Value)(Q:VK),Inv X a b H s->RelV x v->RelV y u->r x y H Q ->
  wpAny (model X.prog X.w) X.A (f v u) (EP X a b Q) X.xe s
def oO(X:Cx)(f:Value->Sem Value)(r:V->Hp->VK->Prop):Prop:=
 ∀(a:List (Addr×Obj))(s:Shared)(b:St)(H:Hp)(x:V)(v:Value)(Q:VK),Inv X a b H s->RelV x v->r x H Q ->
  wpAny (model X.prog X.w) X.A (f v) (EP X a b Q) X.xe s
def eM(X:Cx)(f:Value)(r:List V->Hp->VK->Prop):Prop:=
 ∀(a:List (Addr×Obj))(s:Shared)(d:St)(H:Hp)(c:List V)(b:List Value)(Q:VK),Inv X a d H s->Vals c b->r c H Q ->
  wpAny (model X.prog X.w) X.A (call f b) (EP X a d Q) X.xe s
def fF(r:R2)(d tb:TE):TE:=λa H Q=>d a H λx b=>tb a b λy c=>r x y c Q
def yk(r:V->Hp->VK->Prop)(b:TE):TE:=λc H Q=>b c H λx a=>r x a Q
def rI(C:Int->Int->Prop)(g:Int->Int->V):R2:=λx y H Q=>∃i j,x=.int i/\y=.int j/\C i j/\Q (g i j) H
def jX(g:Int->Int->V):R2:=λx y H Q=>∃i j,x=.int i/\y=.int j/\Q (g i j) H
def rU(g:Int->V):V->Hp->VK->Prop:=λx H Q=>∃i,x=.int i/\Q (g i) H
section
variable{X:Cx}{a b c:Expr}{ta tb tc:TE}{pos:Pos}
theorem o8(m:PE X a ta)(n:PE X b tb){d:List (Addr×Obj)}{s:Shared}{g:St}{H:Hp}{R:V->V->Hp->Prop}(I:Inv X d g H s)
  (h:ta g H λx l=>tb g l λy e=>R x y e) {Q:Value->Shared->Prop} {f:Value->Value->Sem Value}
  (o:∀v u k x y e,Inv X d g e k->RelV x v->RelV y u->R x y e->wpAny (model X.prog X.w) X.A (f v u) Q X.xe k):
  wpAny (model X.prog X.w) X.A (eval a X.env) (λv i=>wpAny (model X.prog X.w) X.A (eval b X.env) (λu j=>wpAny (model X.prog X.w) X.A (f v u) Q X.xe j) X.xe i) X.xe s:=by
 refine bZ (m d s g H _ I h) λv p ⟨x,l,I1,r1,q1⟩=>?_;refine bZ (n d p g l _ I1 q1) λu k ⟨y,e,I2,r2,q2⟩=>?_;exact o v u k x y e I2 r1 r2 q2
theorem bO{e:Operator}{r:R2}(k:dG X (binaryOp e) r)(i:PE X a ta)(j:PE X b tb):PE X (.BinOp a e b pos) (fF r ta tb):=by
 intro d s o H Q I h;exact wpAny_BinOp (o8 i j I h λv u n x y f g l m q=>k d n o f x y v u Q g l m q)
theorem my{e:UnaryOp}{r:V->Hp->VK->Prop}(i:oO X (unaryOp e) r)(g:PE X a ta):PE X (.UnaryOp e a pos) (yk r ta):=by
 intro d s f H Q I h;exact UnaryOp_ (bZ (g d s f H _ I h) λv j ⟨x,H1,I1,r1,q1⟩=>i d j f H1 x v Q I1 r1 q1)
theorem oV{f:Value->Value->Sem Value}{C:Int->Int->Prop}{g:Int->Int->Int}
  (rule:∀(i j:Int)(t u:Tok)(s:Shared)(Q:Value->Shared->Prop)(E:Value->Shared->Prop),C i j->Q (.int (g i j) s.toks) { s with toks:=s.toks+1 }->wpAny (model X.prog X.w) X.A (f (.int i t) (.int j u)) Q E s):
  dG X f (rI C λi j=>.int (g i j)):=by
 intro d s n H x y v u Q I k l h;obtain⟨i,j,rfl,rfl,e,q⟩:=h;obtain⟨t,rfl⟩:=k;obtain⟨m,rfl⟩:=l;exact rule i j t m s _ _ e ⟨.int (g i j),H,I.tok _,⟨_,R⟩,q⟩
theorem tf{f:Value->Value->Sem Value}{g:Int->Int->Int}
  (rule:∀(i j:Int)(t u:Tok)(s:Shared)(Q:Value->Shared->Prop)(E:Value->Shared->Prop),Q (.int (g i j) s.toks) { s with toks:=s.toks+1 }->wpAny (model X.prog X.w) X.A (f (.int i t) (.int j u)) Q E s):
  dG X f (jX λi j=>.int (g i j)):=by
 intro d s m H x y v u Q I e k h;obtain⟨i,j,rfl,rfl,q⟩:=h;obtain⟨t,rfl⟩:=e;obtain⟨l,rfl⟩:=k;exact rule i j t l s _ _ ⟨.int (g i j),H,I.tok _,⟨_,R⟩,q⟩
theorem o9{f:Value->Value->Sem Value}{g:Int->Int->Bool}
  (rule:∀(i j:Int)(t u:Tok)(s:Shared)(Q:Value->Shared->Prop)(E:Value->Shared->Prop),Q (.bool (g i j)) s->wpAny (model X.prog X.w) X.A (f (.int i t) (.int j u)) Q E s):
  dG X f (jX λi j=>.bl (g i j)):=by
 intro d s m H x y v u Q I e k h;obtain⟨i,j,rfl,rfl,q⟩:=h;obtain⟨t,rfl⟩:=e;obtain⟨l,rfl⟩:=k;exact rule i j t l s _ _ ⟨.bl (g i j),H,I,R,q⟩
def A8(i j:Int):Prop:=0<=j/\j<=1000000/\i.natAbs<2^64
def CMul(i j:Int):Prop:=(-(2^64)<i/\i<2^64)\/(-(2^64)<j/\j<2^64)
theorem CMul.ok{i j:Int}(h:CMul i j):IntMulOk i j:=by
 rcases h with⟨d,e⟩|⟨d,e⟩
 ·exact .of_left (intBits_le_64 d e)
 ·exact .of_right (intBits_le_64 d e)
theorem eE:dG X (binaryOp .Add) (jX λi j=>.int (i+j)):=tf λ_ _ _ _ _ _ _ q=>add_int q
theorem jg:dG X (binaryOp .Sub) (jX λi j=>.int (i-j)):=tf λ_ _ _ _ _ _ _ q=>sub_int q
theorem je:dG X (binaryOp .Mult) (rI CMul λi j=>.int (i*j)):=oV λ_ _ _ _ _ _ _ d q=>mul_int q d.ok
theorem jM:dG X (binaryOp .Mod) (rI (λ_ j=>0<j) λi j=>.int (i%j)):=oV λi j _ _ _ _ _ d q=>by
 have e:(0:Int)<j:=d;exact mod_int' (by omega) (by rw[Int.fmod_eq_emod_of_nonneg i (by omega)];exact q)
theorem xp:dG X (binaryOp .Pow) (rI A8 λi j=>.int (i^j.toNat)):=oV λ_ _ _ _ _ _ _ d q=>pow_int_small d.1 d.2.1 d.2.2 q
theorem yl{f:Value->Sem Value}{g:Int->Int}
  (rule:∀(i:Int)(t:Tok)(s:Shared)(Q:Value->Shared->Prop)(E:Value->Shared->Prop),Q (.int (g i) s.toks) { s with toks:=s.toks+1 }->wpAny (model X.prog X.w) X.A (f (.int i t)) Q E s):
  oO X f (rU λi=>.int (g i)):=by
 intro d s j H x v Q I e h;obtain⟨i,rfl,q⟩:=h;obtain⟨t,rfl⟩:=e;exact rule i t s _ _ ⟨.int (g i),H,I.tok _,⟨_,R⟩,q⟩
theorem mq:oO X (unaryOp .USub) (rU λi=>.int (-i)):=yl λ_ _ _ _ _ q=>neg_int q
end
def tq:V->V->Bool
 |.non,.non=>true|.non,.int _=>true|.int _,.non=>true|.non,.bl _=>true|.bl _,.non=>true|.non,.str _=>true|.str _,.non=>true
 |.int _,.int _=>true|.bl _,.bl _=>true|.str _,.str _=>true|.byt _,.byt _=>true
 |.int _,.str _=>true|.str _,.int _=>true|.bl _,.str _=>true|.str _,.bl _=>true
 |_,_=>false
def yf:R2:=λx y H Q=>tq x y=true/\Q (.bl (decide (x=y))) H
def yg:R2:=λx y H Q=>tq x y=true/\Q (.bl (!decide (x=y))) H
theorem ma{i j:Int}:decide (V.int i=V.int j)=(i==j):=by
 rw[IA];simp
theorem xJ{i j:Bool}:decide (V.bl i=V.bl j)=(i==j):=by
 rw[IA];simp
theorem wV{i j:Str}:decide (V.str i=V.str j)=(i==j):=by
 rw[IA];simp
theorem wX{i j:Array UInt8}:decide (V.byt i=V.byt j)=(i.toList==j.toList):=by
 rw[IA]
 cases i
 cases j
 simp
section
variable{X:Cx}{a b c:Expr}{ta tb tc:TE}{pos:Pos}
theorem dP{d:List (Addr×Obj)}{g:St}{H:Hp}{s:Shared}{Q:VK}{k f:Bool}(I:Inv X d g H s)(q:Q (.bl k) H)(e:k=f):EP X d g Q (.bool f) s:=by
 subst e;exact⟨.bl k,H,I,R,q⟩
theorem cP:dG X (compareOp .Eq) yf:=by
 intro k s l H x y v u Q I g d h;obtain⟨f,q⟩:=h
 cases x with
 |non=>
  cases g
  cases y with
  |non=>cases d;exact PySem.EqNone.eq_none_none (dP I q (by simp))
  |bl j=>cases d;exact PySem.EqNone.eq_none_bool (dP I q (by simp))
  |int j=>obtain⟨e,rfl⟩:=d;exact PySem.EqNone.eq_none_int (dP I q (by simp))
  |str j=>obtain⟨e,rfl⟩:=d;exact PySem.EqNone.eq_none_str (dP I q (by simp))
  |_=>exact absurd (show false=true from f) Hh
 |bl i=>
  cases g
  cases y with
  |non=>cases d;exact PySem.EqNone.eq_bool_none (dP I q (by simp))
  |bl j=>cases d;exact eq_bool (dP I q xJ)
  |str j=>obtain⟨e,rfl⟩:=d;exact PySem.EqMixed.eq_bool_str (dP I q (by simp))
  |_=>exact absurd (show false=true from f) Hh
 |int i=>
  obtain⟨t,rfl⟩:=g
  cases y with
  |non=>cases d;exact PySem.EqNone.eq_int_none (dP I q (by simp))
  |int j=>obtain⟨e,rfl⟩:=d;exact eq_int (dP I q ma)
  |str j=>obtain⟨e,rfl⟩:=d;exact PySem.EqMixed.eq_int_str (dP I q (by simp))
  |_=>exact absurd (show false=true from f) Hh
 |str i=>
  obtain⟨t,rfl⟩:=g
  cases y with
  |non=>cases d;exact PySem.EqNone.eq_str_none (dP I q (by simp))
  |bl j=>cases d;exact PySem.EqMixed.eq_str_bool (dP I q (by simp))
  |int j=>obtain⟨e,rfl⟩:=d;exact PySem.EqMixed.eq_str_int (dP I q (by simp))
  |str j=>obtain⟨e,rfl⟩:=d;exact eq_str (dP I q wV)
  |_=>exact absurd (show false=true from f) Hh
 |byt i=>
  obtain⟨t,rfl⟩:=g
  cases y with
  |byt j=>obtain⟨e,rfl⟩:=d;exact PySem.W.eq_bytes (dP I q wX)
  |_=>exact absurd (show false=true from f) Hh
 |_=>cases y<;>exact absurd (show false=true from f) Hh
theorem kh:dG X (compareOp .NotEq) yg:=by
 intro k s l H x y v u Q I g d h;obtain⟨f,q⟩:=h
 cases x with
 |non=>
  cases g
  cases y with
  |non=>cases d;exact PySem.EqNone.ne_none_none (dP I q (by simp))
  |bl j=>cases d;exact PySem.EqNone.ne_none_bool (dP I q (by simp))
  |int j=>obtain⟨e,rfl⟩:=d;exact PySem.EqNone.ne_none_int (dP I q (by simp))
  |str j=>obtain⟨e,rfl⟩:=d;exact PySem.EqNone.ne_none_str (dP I q (by simp))
  |_=>exact absurd (show false=true from f) Hh
 |bl i=>
  cases g
  cases y with
  |non=>cases d;exact PySem.EqNone.ne_bool_none (dP I q (by simp))
  |bl j=>cases d;exact ne_bool (dP I q (ID not xJ))
  |str j=>obtain⟨e,rfl⟩:=d;exact PySem.EqMixed.ne_bool_str (dP I q (by simp))
  |_=>exact absurd (show false=true from f) Hh
 |int i=>
  obtain⟨t,rfl⟩:=g
  cases y with
  |non=>cases d;exact PySem.EqNone.ne_int_none (dP I q (by simp))
  |int j=>obtain⟨e,rfl⟩:=d;exact ne_int (dP I q (ID not ma))
  |str j=>obtain⟨e,rfl⟩:=d;exact PySem.EqMixed.ne_int_str (dP I q (by simp))
  |_=>exact absurd (show false=true from f) Hh
 |str i=>
  obtain⟨t,rfl⟩:=g
  cases y with
  |non=>cases d;exact PySem.EqNone.ne_str_none (dP I q (by simp))
  |bl j=>cases d;exact PySem.EqMixed.ne_str_bool (dP I q (by simp))
  |int j=>obtain⟨e,rfl⟩:=d;exact PySem.EqMixed.ne_str_int (dP I q (by simp))
  |str j=>obtain⟨e,rfl⟩:=d;exact ne_str (dP I q (ID not wV))
  |_=>exact absurd (show false=true from f) Hh
 |byt i=>
  obtain⟨t,rfl⟩:=g
  cases y with
  |byt j=>obtain⟨e,rfl⟩:=d;exact PySem.W.ne_bytes (dP I q (ID not wX))
  |_=>exact absurd (show false=true from f) Hh
 |_=>cases y<;>exact absurd (show false=true from f) Hh
theorem sg:dG X (compareOp .Lt) (jX λi j=>.bl (decide (i<j))):=o9 λ_ _ _ _ _ _ _ q=>lt_int q
theorem lA:dG X (compareOp .LtE) (jX λi j=>.bl (decide (i<=j))):=o9 λ_ _ _ _ _ _ _ q=>le_int q
theorem gq:dG X (compareOp .Gt) (jX λi j=>.bl (decide (j<i))):=o9 λ_ _ _ _ _ _ _ q=>gt_int q
theorem ER:dG X (compareOp .In) (λx y H Q=>∃i j,x=.str i/\y=.str j/\Q (.bl (!(Builtin.Str.occurrences j i 0 j.length 1).isEmpty)) H):=by
 intro d s k H x y v u Q I e f h;obtain⟨i,j,rfl,rfl,q⟩:=h;obtain⟨t,rfl⟩:=e;obtain⟨g,rfl⟩:=f;exact in_str (dP I q rfl)
theorem Ac:dG X (compareOp .Is) (λx y H Q=>y=.non/\Q (.bl (decide (x=.non))) H):=by
 intro d s g H x y v u Q I e f h;obtain⟨rfl,q⟩:=h
 cases f
 refine is_none_gen (dP I q ?_)
 cases x<;>first
  |(cases e;rfl)
  |(obtain⟨t,rfl⟩:=e;rfl)
theorem cf(b:Expr){d:CmpOp}(h:d≠.In:=by decide)(g:d≠.NotIn:=by decide):behindInMarks d b=false:=by
 have e:(d==CmpOp.In)=false:=by cases d<;>first|rfl|exact absurd rfl h
 have f:(d==CmpOp.NotIn)=false:=by cases d<;>first|rfl|exact absurd rfl g
 cases b<;>simp[behindInMarks,e,f]
theorem gg{e:CmpOp}{r:R2}(l:dG X (compareOp e) r)(i:PE X a ta)(j:PE X b tb)(k:behindInMarks e b=false):PE X (.Compare a [e] [b] pos) (fF r ta tb):=by
 intro d s p H Q I h;exact wpAny_Compare1 (o8 i j I h λv u o x y f g m n q=>l d o p f x y v u Q g m n q) k
def sJ(t:TE):TT:=λe H Q=>t e H λx d=>∃k,x=.bl k/\Q k d
theorem cm{f:CmpOp}{r:R2}(m:dG X (compareOp f) r)(i:PE X a ta)(j:PE X b tb)(l:behindInMarks f b=false):PT X (.Compare a [f] [b] pos) (sJ (fF r ta tb)):=by
 intro d s g H Q I h;refine wpAny_isTrue_Compare1 (bZ (i d s g H _ I h) λv n ⟨x,H1,I1,r1,q1⟩=>bZ (j d n g H1 _ I1 q1) λu o ⟨y,H2,I2,r2,q2⟩=>
  bZ (m d o g H2 x y v u _ I2 r1 r2 q2) λc p ⟨z,H3,I3,r3,k,e,q3⟩=>?_) l
 subst e
 cases r3
 exact IZ ⟨H3,I3,q3⟩
def xF(r i:R2)(ta tb tc:TE):TE:=λd H Q=>ta d H λx f=>tb d f λy g=>r x y g λz e=>∃k,z=.bl k /\
 (if k=true then tc d e λj h=>i y j h Q else Q (.bl false) e)
theorem wq{l g:CmpOp}{r m:R2}(t:dG X (compareOp l) r)(j:dG X (compareOp g) m)(n:PE X a ta)(o:PE X b tb)(p:PE X c tc)
  (q:lastMarks [l,g] [b,c]=false:=by with_unfolding_all rfl):PE X (.Compare a [l,g] [b,c] pos) (xF r m ta tb tc):=by
 intro f s i H Q I h;refine Compare_chain (bZ (n f s i H _ I h) λv w ⟨x,H1,I1,r1,q1⟩=>chain_link (bZ (o f w i H1 _ I1 q1) λu A ⟨y,H2,I2,r2,q2⟩=>
  bZ (t f A i H2 x y v u _ I2 r1 r2 q2) λd B ⟨z,H3,I3,r3,k,e,q3⟩=>?_)) q
 subst e
 cases r3
 refine IZ ?_
 cases k with
 |false=>exact ite_ff ⟨.bl false,H3,I3,rfl,q3⟩
 |true=>exact ite_tt (chain_last (bZ (p f B i H3 _ I3 q3) λD C ⟨E,H4,I4,r4,q4⟩=>j f C i H4 y E u D Q I4 r2 r4 q4))
theorem F6{l g:CmpOp}{r m:R2}(w:dG X (compareOp l) r)(j:dG X (compareOp g) m)(o:PE X a ta)(p:PE X b tb)(q:PE X c tc)
  (t:lastMarks [l,g] [b,c]=false:=by with_unfolding_all rfl):PT X (.Compare a [l,g] [b,c] pos) (sJ (xF r m ta tb tc)):=by
 intro f s i H Q I h;refine isTrue_chain (bZ (o f s i H _ I h) λv B ⟨x,H1,I1,r1,q1⟩=>test_link (bZ (p f B i H1 _ I1 q1) λu C ⟨y,H2,I2,r2,q2⟩=>
  bZ (w f C i H2 x y v u _ I2 r1 r2 q2) λd D ⟨z,H3,I3,r3,k,e,q3⟩=>?_)) t
 subst e
 cases r3
 refine IZ ?_
 cases k with
 |false=>
  obtain⟨L,n,A⟩:=q3
  cases n
  exact ite_ff ⟨H3,I3,A⟩
 |true=>
  refine ite_tt (test_last (bZ (q f D i H3 _ I3 q3) λF E ⟨G,H4,I4,r4,q4⟩=>bZ (j f E i H4 y G u F _ I4 r2 r4 q4) λJ M ⟨N,H5,I5,r5,k2,e2,q5⟩=>?_));subst e2
  cases r5
  exact IZ ⟨H5,I5,q5⟩
theorem jN:(sizeLine:Nat)<2^63:=by rw[HF];decide
theorem cw:dG X (binaryOp .Add) (λx y H Q=>∃i j,x=.str i/\y=.str j/\i.length+j.length<=sizeLine/\Q (.str (i++j)) H):=by
 intro d s m H x y v u Q I f g h;obtain⟨i,j,rfl,rfl,e,q⟩:=h;obtain⟨t,rfl⟩:=f;obtain⟨k,rfl⟩:=g;exact add_str (λk l=>⟨.str (i++j),H,I.tok _,⟨_,R⟩,q⟩) e
theorem fD{x:V}{d:List Value}(r:Vals [x] d):∃u,d=[u]/\RelV x u:=by
 cases r with
 |cons r1 r2=>cases r2;exact⟨_,rfl,r1⟩
theorem mB{x y:V}{d:List Value}(r:Vals [x,y] d):∃u e,d=[u,e]/\RelV x u/\RelV y e:=by
 cases r with
 |cons r1 r2=>
  cases r2 with
  |cons r3 r4=>cases r4;exact⟨_,_,rfl,r1,r3⟩
theorem EL(f:X.calm=true):eM X (.builtin "min") (λxs H Q=>∃i j,xs=[.int i,.int j]/\Q (.int (if j<i then j else i)) H):=by
 intro e s p H xs n Q I r h;obtain⟨i,j,rfl,q⟩:=h;obtain⟨u,o,rfl,⟨t,rfl⟩,⟨l,rfl⟩⟩:=mB r;refine min_two_ints (I.ok.hd f) λg m k=>⟨_,H,I.kept k,?_,q⟩
 by_cases d:j<i
 ·rw[Hl d,Hl d];exact⟨_,R⟩
 ·rw[GY d,GY d];exact⟨_,R⟩
theorem qI:eM X (.type "int") (λxs H Q=>(∃i,xs=[.int i]/\Q (.int i) H)\/∃k,xs=[.bl k]/\Q (.int (if k then 1 else 0)) H):=by
 intro d s g H xs f Q I r h;rcases h with⟨i,rfl,q⟩|⟨k,rfl,q⟩
 ·obtain⟨u,rfl,t,rfl⟩:=fD r;exact call_int_int ⟨.int i,H,I,⟨_,R⟩,q⟩
 ·obtain⟨u,rfl,e⟩:=fD r
  cases e
  exact call_int_bool ⟨.int (if k then 1 else 0),H,I.tok _,⟨_,R⟩,q⟩
theorem jz:eM X (.type "str") (λxs H Q=>∃i,xs=[.int i]/\i.natAbs.log2<1920/\Q (.str (toString i)) H):=by
 intro d s g H xs f Q I r h;obtain⟨i,rfl,e,q⟩:=h;obtain⟨u,rfl,t,rfl⟩:=fD r;exact PySem.P.str_of_int e ⟨.str _,H,I.tok _,⟨_,R⟩,q⟩
end
structure ObjM(h:Heap)(x dx C:Addr)(mA:Str->Option Value):Prop where
 obj:h.get? x=some (PySem.W.instObj C dx)
 ns:h.Ns1 dx mA
 ne:dx≠x
theorem ET{h:Heap}{b:Addr}{d:Str->Option Value}(n:h.Ns1 b d):∃f,h.get? b=some f/\∀name,PySem.W.lookIn name f=some (d name):=by
 obtain⟨o,c,r,m,j,k,_,l⟩:=n;refine⟨o,m,λname=>?_⟩;have e:=l name;unfold nsFind findBy at e;rw[<-Array.find?_toList] at e;unfold PySem.W.lookIn;rw[j];dsimp only
 split
 ·rename_i y q
  rw[q] at e;exact ID some e
 ·rename_i q
  rw[q] at e;have a:c.toList.any (·.refKey)=false:=by
   rw[List.any_eq_false];intro y p;obtain⟨z,t,i⟩:=k y (JH.mp p);simp[DictEntry.refKey,i]
  have g:¬c.toList.any (·.refKey)=true:=by rw[a];exact Hh
  rw[GY g];exact ID some e
theorem ObjM.look{h:Heap}{x b C:Addr}{c:Str->Option Value}(I:ObjM h x b C c):∃a,PySem.W.InstAt h x (PySem.W.instObj C b) C (some a)/\∀name,PySem.W.lookIn name a=some (c name):=
 let ⟨a,ho,hl⟩:=ET I.ns
 ⟨a,⟨I.obj,R,R,ho⟩,hl⟩
section
variable{P:Program}{w:World}{H H':Hp}{h h':Heap}{a C dx:Addr}{fs fs':List (Str × V)}
theorem y6(c:HOk P w H h)(e:H a=some (.ins C dx fs)):∃b,ObjM h a dx C b/\(∀f,o7 (fs.lookup f) (b f))/\PySem.Within b (fs.map (·.1))/\fs.length<=1000/\H dx=some (.own a):=by
 obtain⟨d,z,g,i,b,n,r,q⟩:=(show ObjOk P w H h a (.ins C dx fs) from c a _ e)
 exact⟨b,⟨i,n,g⟩,r,q,z,d⟩
end
structure Cls(K:PySem.W.Frag)(C:Addr):Prop where
 pg:PySem.W.plainGet K C Str.empty=true
 hd:PySem.W.hasDictIn K C=true
 po:PySem.W.plainOver K C=true
 sa:PySem.W.findIn K (.ref C) "__setattr__" = some (some (.builtin "object.__setattr__"))
theorem Cls.get{K:PySem.W.Frag}{C:Addr}(c:Cls K C)(f:Str):PySem.W.plainGet K C f=true:=c.pg
section
variable{X:Cx}{pins:List (Addr × Obj)}{σ:St}{H:Hp}{s:Shared}{A:Around}{E:Value -> Shared -> Prop}{Q:Value -> Shared -> Prop}{c:Value}{b:Bool}
inductive fN (K:PySem.W.Frag) (H:Hp):V->Value->Prop where
 |non:fN K H .non (.type "NoneType")
 |bl (x:Bool):fN K H (.bl x) (.type "bool")
 |int (i:Int):fN K H (.int i) (.type "int")
 |str (x:Str):fN K H (.str x) (.type "str")
 |flt (x:UInt64):fN K H (.flt x) (.type "float")
 |lst {a:Addr} {xs:List V} (e:H a=some (.lst xs)):fN K H (.ref a) (.type "list")
 |frz {a:Addr} {o:Obj} {xs:List V} (e:H a=some (.frz o (.lst xs))):fN K H (.ref a) (.type "list")
 |tup {a:Addr} {xs:List V} (e:H a=some (.tup xs)):fN K H (.ref a) (.type "tuple")
 |dK {a:Addr} {kvs:List (fE×V)} (e:H a=some (.dK kvs)):fN K H (.ref a) (.type "dict")
 |dT {a:Addr} {kvs:List (List fE×V)} (e:H a=some (.dT kvs)):fN K H (.ref a) (.type "dict")
 |ins {a C dx:Addr} {fs:List (Str×V)} (e:H a=some (.ins C dx fs)) (cl:Cls K C) (ha:PySem.W.findIn K (.ref C) "__class__" = some (some (.builtin "object.__class__")))
   (hn:PySem.W.specialIn K (.builtin "object.__class__") "__get__" = some (some (.builtin "getset_descriptor.__get__"))) (htk:PySem.W.takesIn K (.builtin "object.__class__")=some true)
   (hm:PySem.W.mroIn K C (.type "object")=some true):fN K H (.ref a) (.ref C)
theorem EN{x:V}{u t:Value}(I:Inv X pins σ H s)(d:RelV x u)(m:fN X.K H x t)(e:PySem.W.kitOne X.K t c=some b)(h:∀tk,Q (.bool b) { s with toks:=tk }):
  wpAny (model X.prog X.w) A (call (.builtin "isinstance") [u,c]) Q E s:=by
 cases m with
 |non=>cases(show u=Value.none from d);exact IC PySem.W.kitx_none I.kIn True.intro e (λz=>nomatch z) h
 |bl y=>cases(show u=Value.bool y from d);exact IC PySem.W.kitx_bool I.kIn True.intro e (λz=>nomatch z) h
 |int i=>obtain⟨t,q⟩:=(show ∃t,u=Value.int i t from d);cases q;exact IC PySem.W.kitx_int I.kIn True.intro e (λz=>nomatch z) h
 |str y=>obtain⟨t,q⟩:=(show ∃t,u=Value.str y t from d);cases q;exact IC PySem.W.kitx_str I.kIn True.intro e (λz=>nomatch z) h
 |flt y=>obtain⟨t,q⟩:=(show ∃t,u=Value.float y t from d);cases q;exact IC PySem.W.kitx_float I.kIn True.intro e (λz=>nomatch z) h
 |@lst a g ea=>
  cases(show u=Value.ref a from d)
  obtain⟨_,_,n,_,f⟩:=(show ObjOk X.prog X.w H s.heap a (.lst g) from I.hok a _ ea)
  exact IC PySem.W.kitx_list I.kIn ⟨_,f,R⟩ e (λz=>nomatch z) h
 |@frz a ob g ea=>
  cases(show u=Value.ref a from d)
  obtain⟨_,_,_,n,_,f⟩:=(show ObjOk X.prog X.w H s.heap a (.frz ob (.lst g)) from I.hok a _ ea)
  exact IC PySem.W.kitx_list I.kIn ⟨_,f,R⟩ e (λz=>nomatch z) h
 |@tup a g ea=>
  cases(show u=Value.ref a from d)
  obtain⟨_,_,_,p⟩:=(show ObjOk X.prog X.w H s.heap a (.tup g) from I.hok a _ ea)
  obtain⟨o,f,j,_⟩:=p;exact IC PySem.W.kitx_tuple I.kIn ⟨o,f,j⟩ e (λz=>nomatch z) h
 |@dK a kvs ea=>
  cases(show u=Value.ref a from d)
  obtain⟨_,_,B,_,p⟩:=(show ObjOk X.prog X.w H s.heap a (.dK kvs) from I.hok a _ ea)
  obtain⟨o,l,k,f,j,_⟩:=p;exact IC PySem.W.kitx_dict I.kIn ⟨o,f,j.1⟩ e (λz=>nomatch z) h
 |@dT a kvs ea=>
  cases(show u=Value.ref a from d)
  obtain⟨_,_,g,_,o,l,k,f,j,_⟩:=(show ObjOk X.prog X.w H s.heap a (.dT kvs) from I.hok a _ ea)
  exact IC PySem.W.kitx_dict I.kIn ⟨o,f,j.1⟩ e (λz=>nomatch z) h
 |@ins a C dx fs ea cl ha hn htk hm=>
  cases(show u=Value.ref a from d)
  obtain⟨r,O,_⟩:=y6 I.hok ea;obtain⟨v,J,_⟩:=O.look;exact IC (PySem.W.kitx_own (cl.get _) cl.hd ha hn htk hm) I.kIn J e (λz=>nomatch z) h
end
structure Room(k:Nat)(A:Around):Prop where
 hd:A.handled=none
 dp:A.depth+3*k+5<recursionLimit
 un:A.units+16*k+200<cLine
theorem Room.mono{j k:Nat}{A:Around}(r:Room k A)(h:j<=k):Room j A:=⟨r.hd,by have:=r.dp;omega,by have:=r.un;omega⟩
theorem Room.deeper{k:Nat}{A:Around}(r:Room (k+1) A)(env:Env):Room k (A.deeper env):=
 ⟨r.hd,by have:=r.dp;show A.depth+1+3*k+5<_;omega,by have:=r.un;show A.units+3+16*k+200<_;omega⟩
theorem Room.depth{k:Nat}{A:Around}(r:Room k A):A.depth<recursionLimit:=by have:=r.dp;omega
theorem Room.units{k:Nat}{A:Around}(r:Room k A):A.units+64<cLine:=by have:=r.un;omega
def gN:TA:=λ_ H Q=>Q [] H
def gm(d:TE)(e:TA):TA:=λa H Q=>d a H λx b=>e a b λf c=>Q (x::f) c
section
variable{X:Cx}{e:Expr}{es:List Expr}{te:TE}{t:TA}{pos:Pos}
theorem bG:PA X [] gN:=λ_ _ _ _ H Q I h=>Calls.spliced_nil ⟨[],H,I,.nil,h⟩
theorem bE(c:PE X e te)(d:PA X es t)(f:starEach (e::es) X.env=(false,eval e X.env)::starEach es X.env:=by rfl):PA X (e::es) (gm te t):=by
 intro pos a s b H Q I h;rw[f];show wpAny _ _ (spliced ((false,eval e X.env)::backTo pos (starEach es X.env))) _ _ s;refine Calls.spliced_cons (bZ (c a s b H _ I h) λu g ⟨x,H1,I1,r1,q1⟩=>?_);exact bZ (d pos a g b H1 _ I1 q1) λk j ⟨i,H2,I2,r2,q2⟩=>⟨x::i,H2,I2,.cons r1 r2,q2⟩
def tm(t:TA):TE:=λc H Q=>t c H λb a=>b.length<=sizeLine/\∀p,a p=none->Q (.ref p) (upd a p (.tup b))
def gO(t:TA):TE:=λc H Q=>t c H λb a=>b.length<=sizeLine/\∀p,a p=none->Q (.ref p) (upd a p (.lst b))
theorem dN{x1}(h:PA X es t):PE X (.Tuple es x1 pos) (tm t):=by
 intro a s j H Q I f;refine wpAny_Tuple_spliced (bZ (h pos a s j H _ I f) λg c ⟨i,H1,I1,r,z,q⟩=>⟨by rw[<-r.length];exact z,?_⟩);have d:H1 c.heap.objs.size=none:=I1.hok.fresh (GW _);refine⟨.ref c.heap.objs.size,upd H1 c.heap.objs.size (.tup i),I1.laid (t':=c.toks) (λb u e=>GR _ e) (GW _) ?_,R,q _ d⟩;exact⟨z,g,r,⟨_,Hk _ rfl,R,_,R⟩⟩
theorem cB(h:PA X es t):PE X (.List es pos) (gO t):=by
 intro a s j H Q I f;refine wpAny_List_spliced (bZ (h pos a s j H _ I f) λg c ⟨i,H1,I1,r,z,q⟩=>⟨by rw[<-r.length];exact z,?_⟩);have d:H1 c.heap.objs.size=none:=I1.hok.fresh (GW _);refine⟨.ref c.heap.objs.size,upd H1 c.heap.objs.size (.lst i),I1.laid (t':=c.toks) (λb u e=>GR _ e) (GW _) ?_,R,q _ d⟩;exact⟨z,g,0,r,Hk _ rfl⟩
end
abbrev Sp:=List V->Hp->VK->XK->Prop
abbrev ia:=List Env->Hp->Shared->XK->Value->Shared->Prop
structure mR(P:Program)(w:World)(K:PySem.W.Frag)(mg:Str->Option Value)(base:Heap)(A:Around)(outer:List Env)(s:Shared)(H:Hp):Prop where
 frames:A.frames=some outer
 mod:Mod K mg base
 bs:∀b o,base.get? b=some o->s.heap.get? b=some o/\H b=none
 bsz:base.objs.size<=s.heap.objs.size
 funs:s.heap.FunFrames base outer
 frf:∀b∈dh outer,H b=none
 hok:HOk P w H s.heap
 bare:AllBare s.gens
def CE(outer:List Env)(P:Program)(w:World)(H:Hp)(s:Shared)(Q:VK)(u:Value)(a:Shared):Prop:=
 ∃v b,a.os=s.os/\AllBare a.gens/\Un (dh outer) [] H b s.heap a.heap/\HOk P w b a.heap/\RelV v u/\Q v b
def CR(CX:ia)(outer:List Env)(P:Program)(w:World)(H:Hp)(s:Shared)(Q:VK)(E:XK)(r:Result)(a:Shared):Prop:=
 match r with
 |.ok (.ret u)=>CE outer P w H s Q u a
 |.ok _=>False
 |.error e=>CX outer H s E e a
structure cC(P:Program)(w:World)(K:PySem.W.Frag)(mg:Str->Option Value)(base:Heap)(CX:ia)(k:Nat)(f:Addr)(fd:FuncData)(ps:List Str)(sp:Sp):Prop where
 len:∀vs H Q E,sp vs H Q E->vs.length=ps.length
 run:∀(A:Around)(outer:List Env)(s:Shared)(H:Hp)(args:Args)(us:List Value)(vs:List V)(Q:VK)(E:XK),Room k A->mR P w K mg base A outer s H->BindsTo s fd args (ps.zip us)->Vals vs us->sp vs H Q E ->
  codeAny (model P w) A (.call (.ref f) args) (CR CX outer P w H s Q E) s
section
variable{X:Cx}{pins:List (Addr × Obj)}{σ:St}{H:Hp}{s s':Shared}
theorem Inv.env0(I:Inv X pins σ H s):mR X.prog X.w X.K X.mg X.base X.A X.stack s H:=
 ⟨I.ok.frames,I.ok.mod,I.bs,Hm I.ok.bsz I.sz,I.stack,I.stkFree,I.hok,I.bare⟩
theorem Inv.after{Q:VK}{u:Value}(I:Inv X pins σ H s)(h:CE X.stack X.prog X.w H s Q u s'):EP X pins σ Q u s':=by
 obtain⟨v,a,os,c,j,f,r,q⟩:=h;obtain⟨i,g,d,t,e⟩:=s';obtain rfl:e=s.os:=os;exact⟨v,a,I.call (h':=i) (g':=g) (d':=d) (t':=t) (ch:=[]) j f c (λb z=>absurd z (by simp)),r,q⟩
end
def oA(sp:Sp)(a:List V)(E:XK)(t:TA):TE:=λd H Q=>t d H λc b=>sp (c++a) b Q E
def Binds(K:PySem.W.Frag)(d:FuncData)(c:List Str)(b:List Value):Prop:=
 ∀(s:Shared)(a:List Value),K.In s.heap->(a++b).length=c.length->BindsTo s d ⟨a,[]⟩ (c.zip (a++b))
theorem Binds.all{K:PySem.W.Frag}{c:FuncData}{b:List Str}(h:∀a:List Value,a.length=b.length->bindArgs c ⟨a,[]⟩=pure (b.zip a)):Binds K c b []:=λs a _ d=>by
 rw[HZ] at d |-;exact .of_eq (h a d)
def mr(CX:ia)(X:Cx)(E:XK):Prop:=∀(a:List (Addr×Obj))(c:St)(H:Hp)(s:Shared)(e:Value)(b:Shared),Inv X a c H s->CX X.stack H s E e b->X.xe e b
section
variable{X:Cx}{CX:ia}{k:Nat}{f C:Addr}{fd:FuncData}{ps:List Str}{sp:Sp}{dvs:List V}{ds:List Value}{E:XK}{x m:Str}{p pos apos:Pos}{e o:Expr}{es:List Expr}{ta:TE}{t:TA}
theorem Au{a:List (Addr×Obj)}{g:St}{H:Hp}{s:Shared}{Q:VK}{b:List Value}{d:List V}(F:cC X.prog X.w X.K X.mg X.base CX k f fd ps sp)(q:Room k X.A)(j:Binds X.K fd ps ds)(l:Vals dvs ds)(v:mr CX X E)
  (I:Inv X a g H s) (r:Vals d b) (h:sp (d++dvs) H Q E):wpAny (model X.prog X.w) X.A (call (.ref f) b) (EP X a g Q) X.xe s:=by
 have i:Vals (d++dvs) (b++ds):=r.append l;have n:(b++ds).length=ps.length:=by rw[<-i.length];exact F.len _ _ _ _ h
 refine wpAny_call (J4 (F.run X.A X.stack s H ⟨b,[]⟩ (b++ds) (d++dvs) Q E q I.env0 (j s b I.kIn n) i h) λr y c=>?_)
 cases r with
 |error e=>exact v a g H s e y I c
 |ok fl=>
  cases fl with
  |ret u=>exact I.after c
  |next=>exact False.elim c
  |brk=>exact False.elim c
  |cont=>exact False.elim c
theorem eP(F:cC X.prog X.w X.K X.mg X.base CX k f fd ps sp)(v:Room k X.A)(l:Gl X x)(u:X.mg x=some (.ref f))(n:PySem.W.keepIn X.K (.ref f)=true)(g:Binds X.K fd ps ds)(i:Vals dvs ds)(y:mr CX X E)
  (d:PA X (e::es) t) (b:(x==("__debug__" : Str))=false:=by decide) (j:starEach (e::es) X.env=(false,eval e X.env)::starEach es X.env:=by rfl) (c:(backTo pos (starEach es X.env)).any (·.1)=false:=by rfl):
  PE X (.Call (.Name x p) (e::es) [] pos) (oA sp dvs E t):=by
 intro a s z H Q I h;refine JC (mh I l u ?_ b);refine PySem.W.callWith_K (h₀:=X.base) I.ok.mod.kin n (bZ (d pos a s z H _ I h) λD B ⟨G,H1,I1,r,q⟩=>⟨I1.kIn,?_⟩) j c;exact Au F v g i y I1 r q
end
section
variable{X:Cx}{CX:ia}{k:Nat}{f C:Addr}{fd:FuncData}{ps ks:List Str}{sp:Sp}{E:XK}{x m:Str}{p pos apos kpos:Pos}{e o:Expr}{es:List Expr}{kws:List Keyword}{te ta:TE}{t tk:TA}{nm:Option Str}
variable{g:List Value -> List Value -> List Value}{gV:List V -> List V -> List V}
end
structure cR(N P:List Str)(sc:Scope):Prop where
 kind:sc.kind=.function
 co:sc.isCoroutine=false
 gen:sc.isGenerator=false
 nd:N.Nodup
 pre:N.take P.length=P
 par:∀x∈P,sc.names.lookup x=some .local\/sc.names.lookup x=some .cell
 nofree:∀y∈sc.names,y.2≠.free
theorem uX{kindOf:Str->Option NameKind}{x:Str}:∀{a:List (Str×Value)} {m:Str->Option Value},(∀v,(x,v)∉a)->bindL kindOf a m x=m x
 |[],_,_=>rfl
 |(n,v)::r,m,h=>by
  unfold bindL;rw[uX λw b=>h w (GP _ b)]
  split
  ·have:x≠n:=by rintro rfl;exact h v GM
   simp[this]
  ·rfl
theorem vx{kindOf:Str->Option NameKind}{x:Str}:∀{a:List (Str×Value)} {m:Str->Option Value},(∀v,(x,v)∉a)->bindC kindOf a m x=m x
 |[],_,_=>rfl
 |(n,v)::r,m,h=>by
  unfold bindC;rw[vx λw b=>h w (GP _ b)]
  split
  ·rfl
  ·have:x≠n:=by rintro rfl;exact h v GM
   simp[this]
theorem vq{kindOf:Str->Option NameKind}{x:Str}{v:Value}:∀{P:List Str} {a:List Value} {i:Nat} {m:Str->Option Value},P.Nodup->P[i]?=some x->a[i]?=some v->kindOf x=some .local ->
  bindL kindOf (P.zip a) m x=some v
 |[],_,_,_,_,h,_,_=>by simp at h
 |_::_,[],_,_,_,_,h,_=>by simp at h
 |p::P,w::a,0,m,nd,h1,h2,hk=>by
  simp at h1 h2;subst h1;subst h2;show bindL kindOf ((p,w)::P.zip a) m p=_;unfold bindL;rw[uX λv b=>(Jk.mp nd).1 (Lz b).1,Hl hk];simp
 |p::P,w::a,i+1,m,nd,h1,h2,hk=>by
  show bindL kindOf ((p,w)::P.zip a) m x=_;unfold bindL;exact vq (i:=i) (Jk.mp nd).2 (by simpa using h1) (by simpa using h2) hk
theorem vt{kindOf:Str->Option NameKind}{x:Str}{v:Value}:∀{P:List Str} {a:List Value} {i:Nat} {m:Str->Option Value},P.Nodup->P[i]?=some x->a[i]?=some v->kindOf x≠some .local ->
  bindC kindOf (P.zip a) m x=some v
 |[],_,_,_,_,h,_,_=>by simp at h
 |_::_,[],_,_,_,_,h,_=>by simp at h
 |p::P,w::a,0,m,nd,h1,h2,hk=>by
  simp at h1 h2;subst h1;subst h2;show bindC kindOf ((p,w)::P.zip a) m p=_;unfold bindC;rw[vx λv b=>(Jk.mp nd).1 (Lz b).1,GY hk];simp
 |p::P,w::a,i+1,m,nd,h1,h2,hk=>by
  show bindC kindOf ((p,w)::P.zip a) m x=_;unfold bindC;exact vt (i:=i) (Jk.mp nd).2 (by simpa using h1) (by simpa using h2) hk
def start(N:List Str)(a:List V):St:=a.map some++List.replicate (N.length-a.length) none
def fq(CX:ia)(P:Program)(w:World)(K:PySem.W.Frag)(mg:Str->Option Value)(base:Heap)(N:List Str)(b:Str)(a:Scope)(f:Addr)(d:Value)(A:Around)(outer:List Env)(s:Shared)(H:Hp)(E:XK):Cx where
 prog:=P
 w:=w
 K:=K
 mg:=mg
 base:=base
 A:=A.deeper (envOfC b a s.heap.objs.size f d)
 N:=N
 s₀:=s
 H₀:=H
 env:=envOfC b a s.heap.objs.size f d
 outer:=outer
 stack:=envOfC b a s.heap.objs.size f d::outer
 ex:=[]
 calm:=true
 fn:=λ_=>true
 pn:=[]
 xe:=λe h=>wpAny (model P w) (A.deeper (envOfC b a s.heap.objs.size f d)) (leaving (envOfC b a s.heap.objs.size f d) e) (λ_ c=>CX outer H s E e c) (λg c=>CX outer H s E g c) h
theorem wp{a:Scope}{n:Nat}{x:Str}(h:a.names.lookup x=some .cell):∃c,(cellsFrom n a.names []).lookup x=some c:=by
 have q:=PySem.W.cellsFrom_some a.names n [] (.inl h);exact Option.isSome_iff_exists.mp q
theorem EH{CX:ia}{P:Program}{w:World}{K:PySem.W.Frag}{I:Str->Option Value}{base:Heap}{N o:List Str}{g:Str}{d:Scope}{f:Addr}{C:Value}{A:Around}{outer:List Env}{s Q:Shared}{H:Hp}{E:XK}{J:List Value}{t:List V}
  (S:cR N o d) (U:A.handled=none) (l:mR P w K I base A outer s H) (hl:t.length=o.length) (r:Vals t J)
  (x:InCallC s s.heap.objs.size (bindL (envOfC g d s.heap.objs.size f C).kindOf (o.zip J) λ_=>none) (cellsFrom (s.heap.objs.size+1) d.names []) (bindC (envOfC g d s.heap.objs.size f C).kindOf (o.zip J) λ_=>none) Q):
  Inv (fq CX P w K I base N g d f C A outer s H E) [] (start N t) H Q:=by
 have Y:o.length<=N.length:=by have:=ID List.length S.pre;rw[G8] at this;omega
 obtain⟨D,tk,rfl,M⟩:=x.done;have G:∀b:Addr,b∉(fq CX P w K I base N g d f C A outer s H E).ex:=λb z=>absurd (show b∈([]:List Addr) from z) (by simp);refine⟨⟨l.mod,S.kind,R,R,GW _,λy z c D j=>?_,λy m=>?_,λy c _ h=>?_,λ_=>U,Around.frames_deeper l.frames,.inr ⟨R,R⟩,λb z=>absurd z (G b),l.bs,l.bsz,λb _ _=>G b,λb z=>absurd z (G b),l.funs,l.frf⟩,
  rfl,l.bare,Un.kept M,⟨_,x.toInCall.ns,λi y v D j Z=>?_⟩,λy c h=>⟨_,x.cell y c h⟩,l.hok.fresh (GW _),λy c h=>?_,λp B=>absurd (show p∈([]:List (Addr×Obj)) from B) (by simp),l.hok.kept M,?_⟩
 ·exact name_of_addr x.apart (Jj D) (Jj j)
 ·have m:d.names.lookup y=some .cell\/d.names.lookup y=some .free:=m;rcases m with m|m
  ·exact wp m
  ·exact absurd rfl (S.nofree _ (Jj m))
 ·exact Ju (x.above y c (Jj h))
 ·have F:i<t.length:=by
   unfold start at j;by_cases F:i<t.length
   ·exact F
   ·rw[HP (by simpa using F)] at j;rw[Ln] at j
    split at j<;>cases j
  have T:t[i]?=some v:=by
   unfold start at j;rw[HX (by simpa using F),GQ] at j
   cases e:t[i]? with
   |none=>rw[e] at j;cases j
   |some a=>rw[e] at j;cases j;rfl
  obtain⟨u,O,X⟩:=r.get T;have B:o[i]?=some y:=by
   rw[<-S.pre,List.getElem?_take_of_lt (by omega)];exact D
  have L:o.Nodup:=by rw[<-S.pre];exact S.nd.sublist (List.take_sublist _ _)
  refine⟨u,X,?_⟩;rcases S.par y (GO B) with k|k
  ·exact .inl ⟨k,vq L B O k⟩
  ·obtain⟨c,e⟩:=wp (n:=s.heap.objs.size+1) k;refine .inr ⟨.inl k,c,e,?_⟩;have q:=x.cell y c e;rw[vt L B O (by show d.names.lookup y≠_;rw[k];decide)] at q;exact q
 ·exact l.hok.fresh (Ju (x.above y c (Jj h)))
 ·unfold start;show _=N.length;rw[GC,Gz,Ix];omega
theorem sC{CX:ia}{P:Program}{w:World}{K:PySem.W.Frag}{D:Str->Option Value}{base:Heap}{k:Nat}{f:Addr}{name c:Str}{g:Arguments}{h:List Stmt}{a:Scope}{dV kV z pm d ct oc:Value}{Z od:Option Addr}
  {M:Array (Option Value)} {N F:List Str} {sp:Sp} (lk:K.lookup f=some ⟨oc,od,.func (PySem.W.fnOf name c g h a dV kV z pm Z d ct),M⟩) (G:PySem.W.codeIn K d c=true) (S:cR N F a)
  (C:∀i H Q E,sp i H Q E->i.length=F.length)
  (m:∀(A:Around)(outer:List Env)(s:Shared)(H:Hp)(i:List V)(Q:VK)(E:XK),Room k (A.deeper (envOfC c a s.heap.objs.size f d))->sp i H Q E ->
   ∃t,PSs (fq CX P w K D base N c a f d A outer s H E) h t/\t { nx:=λ_ l=>Q .non l,rt:=Q } (start N i) H):
  cC P w K D base CX (k+1) f (PySem.W.fnOf name c g h a dV kV z pm Z d ct) F sp:=by
 refine⟨C,λA outer s H aB us i Q E L B hb r X=>?_⟩;have hl:=C _ _ _ _ X;have U:K.In s.heap:=B.mod.kin.keeps λb o e=>(B.bs b o e).1;have ag:s.heap.NoLimit:=B.mod.nolimit.keeps λb o e=>(B.bs b o e).1;have aa:∀y∈F.zip us,a.names.lookup y.1=some .local\/(a.names.lookup y.1=some .cell/\((cellsFrom (s.heap.objs.size+1) a.names []).lookup y.1).isSome=true):=λ⟨n,v⟩ hy=>by
  rcases S.par n (Lz hy).1 with q|q
  ·exact .inl q
  ·exact .inr ⟨q,PySem.W.cellsFrom_some _ _ _ (.inl q)⟩
 refine codeAny_call_function L.depth (U _ _ lk) rfl S.co S.gen rfl (PySem.W.codeRec_of U G) (hb _ _ _ _ ?_);refine wpAny_newFunctionEnv_cells S.kind aa λni he s1 x=>?_;subst he;refine⟨ag.keeps x.toInCall.keep,codeAny_func ?_⟩;obtain⟨t,ht,hq⟩:=m A outer s H i Q E (L.deeper _) X;have I:Inv (fq CX P w K D base N c a f d A outer s H E) [] (start N i) H s1:=EH S L.hd B hl r x;refine IR (ht [] s1 (start N i) H _ I hq) (λfl T p=>?_) λe T p=>p;have Y:∀{j:St} {l:Hp} {v:V} {u:Value},Inv (fq CX P w K D base N c a f d A outer s H E) [] j l T->RelV v u->Q v l->CE outer P w H s Q u T:=
  λ{j l v u} J O q=>⟨v,l,J.os,J.bare,J.base,J.hok,O,q⟩
 cases fl with
 |ret u=>
  obtain⟨v,j,l,J,O,q⟩:=p;exact Y J O q
 |next=>
  obtain⟨j,l,J,q⟩:=p;exact Y (v:=V.non) (u:=Value.none) J rfl q
 |brk=>
  obtain⟨_,_,_,q⟩:=p;exact False.elim q
 |cont=>
  obtain⟨_,_,_,q⟩:=p;exact False.elim q
section
variable{X:Cx}{x:Str}{p pos:Pos}{e:Expr}{es:List Expr}{t:TA}{id T:String}{r:List V -> Hp -> VK -> Prop}
def sy(r:List V->Hp->VK->Prop)(t:TA):TE:=λc H Q=>t c H λb a=>r b a Q
theorem cA(g:eM X (.builtin id) r)(j:Gl X x)(k:X.mg x=none)(m:bootBuiltins x=some (.builtin id))(f:PA X (e::es) t)(l:x ≠ "__name__" := by decide)(b:(x==("__debug__" : Str))=false:=by decide)
  (i:starEach (e::es) X.env=(false,eval e X.env)::starEach es X.env:=by rfl) (c:(backTo pos (starEach es X.env)).any (·.1)=false:=by rfl):PE X (.Call (.Name x p) (e::es) [] pos) (sy r t):=by
 intro a s d H Q I h;refine JC (jK I j k m ?_ l b);exact PyProof.Rows.callWith_builtin1 (bZ (f pos a s d H _ I h) λo n ⟨q,H1,I1,r1,q1⟩=>g a n d H1 q o Q I1 r1 q1) i c
theorem dW(g:eM X (.type T) r)(j:Gl X x)(k:X.mg x=none)(m:bootBuiltins x=some (.type T))(f:PA X (e::es) t)(l:x ≠ "__name__" := by decide)(b:(x==("__debug__" : Str))=false:=by decide)
  (i:starEach (e::es) X.env=(false,eval e X.env)::starEach es X.env:=by rfl) (c:(backTo pos (starEach es X.env)).any (·.1)=false:=by rfl):PE X (.Call (.Name x p) (e::es) [] pos) (sy r t):=by
 intro a s d H Q I h;refine JC (jK I j k m ?_ l b);exact IM (bZ (f pos a s d H _ I h) λo n ⟨q,H1,I1,r1,q1⟩=>g a n d H1 q o Q I1 r1 q1) i c
end
end L2
namespace HT
open PySem PyProof.Rows
section
open PySem.SeqAt
open PySem.AutoSeq1 (wpAny_loadPart')
open PySem.MeetsSeq PySem.MeetsSeq2 PySem.MeetsSeq3
end
section
variable{prog:Program}{w:World}{A:Around}{E:Value -> Shared -> Prop}{s:Shared}
def sIx(n d:Nat):Option Int->Nat
 |none=>d
 |some v=>if v<0 then (v+(n:Int)).toNat else min v.toNat n
theorem sIx_nat(n d k:Nat):sIx n d (some (k:Int))=min k n:=by
 show(if (k:Int)<0 then ((k:Int)+(n:Int)).toNat else min (k:Int).toNat n)=min k n;rw[GY (by omega),Iu]
end
end HT
namespace L2
open PySem PySem.Spec PyProof.Rows
abbrev TO:=St->Hp->(Option Int->Hp->Prop)->Prop
def PO(X:Cx)(e:Option Expr)(t:TO):Prop:=
 ∀(a:List (Addr×Obj))(s:Shared)(b:St)(H:Hp)(Q:Option Int->Hp->Prop),Inv X a b H s->t b H Q ->
  wpAny (model X.prog X.w) X.A (evalPart e X.env) (λu d=>∃o c,Inv X a b c d/\IsPart u o/\Q o c) X.xe s
def jH:TO:=λ_ H Q=>Q none H
def iT(t:TE):TO:=λb H Q=>t b H λx a=>∃i,x=.int i/\Q (some i) a
theorem nG{ns:List Int}:∀{a:List Value},Vals (ns.map V.int) a->IntsAre a ns:=by
 induction ns with
 |nil=>intro a r;rw[List.map_nil] at r;cases r;exact .nil
 |cons n ns ih=>
  intro a r;rw[HD] at r
  cases r with
  |cons r1 r2=>
   obtain⟨t,e⟩:=r1;subst e;exact .cons n t (ih r2)
section
variable{X:Cx}{e:Expr}{te:TE}{lo hi:Option Expr}{tl th:TO}{pos p2:Pos}
theorem eK:PO X none jH:=by
 intro a s b H Q I h;rw[evalPart_none];exact GV ⟨none,H,I,.none,h⟩
theorem dJ(h:PE X e te):PO X (some e) (iT te):=by
 intro a s c H Q I b;rw[evalPart_some];refine bZ (h a s c H _ I b) λu d ⟨x,H1,I1,r1,q1⟩=>?_;obtain⟨i,rfl,q⟩:=q1;obtain⟨t,rfl⟩:=r1;exact⟨some i,H1,I1,.int i t,q⟩
def mG(X:Cx)(r:V->Option Int->Option Int->Hp->VK->Prop):Prop:=
 ∀(a:List (Addr×Obj))(s:Shared)(f:St)(H:Hp)(x:V)(v c d:Value)(lo hi:Option Int)(b:Addr)(Q:VK),Inv X a f H s->RelV x v->s.heap.IsSliceOf b c d .none->IsPart c lo->IsPart d hi->r x lo hi H Q ->
  ∃T id,typeLookup (.type T) "__getitem__" = pure (some (.builtin id))/\s.TypeIs v T/\wpAny (model X.prog X.w) X.A (getItem v (.ref b)) (EP X a f Q) X.xe s
def iI(r:V->Option Int->Option Int->Hp->VK->Prop)(te:TE)(tl th:TO):TE:=λa H Q=>te a H λx b=>tl a b λl c=>th a c λu d=>r x l u d Q
theorem dX{r:V->Option Int->Option Int->Hp->VK->Prop}(o:mG X r)(k:PE X e te)(n:PO X lo tl)(t:PO X hi th):PE X (.Subscript e (.Slice lo hi none p2) pos) (iI r te tl th):=by
 intro a s d H Q I h;refine Subscript_ (bZ (k a s d H _ I h) λv y ⟨x,H1,I1,r1,q1⟩=>?_);refine wpAny_Slice (bZ (n a y d H1 _ I1 q1) λf z ⟨l,H2,I2,pl,q2⟩=>bZ (t a z d H2 _ I2 q2) λg c ⟨u,H3,I3,pu,q3⟩=>?_);rw[evalPart_none];refine GV ?_;have i:Inv X a d H3 { c with heap:=c.heap.push { cls:=.type "slice",data:=.fields #[f,g,.none] } }:=I3.kept (t':=c.toks) λb B q=>GR _ q;obtain⟨T,id,j,p,m⟩:=o a { c with heap:=c.heap.push { cls:=.type "slice",data:=.fields #[f,g,.none] } } d H3 x v f g l u c.heap.objs.size Q i r1 (Heap.IsSliceOf.new ..) pl pu q3;show wpAny (model X.prog X.w) X.A (subscriptTail e (.Slice lo hi none p2) v (.ref c.heap.objs.size)) (EP X a d Q) X.xe { c with heap:=c.heap.push { cls:=.type "slice",data:=.fields #[f,g,.none] } };exact tail_any (ops:=[.ref c.heap.objs.size,v]) p j m (by with_unfolding_all rfl)
def dS(xs:List V)(lo hi:Option Int):List V:=(xs.drop (HT.sIx xs.length 0 lo)).take (HT.sIx xs.length xs.length hi-HT.sIx xs.length 0 lo)
theorem De(xs:List V)(lo hi:Option Int):(dS xs lo hi).length<=xs.length:=by
 unfold dS;rw[G8,Hd];omega
end
def ir(n:Nat)(i:Int):Option Nat:=if 0<=i then (if i<n then some i.toNat else none) else if -(n:Int)<=i then some (i+n).toNat else none
def eJ{a:Type}(xs:List a)(i:Int):Option a:=(ir xs.length i).bind λj=>xs[j]?
theorem xg{n:Nat}{i:Int}{j:Nat}(h:ir n i=some j):seqIndex? i n=some j/\j<n/\-(n:Int)<=i/\i<n:=by
 unfold ir at h;by_cases b:0<=i
 ·rw[Hl b] at h;by_cases a:i<n
  ·rw[Hl a] at h;have e:i.toNat=j:=HI h;exact⟨by rw[seqIndex_of b a,e],by omega,by omega,a⟩
  ·rw[GY a] at h;cases h
 ·rw[GY b] at h;by_cases a : -(n:Int)<=i
  ·rw[Hl a] at h;have e:(i+n).toNat=j:=HI h;exact⟨by rw[seqIndex_neg (by omega) a,e],by omega,a,by omega⟩
  ·rw[GY a] at h;cases h
theorem rF{a:Type}{xs:List a}{i:Int}{v:a}(h:eJ xs i=some v):∃j,seqIndex? i xs.length=some j/\xs[j]?=some v/\j<xs.length/\-(xs.length:Int)<=i/\i<xs.length:=by
 unfold eJ at h
 cases e:ir xs.length i with
 |none=>rw[e] at h;cases h
 |some j=>
  rw[e] at h;obtain⟨b,c,d,f⟩:=xg e;exact⟨j,b,h,c,d,f⟩
theorem cS{a:Type}{xs:List a}{j:Nat}{v:a}(h:xs[j]?=some v):eJ xs (j:Int)=some v:=by
 have b:j<xs.length:=(GU.mp h).1;have e:ir xs.length (j:Int)=some j:=by
  unfold ir;rw[Hl (by omega),Hl (by omega)];simp
 unfold eJ;rw[e];exact h
def wO(b:Expr):Prop:=∀o i,subscripted b false o i=operate [o,i] (getItem o i)
def jU(X:Cx)(r:R2):Prop:=
 ∀(c a:Expr)(b:List (Addr×Obj))(s:Shared)(d:St)(H:Hp)(x y:V)(v u:Value)(Q:VK),Inv X b d H s->RelV x v->RelV y u->r x y H Q ->
  subscripted a false v u=operate [v,u] (getItem v u)->wpAny (model X.prog X.w) X.A (subscriptTail c a v u) (EP X b d Q) X.xe s
def ko(X:Cx)(id:String)(r:V->List V->Hp->VK->Prop):Prop:=
 ∀(a:List (Addr×Obj))(s:Shared)(d:St)(H:Hp)(x:V)(c:List V)(v:Value)(b:List Value)(Q:VK),Inv X a d H s->RelV x v->Vals c b->r x c H Q ->
  wpAny (model X.prog X.w) X.A (call (.builtin id) (v::b)) (EP X a d Q) X.xe s
section
variable{X:Cx}{a b:Expr}{ta tb:TE}{pos:Pos}
theorem bS{r:R2}(i:jU X r)(f:PE X a ta)(g:PE X b tb)(j:wO b):PE X (.Subscript a b pos) (fF r ta tb):=by
 intro c s n H Q I h;exact Subscript_ (o8 f g I h λv u m x y d e k l q=>i a b c m n d x y v u Q e k l q (j _ _))
def oY(K:PySem.W.Frag):R2:=λx y H Q=>∃p c i v,x=.ref p/\y=.int i/\SqL K H p c/\eJ c i=some v/\Q v H
def sV(K:PySem.W.Frag):R2:=λx y H Q=>∃p c i v,x=.ref p/\y=.int i/\SqT K H p c/\eJ c i=some v/\Q v H
def Bj:R2:=λx y H Q=>∃z i c,x=.str z/\y=.int i/\z.length<=sizeLine/\eJ z.cps.toList i=some c/\Q (.str ⟨#[c]⟩) H
theorem yH:jU X (oY X.K):=by
 intro g O c s o H x y v u Q I L M h n;obtain⟨p,U,i,z,rfl,rfl,J,F,q⟩:=h
 cases L
 obtain⟨t,rfl⟩:=M;obtain⟨B,r,f,T⟩:=I.list J;obtain⟨j,d,C,P,D,E⟩:=rF F;obtain⟨w,l,A⟩:=r.get C;have G:=r.length;have S:=jN;have k:EP X c o Q w s:=⟨z,H,I,A,q⟩
 by_cases m:0<=i
 ·have e:i.toNat=j:=by
   rw[seqIndex_of m E] at d;exact HI d
  exact item_listR f.isList m (by omega) (by rw[e];simpa using l) k n
 ·have e:(i+(B.toArray.size:Int)).toNat=j:=by
   rw[seqIndex_neg (by omega) D] at d;rw[Hb,<-G];exact HI d
  exact subscriptTail_builtinR (x:=w) f.isList.typeIs Lf.lookup
   (wpAny_getItem_list_neg (Q:=λr N=>r=w/\EP X c o Q r N) f.isList (by omega) (by rw[Hb]<;>omega) (by omega) (by rw[e];simpa using l) ⟨R,k⟩) n
theorem zF:jU X (sV X.K):=by
 intro d G c s f H x y v u Q I D E h C;obtain⟨p,S,i,z,rfl,rfl,B,o,q⟩:=h
 cases D
 obtain⟨t,rfl⟩:=E;obtain⟨J,r,e,P⟩:=I.tuple B;obtain⟨j,m,n,L,M,N⟩:=rF o;obtain⟨w,l,g⟩:=r.get n;have A:=r.length;have O:=jN;have k:EP X c f Q w s:=⟨z,H,I,g,q⟩
 exact subscriptTail_builtinR (x:=w) e.typeIs slot_tuple_getitem.lookup
  (getItem_tuple (j:=j) (Q:=λr F=>r=w/\EP X c f Q r F) e (by omega) (by omega) (by rw[Hb,<-A];exact m) (by simpa using l) ⟨R,k⟩) C
theorem rT:jU X Bj:=by
 intro d B f s G H x y v u Q I w A h r;obtain⟨z,i,c,rfl,rfl,E,o,q⟩:=h;obtain⟨t,rfl⟩:=w;obtain⟨F,rfl⟩:=A;obtain⟨j,e,l,C,m,n⟩:=rF o;have p:z.cps.toList.length=z.length:=by simp[Str.length]
 rw[p] at e m n;have D:=jN;exact tail_any (Kr s z t) slot_str_getitem.lookup (getItem_str (c:=c) (by
  have g:decide (i < -(2^63:Int))=false:=GZ (by omega);have k:decide (i>=2^63)=false:=GZ (by omega);rw[g,k,Bool.or_false]) (by rw[e];simpa using l) ⟨.str ⟨#[c]⟩,H,I.tok _,⟨_,R⟩,q⟩) r
theorem DU(c:List Value)(n j:Nat)(u:Value):Obj.mapSeq (·.setIfInBounds j u) { cls:=.type "list",data:=.seq c.toArray n }={ cls:=.type "list",data:=.seq (c.set j u).toArray n }:=by
 simp[Obj.mapSeq]
theorem Inv.lst{d:List (Addr×Obj)}{f:St}{H:Hp}{s:Shared}{p:Addr}{xs:List V}(I:Inv X d f H s)(h:H p=some (.lst xs)):
  ∃(c:List Value)(n:Nat),Vals xs c/\s.heap.get? p=some { cls:=.type "list",data:=.seq c.toArray n }/\xs.length<=sizeLine:=by
 obtain⟨z,c,n,r,e⟩:=I.hok p _ h;exact⟨c,n,r,e,z⟩
theorem Inv.lstUpd{c:List (Addr×Obj)}{j:St}{H:Hp}{s:Shared}{p:Addr}{xs ys:List V}{d its':List Value}{n g:Nat}{f:Obj->Obj}(I:Inv X c j H s)(h:H p=some (.lst xs))
  (l:s.heap.get? p=some { cls:=.type "list",data:=.seq d.toArray n }) (i:f { cls:=.type "list",data:=.seq d.toArray n }={ cls:=.type "list",data:=.seq its'.toArray g }) (r:Vals ys its') (hz:ys.length<=sizeLine) (t:Nat):
  Inv X c j (upd H p (.lst ys)) { s with heap:=s.heap.update p f,toks:=t }:=by
 have e:(s.heap.update p f).get? p=some { cls:=.type "list",data:=.seq its'.toArray g }:=by
  rw[Ik f l (by rw[i]<;>rfl),i]
 refine I.write (x:=p) (e:=p) (by rw[h];trivial) (.inl rfl) (λb u k q=>(IS _ _ (Ij k)).trans q) ⟨_,e⟩ ?_;exact⟨hz,its',g,r,e⟩
def AE:V->V->V->Hp->(Hp->Prop)->Prop:=λo i v H Q=>∃p c k j,o=.ref p/\i=.int k/\H p=some (.lst c)/\ir c.length k=some j/\Q (upd H p (.lst (c.set j v)))
theorem FI:tu X AE:=by
 intro c s G H o i v N M u Q I D C E h;obtain⟨p,F,k,j,rfl,rfl,z,A,q⟩:=h
 cases D
 obtain⟨t,rfl⟩:=C;obtain⟨m,n,r,g,B⟩:=I.lst z;obtain⟨d,J,x,y⟩:=xg A;have f:=r.length;have L:=jN;have l:Inv X c G (upd H p (.lst (F.set j v))) { s with heap:=s.heap.update p (Obj.mapSeq (·.setIfInBounds j u)) }:=
  I.lstUpd z g (DU m n j u) (r.set E j) (by rw[List.length_set];exact B) s.toks
 by_cases w:0<=k
 ·have e:k.toNat=j:=by
   rw[seqIndex_of w y] at d;exact HI d
  exact PySem.W.ki_setAt g w (by omega) (by rw[Hb,<-f];exact y) (by rw[e];exact⟨_,l,q⟩)
 ·have e:(k+(m.toArray.size:Int)).toNat=j:=by
   rw[seqIndex_neg (by omega) x] at d;rw[Hb,<-f];exact HI d
  exact PySem.W.ki_setBack g (by omega) (by rw[Hb,<-f];exact x) (by omega) (by rw[e];exact⟨_,l,q⟩)
theorem CV(lo hi:Option Int)(n:Nat):(sliceBounds lo hi none n).1=((HT.sIx n 0 lo:Nat):Int)/\(sliceBounds lo hi none n).2.1=((HT.sIx n n hi:Nat):Int)/\(sliceBounds lo hi none n).2.2=1:=by
 refine⟨?_,?_,R⟩
 ·cases lo with
  |none=>simp[sliceBounds,HT.sIx]
  |some i=>
   simp only[sliceBounds,HT.sIx,Option.getD_none,show(1:Int)>0 by decide,Ky];by_cases h:i<0
   ·simp only[h,Ky]<;>omega
   ·simp only[h,LI]<;>omega
 ·cases hi with
  |none=>simp[sliceBounds,HT.sIx]
  |some i=>
   simp only[sliceBounds,HT.sIx,Option.getD_none,show(1:Int)>0 by decide,Ky];by_cases h:i<0
   ·simp only[h,Ky]<;>omega
   ·simp only[h,LI]<;>omega
theorem CA(c:List Value)(lo hi:Option Int):slicePick c.toArray lo hi none=((c.drop (HT.sIx c.length 0 lo)).take (HT.sIx c.length c.length hi-HT.sIx c.length 0 lo)).toArray:=by
 obtain⟨d,e,f⟩:=CV lo hi c.toArray.size;unfold slicePick;rw[d,e,f];simp only[sliceRange_one,pick_run,Hb]<;>rfl
def jq(K:PySem.W.Frag):V->Option Int->Option Int->Hp->VK->Prop:=λx lo d H Q=>∃a c,x=.ref a/\SqL K H a c/\∀p,H p=none->Q (.ref p) (upd H p (.lst (dS c lo d)))
theorem dZ:mG X (jq X.K):=by
 intro f s z H x v w y lo d u Q I n i l m h;obtain⟨a,c,rfl,j,q⟩:=h
 cases n
 obtain⟨p,r,e,k⟩:=I.list j;have g:=r.length;refine⟨"list",_,Lf.lookup,e.isList.typeIs,?_⟩;refine wpAny_getItem_list_slice e.isList i l m .none (by simp) ?_ (by rw[Hb]<;>omega);rw[CA,<-g];refine⟨.ref s.heap.objs.size,_,I.laid (t':=s.toks) (o:=.lst (dS c lo d)) (λb t q=>GR _ q) (GW _) ?_,R,q _ (I.hok.fresh (GW _))⟩;exact⟨Hm (De c lo d) k,_,0,(r.drop (HT.sIx c.length 0 lo)).take (HT.sIx c.length c.length d-HT.sIx c.length 0 lo),Hk _ rfl⟩
def iF:V->Bool
 |.non=>true
 |.bl _=>true
 |.int _=>true
 |.str _=>true
 |_=>false
def ib:V->V->Bool
 |.non,.non=>true
 |.bl a,.bl b=>a==b
 |.bl a,.int b=>(if a then 1 else 0)==b
 |.int a,.bl b=>a==(if b then 1 else 0)
 |.int a,.int b=>a==b
 |.str a,.str b=>a==b
 |_,_=>false
theorem zL{A:Around}{s:Shared}{y x:V}{u v:Value}(f:RelV y u)(c:RelV x v)(g:iF y=true)(e:iF x=true):SeqAt.EqAt A s u v (ib y x):=by
 cases y with
 |non=>
  cases f
  cases x with
  |non=>cases c;exact SeqAt.EqAt.same _
  |bl b=>cases c;exact SeqAt.EqAt.none_bool b
  |int b=>obtain⟨t,rfl⟩:=c;exact SeqAt.EqAt.none_int b t
  |str b=>obtain⟨t,rfl⟩:=c;exact SeqAt.EqAt.none_str b t
  |_=>exact absurd (show false=true from e) Hh
 |bl a=>
  cases f
  cases x with
  |non=>cases c;exact SeqAt.EqAt.bool_none a
  |bl b=>cases c;exact SeqAt.EqAt.bool_bool a b
  |int b=>obtain⟨t,rfl⟩:=c;exact SeqAt.EqAt.bool_int a b t
  |str b=>obtain⟨t,rfl⟩:=c;exact SeqAt.EqAt.bool_str a b t
  |_=>exact absurd (show false=true from e) Hh
 |int a=>
  obtain⟨d,rfl⟩:=f
  cases x with
  |non=>cases c;exact SeqAt.EqAt.int_none a d
  |bl b=>cases c;exact SeqAt.EqAt.int_bool a d b
  |int b=>obtain⟨t,rfl⟩:=c;exact SeqAt.EqAt.int_int a d b t
  |str b=>obtain⟨t,rfl⟩:=c;exact SeqAt.EqAt.int_str a d b t
  |_=>exact absurd (show false=true from e) Hh
 |str a=>
  obtain⟨d,rfl⟩:=f
  cases x with
  |non=>cases c;exact SeqAt.EqAt.str_none a d
  |bl b=>cases c;exact SeqAt.EqAt.str_bool a d b
  |int b=>obtain⟨t,rfl⟩:=c;exact SeqAt.EqAt.str_int a d b t
  |str b=>obtain⟨t,rfl⟩:=c;exact SeqAt.EqAt.str_str a d b t
  |_=>exact absurd (show false=true from e) Hh
 |_=>exact absurd (show false=true from g) Hh
def fP(x:V)(u:Value):Bool:=match u with
 |.none=>ib .non x
 |.bool b=>ib (.bl b) x
 |.int i _=>ib (.int i) x
 |.str z _=>ib (.str z) x
 |_=>false
theorem rW{x y:V}{u:Value}(r:RelV y u)(f:iF y=true):fP x u=ib y x:=by
 cases y with
 |non=>cases r;rfl
 |bl b=>cases r;rfl
 |int i=>obtain⟨t,rfl⟩:=r;rfl
 |str z=>obtain⟨t,rfl⟩:=r;rfl
 |_=>exact absurd (show false=true from f) Hh
theorem md{x:V}:∀{xs:List V} {c:List Value},Vals xs c->xs.all iF=true->c.any (fP x)=xs.any λy=>ib y x
 |_,_,.nil,_=>rfl
 |y::xs,u::c,.cons r t,f=>by
  rw[Jw,Ha] at f;rw[LL,LL,rW r f.1,md t f.2]
theorem kQ{A:Around}{s:Shared}{x:V}{v:Value}(g:RelV x v)(e:iF x=true):∀{xs:List V} {d:List Value},Vals xs d->xs.all iF=true->∀u∈d,SeqAt.EqAt A s u v (fP x u)
 |_,_,.nil,_=>λu c=>by cases c
 |y::xs,u::d,.cons r t,f=>λh c=>by
  rw[Jw,Ha] at f;rcases GI.mp c with rfl|c
  ·rw[rW r f.1];exact zL r g f.1 e
  ·exact kQ g e t f.2 h c
def jx(x:V)(xs:List V):Bool:=xs.any λy=>ib y x
def mJ(K:PySem.W.Frag)(d:Bool):R2:=λx y H Q=>∃p c,y=.ref p/\(SqL K H p c\/SqT K H p c)/\iF x=true/\c.all iF=true/\Q (.bl (if d then !jx x c else jx x c)) H
theorem EY:dG X (compareOp .In) (mJ X.K false):=by
 intro j s o H x y v u Q I k m h;obtain⟨p,n,rfl,d,i,e,q⟩:=h
 cases m
 rcases d with d|d
 ·obtain⟨c,r,g,l⟩:=I.list d;refine SeqAt.in_listAt (fP x) g.isList (λw f=>kQ k i r e w (by simpa using f)) ⟨.bl _,H,I,R,?_⟩;rw[show c.toArray.any (fP x)=c.any (fP x) by simp,md r e];exact q
 ·obtain⟨c,r,g,l⟩:=I.tuple d;refine SeqAt.in_tupleAt (fP x) g (λw f=>kQ k i r e w (by simpa using f)) ⟨.bl _,H,I,R,?_⟩;rw[show c.toArray.any (fP x)=c.any (fP x) by simp,md r e];exact q
theorem mY:dG X (compareOp .NotIn) (mJ X.K true):=by
 intro j s o H x y v u Q I k m h;obtain⟨p,n,rfl,d,i,e,q⟩:=h
 cases m
 rcases d with d|d
 ·obtain⟨c,r,g,l⟩:=I.list d;refine SeqAt.notIn_listAt (fP x) g.isList (λw f=>kQ k i r e w (by simpa using f)) ⟨.bl _,H,I,R,?_⟩;rw[show c.toArray.any (fP x)=c.any (fP x) by simp,md r e];exact q
 ·obtain⟨c,r,g,l⟩:=I.tuple d;refine SeqAt.notIn_tupleAt (fP x) g (λw f=>kQ k i r e w (by simpa using f)) ⟨.bl _,H,I,R,?_⟩;rw[show c.toArray.any (fP x)=c.any (fP x) by simp,md r e];exact q
theorem CM:eM X (.builtin "len") (λxs H Q=>∃p ys,xs=[.ref p]/\(SqL X.K H p ys\/SqT X.K H p ys)/\Q (.int ys.length) H):=by
 intro g s n H xs m Q I r h;obtain⟨p,ys,rfl,c,q⟩:=h;obtain⟨u,rfl,k⟩:=fD r
 cases k
 have l:=jN;rcases c with c|c
 ·obtain⟨i,f,e,j⟩:=I.list c;have d:=f.length;exact Calls.call_len_list e.isList (by simp only[Hb]<;>omega) ⟨.int ys.length,H,I.tok _,⟨s.toks+1,by rw[Hb,d]⟩,q⟩
 ·obtain⟨i,f,e,j⟩:=I.tuple c;have d:=f.length;exact len_tuple e (by simp only[Hb]<;>omega) ⟨.int ys.length,H,I.tok _,⟨s.toks+1,by rw[Hb,d]⟩,q⟩
theorem tP:eM X (.builtin "len") (λxs H Q=>∃z,xs=[.str z]/\z.length<=sizeLine/\Q (.int z.length) H):=by
 intro c s g H xs f Q I r h;obtain⟨z,rfl,e,q⟩:=h;obtain⟨u,rfl,t,rfl⟩:=fD r;have d:=jN;exact len_str (by omega) ⟨.int z.length,H,I.tok _,⟨_,R⟩,q⟩
theorem tO:eM X (.type "list") (λxs H Q=>∃p ys,xs=[.ref p]/\(SqL X.K H p ys\/SqT X.K H p ys)/\∀l,H l=none->Q (.ref l) (upd H l (.lst ys))):=by
 intro m s D H xs E Q I r h;obtain⟨p,ys,rfl,i,q⟩:=h;obtain⟨u,rfl,C⟩:=fD r
 cases C
 have z:∀(d:List Value),Vals ys d->ys.length<=sizeLine->∀(c:Heap)(f:Nat),(∀b A,s.heap.get? b=some A->c.get? b=some A) ->
   c.get? s.heap.objs.size=some { cls:=.type "list",dict:=none,data:=.seq d.toArray f,slots:=#[] }->EP X m D Q (.ref s.heap.objs.size) { s with heap:=c }:=λd g j c f k e=>
  ⟨.ref s.heap.objs.size,_,I.laid (t':=s.toks) k (GW _) (show ObjOk X.prog X.w _ c _ (.lst ys) from⟨j,d,f,g,e⟩),R,q _ (I.hok.fresh (GW _))⟩
 rcases i with i|i
 ·obtain⟨d,g,y,j⟩:=I.list i;have B:=g.length;obtain⟨o,x,t,n,v⟩:=y.isList;exact call_list_seq p (.inl rfl) x t v (λc f k e=>z d g j c f k e) (by simp only[Hb]<;>omega)
 ·obtain⟨d,g,y,j⟩:=I.tuple i;have B:=g.length;obtain⟨o,x,t,n,v⟩:=y;exact call_list_seq p (.inr rfl) x t v (λc f k e=>z d g j c f k e) (by simp only[Hb]<;>omega)
theorem i5:eM X (.type "tuple") (λxs H Q=>∃p ys,xs=[.ref p]/\((SqL X.K H p ys/\∀l,H l=none->Q (.ref l) (upd H l (.tup ys)))\/(SqT X.K H p ys/\Q (.ref p) H))):=by
 intro c s n H xs z Q I r h;obtain⟨p,ys,rfl,h⟩:=h;obtain⟨u,rfl,x⟩:=fD r
 cases x
 rcases h with⟨g,q⟩|⟨g,q⟩
 ·obtain⟨f,j,i,m⟩:=I.list g;have y:=j.length;refine call_tuple_list i.isList (λd v=>?_) (by simp only[Hb]<;>omega);have k:Inv X c n H { s with heap:=d }:=I.kept (t':=s.toks) v;have t:Inv X c n (upd H d.objs.size (.tup ys)) { s with heap:=d.push { cls:=.type "tuple",data:=.seq f.toArray } }:=
   k.laid (t':=s.toks) (λb o e=>GR _ e) (GW _) (show ObjOk X.prog X.w _ _ _ (.tup ys) from⟨m,f,j,IsTup.new _ _⟩)
  exact⟨.ref d.objs.size,_,t,R,q _ (k.hok.fresh (GW _))⟩
 ·obtain⟨f,j,i,m⟩:=I.tuple g;exact call_tuple_same i ⟨.ref p,H,I,R,q⟩
def sA(K:PySem.W.Frag)(T:String)(x:V)(H:Hp):Prop:=match x with
 |.str _=>T = "str"
 |.int _=>T = "int"
 |.ref p=>(T = "list" /\ ∃d,SqL K H p d)\/(T = "tuple" /\ ∃o,K.lookup p=some o/\o.cls=.type "tuple" /\ o.dict=none) \/
   (T = "dict" /\ ((∃c,H p=some (.dK c))\/∃c,H p=some (.dT c)))\/(T = "set" /\ ∃S n,H p=some (.set S n))
 |_=>False
theorem As{g:List (Addr×Obj)}{y:St}{H:Hp}{s:Shared}{T:String}{x:V}{v:Value}(I:Inv X g y H s)(r:RelV x v)(h:sA X.K T x H):
  s.TypeIs v T/\∀a,v=.ref a->∃m,s.heap.get? a=some m/\m.dict=none:=by
 cases x with
 |str z=>
  obtain⟨t,rfl⟩:=r
  cases(show T = "str" from h)
  exact⟨Kr s z t,λ_ e=>nomatch e⟩
 |int i=>
  obtain⟨t,rfl⟩:=r
  cases(show T = "int" from h)
  exact⟨typeIs_int s i t,λ_ e=>nomatch e⟩
 |ref p=>
  cases r
  rcases h with⟨rfl,B,w⟩|⟨rfl,o,d,u,k⟩|⟨rfl,d⟩|⟨rfl,S,n,d⟩
  ·obtain⟨A,_,q,_⟩:=I.list w;refine⟨q.isList.typeIs,λa e=>?_⟩
   cases e
   obtain⟨o,n,e,c,k,_⟩:=q;exact⟨o,e,k⟩
  ·refine⟨⟨o,I.kIn p o d,u⟩,λa e=>?_⟩
   cases e
   exact⟨o,I.kIn _ o d,k⟩
  ·have z:∃o,s.heap.get? p=some o/\o.ExactDict:=by
    rcases d with⟨l,d⟩|⟨l,d⟩
    ·obtain⟨_,_,_,_,o,_,_,e,f,_⟩:=I.hok p _ d;exact⟨o,e,f⟩
    ·obtain⟨_,_,_,_,o,_,_,e,f,_⟩:=I.hok p _ d;exact⟨o,e,f⟩
   obtain⟨o,e,f⟩:=z;refine⟨⟨o,e,f.1⟩,λa j=>?_⟩
   cases j
   exact⟨o,e,f.2.1⟩
  ·obtain⟨o,_,_,_,e,f,_⟩:=I.hok p _ d;refine⟨⟨o,e,f.1⟩,λa j=>?_⟩
   cases j
   exact⟨o,e,f.2.1⟩
 |_=>exact False.elim h
def jY(K:PySem.W.Frag)(T:String)(r:V->List V->Hp->VK->Prop)(to:TE)(t:TA):TE:=λd H Q=>to d H λx c=>sA K T x c/\t d c λf e=>r x f e Q
variable{o e:Expr}{es:List Expr}{to:TE}{t:TA}{name:Str}{apos cpos:Pos}{T id:String}{r:V -> List V -> Hp -> VK -> Prop}
theorem AN(pa:PlainAttrs T)(j:Slot T name id)(k:typeOf (.builtin id)=pure (.type "method_descriptor"))(u:ko X id r)(w:PE X o to)(q:PA X (e::es) t)
  (f:attributeBase o name X.env (eval o X.env)=eval o X.env:=by rfl)
  (i:((backTo cpos (starEach (e::es) X.env)).all (λx=>!x.1)&&(backToKw cpos (keywordEach [] X.env)).all (λx=>x.1.isSome)
   && decide ((e::es).length+([]:List Keyword).length+(if ([]:List Keyword).isEmpty then 0 else 1)<30))=true:=by rfl)
  (g:(apos.endLine==cpos.line)=true:=by rfl) (y:starEach (e::es) X.env=(false,eval e X.env)::starEach es X.env:=by rfl) (d:(backTo cpos (starEach es X.env)).any (·.1)=false:=by rfl):
  PE X (.Call (.Attribute o name apos) (e::es) [] cpos) (jY X.K T r to t):=by
 intro c s l H Q I h;refine wpAny_Call_method_late f i g rfl (bZ (w c s l H _ I h) λv z ⟨x,H1,I1,r1,ty,q1⟩=>?_);obtain⟨n,p⟩:=As I1 r1 ty;refine⟨T,id,pa,j,k,n,p,?_⟩;have m:=q cpos c z l H1 _ I1 q1;rw[y] at m |-;refine Calls.callWith_builtin (by show(false||(backTo cpos (starEach es X.env)).any (·.1))=false;rw[d]<;>rfl) (Calls.evalArgs_plain ?_);exact bZ m λB A ⟨C,H2,I2,r2,q2⟩=>u c A l H2 x C v B Q I2 r1 r2 q2
end
def lG(X:Cx)(id:String)(r:V->List V->Hp->VK->Prop):Prop:=
 ∀(a:List (Addr×Obj))(s:Shared)(d:St)(H:Hp)(x:V)(c:List V)(v:Value)(b:List Value)(Q:VK),Inv X a d H s->RelV x v->Vals c b->r x c H Q ->
  wpAny (model X.prog X.w) X.A (call (.builtin id) (v::b)) (EP X a d Q) X.xe s
theorem Vals.one:∀{x:V} {a:List Value},Vals [x] a->∃u,a=[u]/\RelV x u
 |_,_,.cons r .nil=>⟨_,rfl,r⟩
section
variable{X:Cx}{pins:List (Addr × Obj)}{σ:St}{H:Hp}{s:Shared}{l b:Addr}{xs ys zs:List V}
theorem Inv.lset{a its':List Value}{n:Nat}{f:Array Value->Array Value}{t':Nat}(I:Inv X pins σ H s)(c:H l=some (.lst xs))
  (e:s.heap.get? l=some { cls:=.type "list",data:=.seq a.toArray n }) (g:f a.toArray=its'.toArray) (i:Vals ys its') (hz:ys.length<=sizeLine):
  Inv X pins σ (upd H l (.lst ys)) { s with heap:=s.heap.update l (Obj.mapSeq f),toks:=t' }:=by
 have q:=PySem.IsL.update e f;rw[g] at q;refine I.write (x:=l) (e:=l) (by rw[c];exact trivial) (.inl rfl) (λj u d h=>(IS s.heap (Obj.mapSeq f) (Ij d)).trans h) ⟨_,q⟩ ?_;exact⟨hz,its',_,i,q⟩
theorem Inv.lnew{a:List Value}{t':Nat}(I:Inv X pins σ H s)(c:Vals ys a)(hz:ys.length<=sizeLine):
  Inv X pins σ (upd H s.heap.objs.size (.lst ys)) { s with heap:=s.heap.push { cls:=.type "list",data:=.seq a.toArray },toks:=t' }:=
 I.laid (λ_ _ q=>GR _ q) (GW _) ⟨hz,a,0,c,Hk _ rfl⟩
theorem Inv.fresh(I:Inv X pins σ H s):H s.heap.objs.size=none:=I.hok.fresh (GW _)
theorem Inv.lstM(I:Inv X pins σ H s)(c:H l=some (.lst xs)):xs.length<=sizeLine/\∃(a:List Value)(n:Nat),Vals xs a/\xs.length=a.length/\s.heap.get? l=some { cls:=.type "list",data:=.seq a.toArray n }:=by
 obtain⟨z,a,n,r,e⟩:=I.hok l _ c;exact⟨z,a,n,r,r.length,e⟩
theorem vI{n:Nat}(h:n<=sizeLine):Builtin.List.listTooLong n=false:=by
 unfold Builtin.List.listTooLong;exact GZ (by omega)
end
section
variable{X:Cx}
def oh:V->List V->Hp->VK->Prop:=λx b H Q=>∃l a y,x=.ref l/\b=[y]/\H l=some (.lst a)/\a.length<sizeLine/\Q .non (upd H l (.lst (a++[y])))
theorem fG:lG X "list.append" oh:=by
 intro c s p H x m v k Q I g f h;obtain⟨l,o,y,rfl,rfl,b,j,q⟩:=h
 cases g
 obtain⟨u,rfl,d⟩:=f.one;obtain⟨z,a,n,r,i,e⟩:=I.lstM b;refine J2 F.slot_list_append ⟨_,e,R⟩ F.entry_list_append (F.args_list_append_2 _ _) (PySem.list_append l a.toArray n u (by rw[Hb];omega)) ⟨e,?_⟩;refine⟨.non,_,I.lset (its':=a++[u]) b e (by simp) (r.append (.cons d .nil)) ?_,R,q⟩;rw[GC,JU];omega
def zm:V->List V->Hp->VK->Prop:=λx d H Q=>∃l b a c,x=.ref l/\d=[.ref b]/\H l=some (.lst a)/\H b=some (.lst c)/\a.length+c.length<=sizeLine/\Q .non (upd H l (.lst (a++c)))
theorem Eu:lG X "list.extend" zm:=by
 intro g s L H x D v C Q I w t h;obtain⟨l,b,E,J,rfl,rfl,f,k,B,q⟩:=h
 cases w
 obtain⟨u,rfl,p⟩:=t.one
 cases p
 obtain⟨z,a,n,r,A,e⟩:=I.lstM f;obtain⟨G,c,m,o,y,j⟩:=I.lstM k;have d:a.toArray.size+c.toArray.size<=sizeLine:=by rw[Hb,Hb];omega
 have i:¬(!a.toArray.isEmpty&&Builtin.List.listTooLong (a.toArray.size+c.toArray.size))=true:=by
  rw[vI d,LC];exact Hh
 refine J2 F.slot_list_extend ⟨_,e,R⟩ F.entry_list_extend (F.args_list_extend_2 _ _)
  (AutoSeq1.list_extend_list_list_0 l a.toArray n b c.toArray m i (by rw[Hb];omega) (by omega)) ⟨e,j,?_⟩
 refine⟨.non,_,I.lset (its':=a++c) f e (by simp) (r.append o) ?_,R,q⟩;rw[GC];omega
def iV:R2:=λx y H Q=>∃l b a c,x=.ref l/\y=.ref b/\H l=some (.lst a)/\H b=some (.lst c)/\a.length+c.length<=sizeLine/\∀p,H p=none->Q (.ref p) (upd H p (.lst (a++c)))
theorem dE:dG X (binaryOp .Add) iV:=by
 intro d s E H x y v u Q I m o h;obtain⟨l,b,B,D,rfl,rfl,j,i,w,q⟩:=h
 cases m
 cases o
 obtain⟨z,c,n,r,t,e⟩:=I.lstM j;obtain⟨C,a,A,k,p,f⟩:=I.lstM i;refine PySem.P.add_list e f ?_ (by rw[Hb,Hb];omega);have g:c.toArray++a.toArray=(c++a).toArray:=by simp
 rw[g];exact⟨.ref _,_,I.lnew (t':=s.toks) (r.append k) (by rw[GC];omega),R,q _ I.fresh⟩
end
section
variable{prog:Program}{w:World}{A:Around}{E:Value -> Shared -> Prop}{s:Shared}
set_option maxRecDepth 100000 in
end
end L2
namespace Att
open PySem PySem.W PySem.Calls PyProof.Rows
theorem Cn{P:Params}{h:Heap}:∀(ns:List Int)(c:List Value),WellAll P h c (ns.map WData.int)->IntsAre c ns:=by
 intro ns
 induction ns with
 |nil=>
  intro c w;rw[List.map_nil] at w
  cases w
  exact .nil
 |cons n ns ih=>
  intro c w;rw[HD] at w
  cases w with
  |cons a b=>
   cases a
   exact .cons _ _ (ih _ b)
theorem Em{l:OpenLaw}{n:Nat}(t:l.most=some n){P:Params}{h:Heap}{args:List WData}{c:List Value}
  (b:l.row.toRowW.claim.pre args=true) (g:WellAll P h c args):
  ∃a j ns,c=[Value.ref a]/\args=[WData.list (ns.map WData.int)]/\h.get? a=some { cls:=.type "list",data:=.seq j.toArray }/\IntsAre j ns/\ns.length<=n:=by
 have m:WShape.hasAll [] args [.list .int]=true:=(pre_splitW b).1;have i:l.pre.holds [] { args:=args }=true:=(pre_splitW b).2;obtain⟨d,r,rfl,o,p⟩:=hasAllW_cons m;obtain rfl:=hasAllW_nil p;obtain⟨v,rfl,s⟩:=hasW_list o;obtain⟨ns,rfl⟩:=items_int s;have k:ns.length<=n:=by
  unfold OpenLaw.pre at i;have e:(WTm.not (.lt (.lit (.int (n:Int))) (.len (.arg 0)))).holds [] { args:=[.list (ns.map .int)] }=true:=by
   have e:=(holds_andW i).1;rw[t] at e;exact e
  have f:=condW_of e (w_not (w_lt w_lit (w_len_list (w_arg rfl))));rw[Gz] at f;refine Nat.le_of_not_lt λq=>?_;have u:(n:Int)<((ns.length:Nat):Int):=by omega
  first
   |(rw[GF u] at f;exact absurd f (by decide))
   |(simp at f;omega)
 cases g with
 |cons w1 w2=>
  cases w2
  cases w1 with
  |list ho hall=>exact⟨_,_,ns,rfl,rfl,ho,Cn ns _ hall,k⟩
theorem D2(l:OpenLaw)(args:List WData):l.row.toRowW.claim.post args (.bool true) args=true:=
 postW_of (r:=l.row.toRowW) (X:=(true==true))
  (show WShape.has [] (.bool true) .bool=true by first|rfl|decide|simp[WShape.has,WShape.arms,WShape.armsAll])
  (show(WTm.eq .res (.lit (.bool true))).value [] { args:=args,res:=some (.bool true),after:=args }=some (.bool (true==true)) from w_eq_bool (w_res rfl) w_lit) rfl
theorem attach_call{l:OpenLaw}{n:Nat}{q:Program}{c:List Str}{t:(Str->Option Value)->Heap->Prop}{u:World->Heap->Prop}{d:DefRec}
  (O:l.most=some n) (m:d.params.defaults=[])
  (call:∀(w:World)(s₀ b:Shared)(j p:Str->Option Value)(h:Addr)(o:Obj)(s i e:Value)(a:Addr)(g:List Value)(ns:List Int),
   Ground q c [] t w s₀ j p b.heap->u w b.heap ->
   b.heap.get? h=some o->o.data=.func (docDef d.name d.params d.body d.scope s i e)->b.heap.CodeRec i d.name->j d.name=some (.ref h) ->
   b.heap.get? a=some { cls:=.type "list",data:=.seq g.toArray }->IntsAre g ns->ns.length<=n->b.gens=#[] ->
   codeAny (model l.prog w) callerA (.call (.ref h) ⟨[.ref a],[]⟩) (λr k=>r=.ok (.ret (.bool true))/\OldK b.heap k.heap/\k.os=b.os/\AllBare k.gens) b):
  WalkO q c t u l.row.toRowW d [] (λf g=>PySem.call f g):=by
 intro w s₀ b j p G Y h o s i e F kV P L C x E M v T X A S W D U;obtain rfl:F=.none:=Dflts.none x m;obtain rfl:kV=.none:=Dflts.noKw x;obtain⟨a,g,ns,rfl,rfl,z,y,B⟩:=Em O A D;refine enter_call (J4 (call w s₀ b j p h o s i e a g ns G Y P (fd_plain L) C E z y B M) λr k Q=>?_);obtain⟨rfl,H,I,J⟩:=Q;exact⟨.inl ⟨.bool true,.bool true,[],R,λ_=>rfl,.bool true,D2 l _,λ_=>⟨List.Pairwise.nil,λ_ N=>(nomatch N)⟩⟩,H,I,J⟩
end Att
namespace L2
open PySem PySem.Spec PyProof.Rows
theorem nN:∀{a:List Value} {ns:List Int},IntsAre a ns->Vals (ns.map V.int) a
 |_,_,.nil=>.nil
 |_,_,.cons n t h=>.cons ⟨t,rfl⟩ (nN h)
def oZ(H:Hp):Prop:=∀b,H b=none\/∃o a,H b=some (.frz o (.lst a))
theorem Fq{P:Program}{w:World}{K:PySem.W.Frag}{A N:Str->Option Value}{CX:ia}{k:Nat}{G a:Addr}{Y:FuncData}{x:Str}{sp:Sp}{c:Shared}{j:List Value}{ns:List Int}
  (O:K.In c.heap) (y:c.heap.Ns mainGlobals A) (f:c.heap.Ns builtinsNs N) (J:∀x:Str,x ≠ "__name__" -> N x=bootBuiltins x) (t:c.heap.NoLimit) (hg:c.gens=#[])
  (D:c.heap.get? a=some { cls:=.type "list",data:=.seq j.toArray }) (hi:IntsAre j ns) (hl:ns.length<=sizeLine) (hr:Room k callerA)
  (F:∀base:Heap,K.In base->base.Ns mainGlobals A->cC P w K A base CX k G Y [x] sp) (i:∀(s:Shared)(u:Value),BindsTo s Y ⟨[u],[]⟩ [(x,u)])
  (M:∀H:Hp,oZ H->SqL K H a (ns.map V.int)->sp [.ref a] H (λv _=>v=.bl true) λ_ _ _=>False)
  (I:∀H e g,CX [] H c (λ_ _ _=>False) e g->False):
  codeAny (model P w) callerA (.call (.ref G) ⟨[.ref a],[]⟩) (λr g=>r=.ok (.ret (.bool true))/\OldK c.heap g.heap/\g.os=c.os/\AllBare g.gens) c:=by
 have rv:=nN hi;have ag:=hi.length;have S:∀H:Hp,oZ H->SqL K H a (ns.map V.int)->HOk P w H c.heap->(∀b,H b≠none->b=a)->(H a≠none->K.lookup a=none) ->
   codeAny (model P w) callerA (.call (.ref G) ⟨[.ref a],[]⟩) (λr g=>r=.ok (.ret (.bool true))/\OldK c.heap g.heap/\g.os=c.os/\AllBare g.gens) c:=by
  intro H hO hS U Z hK;have Q:∀{b:Addr} {o:Obj},c.heap.get? b=some o->H b=none->(jt c.heap H).get? b=some o:=λe n=>FP e n;have am:∀{b:Addr} {o:Obj} {p:Array DictEntry} {l:Nat},c.heap.get? b=some o->o.data=.dict p l->H b=none:=λ{b o p l} e d=>by
   cases q:H b with
   |none=>rfl
   |some u=>
    have E:b=a:=Z b (by rw[q];simp);subst E;rw[D] at e;cases e;have d':Data.seq j.toArray _=Data.dict p l:=d
    cases d'
  have C:∀{b:Addr} {m:Str->Option Value},c.heap.Ns b m->(jt c.heap H).Ns b m:=λ{b m} ⟨o,p,l,e,d,r⟩=>⟨o,p,l,Q e (am e d),d,r⟩
  have T:K.In (jt c.heap H):=λb o e=>Q (O b o e) (by
   cases q:H b with
   |none=>rfl
   |some u=>
    have E:b=a:=Z b (by rw[q];simp);subst E;rw[hK (by rw[q];simp)] at e;cases e)
  have hM:Mod K A (jt c.heap H):=⟨T,C y,⟨N,C f,J⟩,let ⟨mc,h1,h2⟩:=t;⟨mc,C h1,h2⟩⟩
  have e0:mR P w K A (jt c.heap H) callerA [] c H:=⟨R,hM,λb o e=>yJ e,Nat.le_of_eq (E7 _ _),trivial,λb f=>absurd (show b∈([]:List Addr) from f) (by simp),U,.of_eq hg⟩
  refine J4 ((F _ T (C y)).run callerA [] c H ⟨[.ref a],[]⟩ [.ref a] [.ref a] _ _ hr e0 (i c (.ref a)) (.cons rfl .nil) (M H hO hS)) λr g h=>?_
  cases r with
  |error e=>exact(I H e g h).elim
  |ok fl=>
   cases fl with
   |next=>exact False.elim h
   |brk=>exact False.elim h
   |cont=>exact False.elim h
   |ret u=>
    obtain⟨v,H',os,ah,un,ai,r',q⟩:=h;have q':v=.bl true:=q;subst q';obtain rfl:u=Value.bool true:=r';refine⟨R,OldK.of_keep λb o e=>?_,os,ah⟩
    cases q:H b with
    |none=>exact un.keep b o e q (by intro z;exact absurd (show b∈([]:List Addr) from z) (by simp)) (by simp)
    |some u=>
     rcases hO b with z|⟨ob,xs,z⟩
     ·rw[q] at z;cases z
     ·have z2:=un.frzs b ob _ z;obtain⟨X,_⟩:=U b _ z;obtain⟨e2,_⟩:=ai b _ z2;rw[e] at X;cases X;exact e2
 cases L:K.lookup a with
 |some o=>
  have e:=O a o L;rw[D] at e
  cases e
  refine S (λ_=>none) (λ_=>.inl rfl) (.inr ⟨_,j.toArray,_,L,R,R,R,by rw[Hb,ag];exact hl,by simpa using rv⟩) (λb u z=>by have B:(none:Option HO)=some u:=z;cases B) (λb z=>absurd rfl z) λz=>absurd rfl z
 |none=>
  refine S (λb=>if b=a then some (.frz { cls:=.type "list",data:=.seq j.toArray } (.lst (ns.map V.int))) else none) (λb=>?_) (.inl (.inr ⟨{ cls:=.type "list",data:=.seq j.toArray },Hl rfl⟩)) (λb u z=>?_) (λb z=>?_) λ_=>L
  ·by_cases f:b=a
   ·exact .inr ⟨_,_,Hl f⟩
   ·exact .inl (GY f)
  ·by_cases f:b=a
   ·have B:=(Hl f).symm.trans z
    cases B
    subst f;exact⟨D,by rw[Gz];exact hl,j,_,rv,D⟩
   ·have B:=(GY f).symm.trans z
    cases B
  ·by_cases f:b=a
   ·exact f
   ·exact absurd (GY f) z
theorem walk_of{l:PySem.W.OpenLaw}{n k:Nat}{q:Program}{c:List Str}{J:(Str->Option Value)->Heap->Prop}{C:World->Heap->Prop}{d:DefRec}{K:Params->PySem.W.Frag}{CX:World->ia}{sp:World->Sp}{x:Str}
  (hn:l.most=some n) (y:n<=sizeLine) (t:d.params.defaults=[]) (hr:Room k callerA)
  (U:∀(w:World)(h:Heap),C w h->(K w.params).In h)
  (F:∀(w:World)(i:Str->Option Value)(m:Addr)(h:Heap),(K w.params).In h->h.Ns mainGlobals i->i d.name=some (.ref m) ->
   ∃p:FuncData,(∀(s:Shared)(u:Value),BindsTo s p ⟨[u],[]⟩ [(x,u)]) /\
    ∀base:Heap,(K w.params).In base->base.Ns mainGlobals i->cC l.prog w (K w.params) i base (CX w) k m p [x] (sp w))
  (z:∀(w:World)(H:Hp)(a:Addr)(ns:List Int),ns.length<=n->oZ H->SqL (K w.params) H a (ns.map V.int)->sp w [.ref a] H (λv _=>v=.bl true) λ_ _ _=>False)
  (r:∀(w:World)(H:Hp)(s:Shared)(e:Value)(A:Shared),CX w [] H s (λ_ _ _=>False) e A->False):
  PySem.W.WalkO q c J C l.row.toRowW d [] (λf I=>PySem.call f I):=by
 refine Att.attach_call hn t λw E j i mb m o pm cd O a I ns G Y ho hd ah N M L D Z=>?_;have B:=U w _ Y;obtain⟨p,X,P⟩:=F w i m _ B G.T.g N;exact Fq B G.T.g G.T.b G.T.builtins G.T.nolimit Z M L (Hm D y) hr P X (λH Q S=>z w H a ns D Q S) λH e A=>r w H j e A
def j6(s:Stmt):Arguments:=match s with
 |.FunctionDef _ a _ _ _ _ _ _ _ _=>a
 |_=>{ posonlyargs:=[],args:=[],vararg:=none,kwonlyargs:=[],kw_defaults:=[],kwarg:=none,defaults:=[] }
def fZ(s:Stmt):List Stmt:=match s with
 |.FunctionDef _ _ b _ _ _ _ _ _ _=>b
 |_=>[]
def cF(s:Stmt):Scope:=match s with
 |.FunctionDef _ _ _ _ _ _ sc _ _ _=>sc
 |_=>{ kind:=.function,names:=[],isGenerator:=false,isCoroutine:=false }
abbrev cK:ia:=λ_ _ _ _ _ _=>False
abbrev E0:XK:=λ_ _ _=>False
theorem Bb{X:Cx}:mr cK X E0:=λ_ _ _ _ _ _ _ h=>h.elim
structure Fun(K:PySem.W.Frag)(x qual:Str)(st:Stmt)(f:Addr)(fd:FuncData):Prop where
 ex:∃(oc:Value)(od:Option Addr)(kV doc pm:Value)(an:Option Addr)(cdv ct:Value)(osl:Array (Option Value)),
  fd=PySem.W.fnOf x qual (j6 st) (fZ st) (cF st) .none kV doc pm an cdv ct/\K.lookup f=some ⟨oc,od,.func fd,osl⟩/\PySem.W.codeIn K cdv qual=true
 kp:PySem.W.keepIn K (.ref f)=true
section
variable{P:Program}{w:World}{K:PySem.W.Frag}{mg:Str -> Option Value}{base:Heap}
theorem Fun.ok{x a:Str}{st:Stmt}{f:Addr}{i:FuncData}{N g:List Str}{k:Nat}{sp:Sp}(F:Fun K x a st f i)(S:cR N g (cF st))(e:∀d H Q E,sp d H Q E->d.length=g.length)
  (c:∀(b:Value)(A:Around)(outer:List Env)(s:Shared)(H:Hp)(d:List V)(Q:VK)(E:XK),Room k (A.deeper (envOfC a (cF st) s.heap.objs.size f b))->sp d H Q E ->
   ∃t,PSs (fq cK P w K mg base N a (cF st) f b A outer s H E).nox (fZ st) t/\t { nx:=λ_ j=>Q .non j,rt:=Q } (start N d) H):cC P w K mg base cK (k+1) f i g sp:=by
 obtain⟨y,z,kV,n,B,u,b,v,r,rfl,p,l⟩:=F.ex;refine sC p l S e λA outer s H d Q E o m=>?_;obtain⟨t,h,q⟩:=c b A outer s H d Q E o m;exact⟨t,h.nox,q⟩
theorem Fun.binds{x a:Str}{st:Stmt}{f:Addr}{j:FuncData}{g:List Str}(F:Fun K x a st f j)
  (h:∀(kV c e:Value)(d:Option Addr)(b ct:Value)(i:List Value),i.length=g.length->bindArgs (PySem.W.fnOf x a (j6 st) (fZ st) (cF st) .none kV c e d b ct) ⟨i,[]⟩=pure (g.zip i)):Binds K j g []:=by
 obtain⟨n,o,kV,c,e,d,b,ct,k,rfl,m,l⟩:=F.ex;exact .all (h kV c e d b ct)
theorem zt{x a:Str}{st:Stmt}{f:Addr}{i:Value}{j g:Option Addr}{e:Array (Option Value)}{kV d h b ct:Value}(l:K.lookup f=some ⟨i,j,.func (PySem.W.fnOf x a (j6 st) (fZ st) (cF st) .none kV d h g b ct),e⟩)
  (c:PySem.W.codeIn K b a=true) (k:PySem.W.keepIn K (.ref f)=true):Fun K x a st f (PySem.W.fnOf x a (j6 st) (fZ st) (cF st) .none kV d h g b ct):=⟨⟨i,j,kV,d,h,g,b,ct,e,R,l,c⟩,k⟩
end
theorem i8{n:Nat}(h:n<=1000):n<sizeLine:=HJ h (by decide)
section
variable{X:Cx}
theorem pv(i:Nat){x:Str}{b:Pos}(c:X.N[i]?=some x:=by rfl)(e:oP X.env.scope x:=by first|exact Or.inl rfl|exact Or.inr (Or.inl rfl)|exact Or.inr (Or.inr rfl))(d:(x==("__debug__" : Str))=false:=by decide)
  (a:(x==("__classdict__" : Str))=false:=by decide):PE X (.Name x b) (eG i):=zV c e d a
end
theorem cX{A B:Prop}(h:B):if false=true then A else B:=by
 rw[GY Hh];exact h
theorem dB{A B:Prop}(h:A):if true=true then A else B:=by
 rw[Hl rfl];exact h
theorem cx{c A B:Prop}[Decidable c](h1:c->A)(a:¬c->B):if c then A else B:=by
 by_cases h:c
 ·rw[Hl h];exact h1 h
 ·rw[GY h];exact a h
theorem sM{c A B:Prop}[Decidable c](a:c)(h:B):if (!decide c)=true then A else B:=by
 rw[GF a];exact cX h
def si(c:Addr):Heap->Prop:=λh=>∃(o:Obj)(a:Array Value)(q:Str)(t:Nat),h.get? c=some o/\o.data=.fields a/\a[1]?=some (.str q t)
def oI(H:Hp)(P:Addr):Prop:=∃b:Array Value,H P=some (.tbl b)/\TriplesOk b.toList/\∀a:Pos,codeAmong a b.toList=none\/∃c:Addr,codeAmong a b.toList=some (.ref c)/\H c=some (.ext (si c))
def Kp(H a:Hp)(b:Addr):HO->Prop
 |.tbl _=>(∃c,a b=some (.tbl c))/\(oI H b->oI a b)
 |o=>a b=some o
def Same(H a:Hp):Prop:=∀b o,H b=some o->Kp H a b o
theorem Kp.of{H a:Hp}{b:Addr}{o:HO}(h:H b=some o)(e:a b=some o)(f:∀c,H c=some (.ext (si c))->a c=some (.ext (si c))):Kp H a b o:=by
 cases o
 case tbl ps=>
  refine⟨⟨ps,e⟩,λ⟨g,hq,tr,hp⟩=>?_⟩;rw[h] at hq
  cases hq
  exact⟨_,e,tr,λd=>(hp d).imp id λ⟨c,z1,z2⟩=>⟨c,z1,f c z2⟩⟩
 all_goals exact e
theorem rM{H a:Hp}(h:∀b o,H b=some o->a b=some o):Same H a:=λb o e=>Kp.of e (h b o e) λc z=>h c _ z
theorem Same.refl(H:Hp):Same H H:=rM λ_ _ h=>h
theorem Same.trans{H d e:Hp}(a:Same H d)(b:Same d e):Same H e:=λc o h=>by
 have z:=a c o h
 cases o
 case tbl ps=>
  obtain⟨⟨j,f⟩,k⟩:=z;obtain⟨i,g⟩:=b c _ f;exact⟨i,λt=>g (k t)⟩
 all_goals exact b c _ z
theorem Kp.some{H a:Hp}{b:Addr}{o:HO}(k:Kp H a b o):∃u,a b=some u:=by
 cases o
 case tbl ps=>exact⟨_,k.1.choose_spec⟩
 all_goals exact⟨_,k⟩
theorem Same.free{H a:Hp}(e:Same H a){l:Addr}(h:a l=Option.none):H l=Option.none:=by
 cases q:H l with
 |none=>rfl
 |some o=>
  obtain⟨u,z⟩:=(e l o q).some;rw[z] at h
  cases h
theorem u9{d a:Type}(g:d->a->a){f:d->a->Sem (ForInStep a)}:∀(l:List d)(b:a),(∀x∈l,∀c,f x c=pure (ForInStep.yield (g x c))) ->
  forIn l b f=(pure (l.foldl (λc x=>g x c) b):Sem a)
 |[],b,_=>by simp only[Ku,List.foldl_nil]
 |x::r,b,h=>by
  rw[Kg,h x GM b,pure_bind];exact u9 g r (g x b) λy e c=>h y (GP _ e) c
def iY(b:Scope)(env:Env):List (Str×Addr):=
 b.names.foldl (λa y=>if (y.2==NameKind.free)=true then (y.1,(env.cells.lookup y.1).getD 0)::a else a) []
theorem wN{b:Scope}{env:Env}(h:∀y∈b.names,y.2=.free->∃c,env.cells.lookup y.1=some c):closureFor b env=pure (iY b env):=by
 simp only[closureFor];rw[u9 (λ(y:Str×NameKind)(e:List (Str×Addr))=>if (y.2==NameKind.free)=true then (y.1,(env.cells.lookup y.1).getD 0)::e else e) b.names [] (λy g c=>by
  obtain⟨n,k⟩:=y;by_cases d:k=.free
  ·obtain⟨a,f⟩:=h _ g d;subst d;simp only[cellOf,f,Ls,Ky,pure_bind,Option.getD_some]
  ·have z:(k==NameKind.free)=false:=by simpa using d
   simp only[z,K0,LI])]
 rfl
theorem uT{d a:Type}{P:a->Prop}{g:d->List a->List a}:∀(l:List d)(b:List a),(∀p∈b,P p)->(∀x∈l,∀c,(∀p∈c,P p)->∀p∈g x c,P p)->∀p∈l.foldl (λc x=>g x c) b,P p
 |[],b,hb,_=>hb
 |x::r,b,hb,h=>uT r (g x b) (h x GM b hb) λy e=>h y (GP _ e)
theorem FR{f:Scope}{env:Env}(h:∀y∈f.names,y.2=.free->∃c,env.cells.lookup y.1=some c):∀p∈iY f env,env.cells.lookup p.1=some p.2:=by
 refine uT (P:=λp:Str×Addr=>env.cells.lookup p.1=some p.2) f.names [] (λ_ z=>nomatch z) λy j c g p b=>?_;by_cases d:y.2=.free
 ·have z:(y.2==NameKind.free)=true:=by simpa using d
  rw[Hl z] at b;rcases GI.mp b with e|b
  ·obtain⟨a,i⟩:=h y j d;rw[e];show env.cells.lookup y.1=some ((env.cells.lookup y.1).getD 0);rw[i]
   rfl
  ·exact g p b
 ·have z:¬(y.2==NameKind.free)=true:=by simpa using d
  rw[GY z] at b;exact g p b
theorem uy{e a:Type}{q:a}{g:e->List a->List a}(d:∀x c,q∈c->q∈g x c):∀(l:List e)(b:List a),q∈b->q∈l.foldl (λc x=>g x c) b
 |[],_,hb=>hb
 |x::r,b,hb=>uy d r (g x b) (d x b hb)
theorem FV{b:Scope}{env:Env}{x:Str}{c:Addr}(f:(x,NameKind.free)∈b.names)(d:env.cells.lookup x=some c):(x,c)∈iY b env:=by
 have i:∀(y:Str×NameKind)(a:List (Str×Addr)),(x,c)∈a->(x,c)∈(if (y.2==NameKind.free)=true then (y.1,(env.cells.lookup y.1).getD 0)::a else a):=λy a h=>by
  by_cases z:(y.2==NameKind.free)=true
  ·rw[Hl z];exact GP _ h
  ·rw[GY z];exact h
 unfold iY;obtain⟨k,j,e⟩:=Km f;rw[e,List.foldl_append,Lx];refine uy (g:=λ(y:Str×NameKind)(a:List (Str×Addr))=>if (y.2==NameKind.free)=true then (y.1,(env.cells.lookup y.1).getD 0)::a else a) i j _ ?_;rw[Hl (by simp)];rw[d];exact GM
theorem tV{a:Type}{x:Str}{b:a}:∀{l:List (Str×a)},(x,b)∈l->∃c,l.lookup x=some c
 |[],h=>nomatch h
 |(y,d)::r,h=>by
  by_cases e:x=y
  ·subst e;exact⟨d,by rw[List.lookup_cons_self]⟩
  ·have z:(x==y)=false:=by simpa using e
   rcases GI.mp h with q|q
   ·cases q
    exact absurd rfl e
   ·obtain⟨c,f⟩:=tV q;exact⟨c,by rw[List.lookup_cons,z];exact f⟩
theorem jB{a:Scope}{env:Env}(h:∀y∈a.names,y.2=.free->∃c,env.cells.lookup y.1=some c){x:Str}{c:Addr}(e:(iY a env).lookup x=some c):env.cells.lookup x=some c:=
 FR h _ (Jj e)
theorem wS{a:Scope}{env:Env}(h:∀y∈a.names,y.2=.free->∃c,env.cells.lookup y.1=some c){x:Str}{c:Addr}(f:(x,NameKind.free)∈a.names)(b:env.cells.lookup x=some c):(iY a env).lookup x=some c:=by
 obtain⟨d,e⟩:=tV (FV f b);have:=jB h e;rw[b] at this
 cases this
 exact e
def kj(b a:Scope):Scope:=
 { b with names:=b.names.map λ(n,k)=>if (k==.free&&a.kind==.function&&a.names.lookup n==some .cell) then (n,.cell) else (n,k) }
def jQ(b a:Scope)(c N':List Str)(n:Nat)(kp:List Nat):Bool:=
 decide (a.kind=.function)&&a.names.all (λy=>decide (y.2≠.cell))&&a.names.all (λy=>decide (y.2=.local->a.names.lookup y.1=some .local)) &&
 a.names.all (λy=>decide (y.2=.free->b.names.lookup y.1=some .cell))&&decide (N'.length=n+kp.length) &&
 (List.range kp.length).all (λi=>match N'[n+i]?,kp[i]? with
  |some x,some j=>decide (c[j]?=some x/\(x,NameKind.free)∈a.names/\((kj a b).names.lookup x=some .cell\/(kj a b).names.lookup x=some .free))
  |_,_=>false)
theorem qD{b a:Scope}{d N':List Str}{n:Nat}{kp:List Nat}(h:jQ b a d N' n kp=true):
  a.kind=.function/\(∀y∈a.names,y.2≠.cell)/\(∀y∈a.names,y.2=.local->a.names.lookup y.1=some .local)/\(∀y∈a.names,y.2=.free->b.names.lookup y.1=some .cell)/\N'.length=n+kp.length /\
  ∀(i:Nat)(x:Str),N'[n+i]?=some x->∃j,kp[i]?=some j/\d[j]?=some x/\(x,NameKind.free)∈a.names/\((kj a b).names.lookup x=some .cell\/(kj a b).names.lookup x=some .free):=by
 unfold jQ at h;simp only[Ha,Hv,IF] at h;obtain⟨⟨⟨⟨⟨f,g⟩,k⟩,l⟩,m⟩,o⟩:=h;refine⟨f,g,k,l,m,λi x e=>?_⟩;have c:i<kp.length:=by
  have:=(GU.mp e).1;omega
 have q:=o i (Ih.mpr c);rw[e,GG c] at q;exact⟨kp[i],GG c,GJ q⟩
abbrev iH:Value->Shared->Prop:=λ_ _=>False
def dM(X:Cx)(N':List Str)(b:Scope)(C:Addr)(fp:List Addr)(a:List (Addr×Obj))(s:Shared)(H:Hp):Cx:=
 { X with N:=N',s₀:=s,H₀:=H,env:=compEnvC b (iY b X.env) C X.env,outer:=X.stack,stack:=X.stack,ex:=fp,fn:=λ_=>false,pn:=X.pn++a,xe:=iH }
abbrev so(cs:List Expr)(env:Env):Sem Bool:=forIn cs true λc r=>if r=true then do let ok <-isTrue c env (eval c env);pure (ForInStep.yield ok) else pure (ForInStep.yield r)
def jV(X:Cx)(cs:List Expr)(t:TT):Prop:=
 ∀(a:List (Addr×Obj))(s:Shared)(b:St)(H:Hp)(Q:Bool->Hp->Prop),Inv X a b H s->t b H Q->wpAny (model X.prog X.w) X.A (so cs X.env) (TP X a b Q) X.xe s
def Bk:TT:=λ_ H Q=>Q true H
theorem fA{X:Cx}:jV X [] Bk:=λ_ _ _ H _ I h=>wpAny_tests_nil ⟨H,I,h⟩
theorem mo{X:Cx}{c:Expr}{t:TT}(b:PT X c t):jV X [c] t:=λa s d H Q I h=>wpAny_tests_one (b a s d H Q I h)
theorem y7{prog:Program}{w:World}{A:Around}{R:Result->Shared->Prop}{c j a:Expr}{cs:List Expr}{C:Scope}{g:Pos}{it b:Value}{env:Env}(J:Nat->Shared->Prop)
  (i:∀n s,J n s->wpAny (model prog w) A (pyNext it) (λr l=>match r with
   |none=>R (.ok .next) l
   |some v=>wpAny (model prog w) A (letOwnedTupleGo j it v) (λ_ t=>wpAny (model prog w) A (assign j env v) (λ_ u=>wpAny (model prog w) A (so cs env) (λk o=>
     if k=true then wpAny (model prog w) A (eval c env) (λx y=>wpAny (model prog w) A (call (.builtin "list.append") [b,x]) (λ_ B=>∃m,m<n/\J m B) iH y) iH o
     else ∃m,m<n/\J m o) iH u) iH t) iH l) iH s)
  (n:Nat) (s:Shared) (h:J n s):codeAny (model prog w) A (.compLoop (.ListComp c [⟨j,a,cs,0⟩] C g) 0 it b env) R s:=by
 refine codeAny_loop rfl J (λn s I=>?_) n h;show wpAny _ A ((compTurn (.ListComp c [⟨j,a,cs,0⟩] C g) 0 it b env).onRaise (λx=>do noteFrame x env;theTreesLotGoes x)) _ _ s;refine wpAny_noted ?_;rw[compTurn_list];have d:∀{E:Value->Shared->Prop} (e:Value) (z:Shared),iH e z->E e z:=λ_ _ f=>f.elim;refine GD (KG (GD (IR (i n s I) (λr l p=>?_) d)))
 cases r with
 |none=>exact GV p
 |some v=>
  refine GD (IR p (λ_ t D=>?_) d);refine GD (IR D (λ_ u F=>?_) d);refine GD (IR F (λk o q=>?_) d)
  cases k with
  |false=>exact GV ⟨rfl,q⟩
  |true=>
   exact GD (GD (IR q (λx y G=>GD (IR G (λ_ B H=>GV (GV ⟨rfl,H⟩)) d)) d))
def ju(J:It)(g:TG)(s:TT)(t:TE)(k:St)(o:Hp)(Q:VK):Prop:=∃W:Nat->Nat->List V->St->Hp->Prop,
  (∃m,W 0 m [] k o)/\∀i m e h c,W i m e h c->e.length<=sizeLine /\
    ((J.stop i c/\∀p,c p=none->Q (.ref p) (upd c p (.lst e))) \/
     (J.go i c/\∃N:List V->St->Hp->Prop,(∀f j d,N f j d->∃n,n<m/\W (i+1) n f j d)/\∀x d,J.yld i c x d->g x h d λa q=>s a q λb l=>
       if b=true then t a l λv r=>N (e++[v]) a r else N e a l))
def kq(n:Nat)(kp:List Nat)(e:TI)(g:TG)(c:TT)(d:TE):TE:=λa H Q=>e a H λJ b=>ju J g c d (List.replicate n none++kp.map λj=>(a[j]?).join) b Q
theorem FM{lo:Int}{k:Nat}{f:St}{H:Hp}{g:TG}{l:TT}{n:TE}{Q:VK}(d:Nat->List V->St->Hp->Prop)(u:d 0 [] f H)(hz:∀i ys a H,i<=k->d i ys a H->ys.length<=sizeLine)
  (A:∀i ys a H,i<k->d i ys a H->g (.int (lo+i)) a H λc q=>l c q λb j=>if b=true then n c j λv r=>d (i+1) (ys++[v]) c r else d (i+1) ys c j)
  (w:∀ys a H,d k ys a H->∀p,H p=none->Q (.ref p) (upd H p (.lst ys))):
  ju (gK lo k) g l n f H Q:=by
 refine⟨λi m ys a H=>m=k-i/\i<=k/\d i ys a H,⟨k,by simp,Iv _,u⟩,?_⟩;rintro i m ys a H ⟨rfl,z,p⟩;refine⟨hz i ys a H z p,?_⟩;by_cases h:i<k
 ·refine .inr ⟨h,d (i+1),λC D o B=>⟨k-(i+1),by omega,R,h,B⟩,λx o y=>?_⟩;obtain⟨s,t⟩:=y;subst s;subst t;exact A i ys a _ h p
 ·have e:i=k:=by omega
  subst e;exact .inl ⟨GW _,w ys a H p⟩
theorem gZ{K:PySem.W.Frag}{a:Addr}{xs:List V}{h:St}{H:Hp}{g:TG}{n:TT}{o:TE}{Q:VK}(d:Nat->List V->St->Hp->Prop)(u:d 0 [] h H)(hz:∀i ys c H,i<=xs.length->d i ys c H->ys.length<=sizeLine)
  (z:∀i ys c H,i<=xs.length->d i ys c H->SqL K H a xs)
  (A:∀i x ys c H,xs[i]?=some x->d i ys c H->g x c H λf s=>n f s λb j=>if b=true then o f j λv t=>d (i+1) (ys++[v]) f t else d (i+1) ys f j)
  (w:∀ys c H,d xs.length ys c H->∀p,H p=none->Q (.ref p) (upd H p (.lst ys))):
  ju (gP K a) g n o h H Q:=by
 refine⟨λi m ys c H=>m=xs.length-i/\i<=xs.length/\d i ys c H,⟨xs.length,by simp,Iv _,u⟩,?_⟩;rintro i m ys c H ⟨rfl,l,p⟩;refine⟨hz i ys c H l p,?_⟩;have q:=z i ys c H l p;by_cases k:i<xs.length
 ·refine .inr ⟨⟨xs,xs[i],q,by simp[k]⟩,d (i+1),λC D r B=>⟨xs.length-(i+1),by omega,R,k,B⟩,λx r y=>?_⟩;obtain⟨e,y⟩:=y;subst e;exact A i x ys c _ (y xs q) p
 ·have e:i=xs.length:=by omega
  subst e;exact .inl ⟨⟨xs,q,GW _⟩,w ys c H p⟩
theorem rO{K:PySem.W.Frag}{a:Addr}{xs:List V}{h:St}{H:Hp}{g:TG}{n:TT}{o:TE}{Q:VK}(d:Nat->List V->St->Hp->Prop)(u:d 0 [] h H)(hz:∀i ys c H,i<=xs.length->d i ys c H->ys.length<=sizeLine)
  (z:∀i ys c H,i<=xs.length->d i ys c H->SqT K H a xs)
  (A:∀i x ys c H,xs[i]?=some x->d i ys c H->g x c H λf s=>n f s λb j=>if b=true then o f j λv t=>d (i+1) (ys++[v]) f t else d (i+1) ys f j)
  (w:∀ys c H,d xs.length ys c H->∀p,H p=none->Q (.ref p) (upd H p (.lst ys))):
  ju (jT K a) g n o h H Q:=by
 refine⟨λi m ys c H=>m=xs.length-i/\i<=xs.length/\d i ys c H,⟨xs.length,by simp,Iv _,u⟩,?_⟩;rintro i m ys c H ⟨rfl,l,p⟩;refine⟨hz i ys c H l p,?_⟩;have q:=z i ys c H l p;by_cases k:i<xs.length
 ·refine .inr ⟨⟨xs,xs[i],q,by simp[k]⟩,d (i+1),λC D r B=>⟨xs.length-(i+1),by omega,R,k,B⟩,λx r y=>?_⟩;obtain⟨e,y⟩:=y;subst e;exact A i x ys c _ (y xs q) p
 ·have e:i=xs.length:=by omega
  subst e;exact .inl ⟨⟨xs,q,GW _⟩,w ys c H p⟩
section
variable{X:Cx}{tg iter elt:Expr}{cs:List Expr}{sc sc0:Scope}{pos:Pos}{wi:TI}{g:TG}{tc:TT}{te:TE}{XN N':List Str}{n:Nat}{kp:List Nat}
theorem zy{d:List (Addr×Obj)}{G:St}{H:Hp}{s:Shared}{fp:List Addr}{C:Addr}(I:Inv X d G H s)(B:sc.kind=.function)(i:∀y∈sc.names,y.2≠.cell)
  (a:∀y∈sc.names,y.2=.free->∃c,X.env.cells.lookup y.1=some c) (m:∀b∈fp,gJ X d H b) (D:∀b∈fp,b<s.heap.objs.size) (u:s.heap.objs.size<=C):(dM X N' sc C fp d s H).Ok where
 mod:=I.ok.mod
 kind:=B
 glob:=I.ok.glob
 blt:=I.ok.blt
 above:=u
 inj:=λx y c h1 A=>I.ok.inj x y c (jB a h1) (jB a A)
 has:=λx E=>by
  have q:∃k,(x,k)∈sc.names/\k=.free:=by
   have w:(kj sc X.env.scope).names.lookup x=some .cell\/(kj sc X.env.scope).names.lookup x=some .free:=E;have t:∀k,(kj sc X.env.scope).names.lookup x=some k->(k=.cell\/k=.free)->(x,NameKind.free)∈sc.names:=λk e v=>by
    have p:=Jj e;obtain⟨⟨y,F⟩,r,j⟩:=Hc.mp p;dsimp only at j
    split at j
    ·rename_i l
     cases j
     have z:F=.free:=by
      simp only[Ha] at l
      simpa using l.1.1
     subst z;exact r
    ·cases j
     rcases v with z|z
     ·exact absurd z (i _ r)
     ·subst z;exact r
   rcases w with e|e
   ·exact⟨_,t _ e (.inl rfl),R⟩
   ·exact⟨_,t _ e (.inr rfl),R⟩
  obtain⟨k,p,rfl⟩:=q;obtain⟨c,l⟩:=a _ p rfl;exact⟨c,wS a p l⟩
 cab:=λx c h=>absurd h (by simp[dM])
 hd:=I.ok.hd
 frames:=I.ok.frames
 stk:=.inl rfl
 exf:=λb f=>⟨Hq (Hj (D b f) u),λx c e=>(m b f).2.2.2.2.1 x c (jB a e)⟩
 bs:=I.bs
 bsz:=Hm I.ok.bsz I.sz
 noex:=λb o e f=>by
  rcases(m b f).2.2.2.1 with z|z
  ·exact I.ok.noex b o e z
  ·exact absurd (Hj (GS e) (Hm I.ok.bsz z)) (HW _)
 exfs:=λb f z=>by
  rcases GI.mp (I.stkSub b z) with q|q
  ·exact(m b f).2.1 q
  ·exact(m b f).2.2.1 q
 funs:=I.stack
 frf:=I.stkFree
end
section
variable{X:Cx}{tg iter elt:Expr}{cs:List Expr}{sc sc0:Scope}{pos:Pos}{wi:TI}{g:TG}{tc:TT}{te:TE}{XN N':List Str}{n:Nat}{kp:List Nat}
theorem uO{a:List (Addr×Obj)}{f:St}{H:Hp}{s:Shared}{fp:List Addr}{C:Addr}{h1:Heap}{tk:Nat}{m:Str->Option Value}(I:Inv X a f H s)(U:X.env.scope=sc0)(W:X.N=XN)(ok:jQ sc0 sc XN N' n kp=true)
  (Z:∀b∈fp,gJ X a H b) (hl:∀b∈fp,b<s.heap.objs.size) (A:s.heap.objs.size<=C) (d:∀b o,s.heap.get? b=some o->h1.get? b=some o) (ns:h1.Ns C m):
  Inv (dM X N' sc C fp a s H) [] (List.replicate n none++kp.map λj=>(f[j]?).join) H { s with heap:=h1,toks:=tk }:=by
 obtain⟨o1,o2,o3,J,o5,o6⟩:=qD ok;subst U;subst W;have h:∀y∈sc.names,y.2=.free->∃c,X.env.cells.lookup y.1=some c:=λy hy e=>I.ok.has y.1 (.inl (J y hy e));have M:∀b,b<s.heap.objs.size->b≠C:=λb Y=>Hq (Hj Y A);refine⟨zy I o1 o2 h Z hl A,R,I.bare,Un.kept d,⟨m,ns,λi x v T l e3=>?_⟩,λx c e=>?_,I.hok.fresh A,λx c e=>?_,λp hp=>?_,I.hok.kept d,?_⟩
 ·have hi:n<=i:=by
   by_cases z:n<=i
   ·exact z
   ·rw[HX (by rw[Ix];omega),Ln] at l
    split at l<;>cases l
  obtain⟨j,rfl⟩:∃j,i=n+j:=⟨i-n,by omega⟩
  obtain⟨q,hq,hx,B,O⟩:=o6 j x T;rw[HP (by rw[Ix];omega),Ix,Ks,GQ,hq] at l;have t:(f[q]?).join=some v:=HI l;have Q:f[q]?=some (some v):=by
   cases z:f[q]? with
   |none=>rw[z] at t;cases t
   |some w=>rw[z] at t;cases t;rfl
  obtain⟨c,F⟩:=h _ B rfl;have G:X.env.kindOf x=some .cell:=J _ B rfl;obtain⟨m',ak,S⟩:=I.loc;obtain⟨u,r,lk⟩:=S q x v hx Q (.inr (.inl G));refine⟨u,r,.inr ⟨O,c,wS h B F,?_⟩⟩;rcases lk with⟨k,_⟩|⟨_,c',E,D⟩
  ·rw[G] at k
   cases k
  ·rw[F] at E
   cases E
   exact D.keeps d
 ·obtain⟨v,D⟩:=I.cell x c (jB h e);exact⟨v,D.keeps d⟩
 ·exact I.freeC x c (jB h e)
 ·have P:p∈X.pn++a:=by
   have:p∈(X.pn++a)++([]:List (Addr×Obj)):=hp;rw[HZ] at this;exact this
  obtain⟨L,q2,q3,q4,q5⟩:=I.pin p P;refine⟨d _ _ L,q2,M _ (GS L),λz=>?_,q5⟩;rcases GI.mp (I.stkSub _ z) with r|r
  ·exact q3 r
  ·exact q4 r
 ·show(List.replicate n none++kp.map λj=>(f[j]?).join).length=N'.length;rw[GC,Ix,Gz,o5]
theorem xE{d:List (Addr×Obj)}{s:Shared}{σ:St}{H:Hp}{Q:VK}{use:Option (Value->Sem Unit)}{Qf:Value->Shared->Prop}(hc:X.calm=true)(hi:PI X tg iter wi)(h0:X.env.scope=sc0)(hN:X.N=XN)(ok:jQ sc0 sc XN N' n kp=true)
  (hg:∀C fp d s H,PG (dM X N' sc C fp d s H) tg g) (ht:∀C fp d s H,jV (dM X N' sc C fp d s H) cs tc) (he:∀C fp d s H,PE (dM X N' sc C fp d s H) elt te) (hs:∀x,foldedSetIterable iter X.env x=pure x)
  (I:Inv X d σ H s) (h:kq n kp wi g tc te σ H Q)
  (ni:∀D C ys j F,Inv X d σ (upd j D (.lst ys)) F->(∃m,F.heap.Ns C m)->gJ X d (upd j D (.lst ys)) C->Q (.ref D) (upd j D (.lst ys))->compPost (model X.prog X.w) X.A X.xe use Qf (.ref D) C (.ok .next) F) {aB:Pos}:
  wpAny (model X.prog X.w) X.A (comprehension (.ListComp elt [⟨tg,iter,cs,0⟩] sc pos) sc X.env aB (newList []) false (firstIter [⟨tg,iter,cs,0⟩] X.env) use) Qf X.xe s:=by
 obtain⟨o1,o2,o3,o4,o5,o6⟩:=qD ok;have aC:∀y∈sc.names,y.2=.free->∃c,X.env.cells.lookup y.1=some c:=λy hy e=>I.ok.has y.1 (.inl (by rw[Env.kindOf,h0];exact o4 y hy e));refine wpAny_comprehension_free (use:=use) rfl hs (wN aC) o1 o3 (bZ (hi d s σ H _ I h) λv s1 Z=>bZ Z λaR f h2=>?_);obtain⟨it,fp,tn,J,E,rfl,O,T,az,Y,W,⟨m0,w0⟩,ax⟩:=h2;have hl:∀b∈fp,b<f.heap.objs.size:=λb l=>by
  obtain⟨o,e,_⟩:=T.obj 0 _ az b l;exact GS e
 refine IY (wpAny_newFunctionEnv o2 (by intro y hy;simp at hy) (λZ ay am=>?_) o1);dsimp only at ay am |-;generalize hG:f.heap.push { cls:=.type "list",dict:=none,data:=.seq ([]:List Value).toArray }=G at ay am |-;have aP:G.objs.size=f.heap.objs.size+1:=by rw[<-hG,Jo]
 have ah:f.heap.objs.size<=G.objs.size:=by omega
 have aj:f.heap.objs.size≠G.objs.size:=by omega
 have ao:∀b o,f.heap.get? b=some o->Z.get? b=some o:=λb o e=>by
  have U:=GS e;exact am.extBut b o (Hq (Hj U ah)) (GR _ (hG▸GR _ e))
 have aO:Z.get? f.heap.objs.size=some { cls:=.type "list",data:=.seq ([]:List Value).toArray 0 }:=
  am.extBut _ _ aj (GR _ (hG▸Hk _ rfl))
 have ak:E f.heap.objs.size=none:=O.hok.fresh (GW _);have aQ:E G.objs.size=none:=O.hok.fresh ah;have ag:∀s3:Shared,s3={ f with heap:=Z,toks:=f.toks+([]:List (Str×Value)).length } ->
   codeAny (model X.prog X.w) X.A (.compLoop (.ListComp elt [⟨tg,iter,cs,0⟩] sc pos) 0 (.ref it) (.ref f.heap.objs.size) (compEnvC sc (iY sc X.env) G.objs.size X.env))
    (compPost (model X.prog X.w) X.A X.xe use Qf (.ref f.heap.objs.size) G.objs.size) s3:=by
  rintro s3 rfl;have I3:=uO (fp:=fp) (C:=G.objs.size) (h1:=Z) (tk:=f.toks+([]:List (Str×Value)).length) O h0 hN ok Y hl ah ao ay;have ae:∀{j:Hp} {o:Obj},(∀b∈fp,j b=none)->∀b∈fp,gJ (dM X N' sc G.objs.size fp d f E) [(f.heap.objs.size,o)] j b:=λhn b l=>by
   have U:=hl b l;refine⟨hn b l,Hq (Hj U ah),I3.ok.exfs b l,.inl l,(I3.ok.exf b l).2,λp S=>?_⟩;rcases GL.mp S with z|z
   ·exact(Y b l).2.2.2.2.2 p z
   ·have e:p.1=f.heap.objs.size:=by rw[GE.mp z]
    rw[e];exact Io U
  have au:∀{t:St} {j:Hp} {F:Shared} {o:Obj},Inv (dM X N' sc G.objs.size fp d f E) [] t j F->F.heap.get? f.heap.objs.size=some o->(∀v,o.data≠.cell v)->j f.heap.objs.size=none ->
    Inv (dM X N' sc G.objs.size fp d f E) [(f.heap.objs.size,o)] t j F:=λ{t j F o} J' e hd hn=>J'.pins_of λp S=>by
   rw[GE.mp S];exact⟨e,hn,aj,λz=>by
    rcases GI.mp (O.stkSub _ z) with r|r
    ·exact absurd O.lt (by rw[<-r];exact HW _)
    ·exact O.nofs (GW _) r,hd⟩
  refine y7 (λk F=>∃(i:Nat)(ys:List V)(P:List Value)(c:Nat)(t:St)(j:Hp),Inv (dM X N' sc G.objs.size fp d f E) [] t j F/\tn i F.heap/\(∀b∈fp,j b=none) /\
   F.heap.get? f.heap.objs.size=some { cls:=.type "list",data:=.seq P.toArray c }/\Vals ys P/\j f.heap.objs.size=none/\W i k ys t j) ?_ m0 _
   ⟨0,[],[],0,_,E,I3,T.keep _ _ _ az λb _ o e=>ao b o e,λb l=>(Y b l).1,aO,.nil,ak,w0⟩
  rintro k F ⟨i,ys,P,c,t,j,I',aG,aF,aK,hv,nD,w'⟩;obtain⟨hz,cases⟩:=ax i k ys t j w';have aD:=au I' aK (λv=>by intro z;cases z) nD;rcases cases with⟨av,q⟩|⟨go,N,aE,step⟩
  ·refine bZ (T.done (dM X N' sc G.objs.size fp d f E) rfl rfl rfl hc i _ F t j iH aD (ae aF) aG av) λr s4 ⟨hr,I4⟩=>?_;subst hr;obtain⟨e4,n4,_⟩:=I4.pin (f.heap.objs.size,{ cls:=.type "list",data:=.seq P.toArray c }) (Hw _ (GE.mpr rfl));have u4:Un (dh X.stack) fp E j f.heap s4.heap:=I4.base;have aI:j G.objs.size=none:=I4.free;obtain⟨m4,aL,_⟩:=I4.loc;have aJ:∀b o,f.heap.get? b=some o->b≠f.heap.objs.size:=λb o e=>Hq (GS e);have u5:Un (dh X.stack) fp E (upd j f.heap.objs.size (.lst ys)) f.heap s4.heap:=
    ⟨u4.keep,u4.slot,λb o e nb hx=>by rw[bR (aJ b o e)];exact u4.free b o e nb hx,u4.there,λb xs e=>by rw[bR (cY e ak)];exact u4.tups b xs e,
     λb o u e=>by rw[bR (cY e ak)];exact u4.frzs b o u e,λb ps e=>by rw[bR (cY e ak)];exact u4.tbls b ps e⟩
   have aw:HOk X.prog X.w (upd j f.heap.objs.size (.lst ys)) s4.heap:=λa o e=>by
    by_cases ea:a=f.heap.objs.size
    ·subst ea;rw[bI] at e
     cases e
     exact⟨hz,P,c,hv,e4⟩
    ·rw[bR ea] at e;exact(I4.hok a o e).stay (λ_ _ _ q=>q) (λb q=>by rw[bR (cY q nD)];exact q) λb xs q=>by rw[bR (cY q nD)];exact q
   have I5:Inv X d σ (upd j f.heap.objs.size (.lst ys)) s4:=O.call' I4.os u5 aw I4.bare λb l=>⟨(Y b l).2.2.2.1,(Y b l).2.1,(Y b l).2.2.2.2.1,(Y b l).2.2.2.2.2⟩
   refine ni _ _ ys j s4 I5 ⟨m4,aL⟩ (O.fpOk ah ?_) (q _ nD);rw[bR (Ij aj)];exact aI
  ·refine bZ (T.item (dM X N' sc G.objs.size fp d f E) rfl rfl rfl hc i _ F t j iH aD (ae aF) aG go) λr s4 ⟨u,hr,h4⟩=>?_;subst hr;refine bZ h4 λ_ s5 ⟨x,H5,I5,r5,y5,aq,aN⟩=>?_;have aM:=I5.pinned (ae aN) (T.obj _ _ aq);refine bZ (hg _ _ _ _ _ _ s5 t H5 x u _ aM r5 (step x H5 y5)) λ_ s6 ⟨B,H6,I6,q6⟩=>?_;refine bZ (ht _ _ _ _ _ _ s6 B H6 _ I6 q6) λb s7 ⟨H7,I7,q7⟩=>?_;have af:∀{M:Shared} {L:Hp} (m':Nat),Inv (dM X N' sc G.objs.size fp d f E) ([(f.heap.objs.size,{ cls:=.type "list",data:=.seq P.toArray c })]++jL fp s5.heap) B L M ->
     tn (i+1) M.heap/\(∀b∈fp,L b=none)/\M.heap.get? f.heap.objs.size=some { cls:=.type "list",data:=.seq P.toArray c }/\L f.heap.objs.size=none:=λ{M L} m' I8=>by
    have pn:∀p∈[(f.heap.objs.size,({ cls:=.type "list",data:=.seq P.toArray c }:Obj))]++jL fp s5.heap,M.heap.get? p.1=some p.2/\L p.1=none:=λp S=>
     let ⟨a,b,_⟩:=I8.pin p (Hw _ S);⟨a,b⟩
    refine⟨T.keep _ _ _ aq λb l o e=>(pn (b,o) (Hw _ (kz l e))).1,λb l=>?_,pn _ (IP _ (GE.mpr rfl))⟩;obtain⟨o,e,_⟩:=T.obj _ _ aq b l;exact(pn (b,o) (Hw _ (kz l e))).2
   have ai:∀{M:Shared} {L:Hp} {pl:List (Addr×Obj)},Inv (dM X N' sc G.objs.size fp d f E) pl B L M->Inv (dM X N' sc G.objs.size fp d f E) [] B L M:=λI8=>I8.pins_of λp S=>nomatch S
   cases b with
   |false=>
    rw[GY Hh] at q7 |-;obtain⟨m',U,w7⟩:=aE _ _ _ q7;obtain⟨b1,b2,b3,b4⟩:=af m' I7;exact⟨m',U,i+1,ys,P,c,B,H7,ai I7,b1,b2,b3,hv,b4,w7⟩
   |true=>
    rw[Hl rfl] at q7 |-;refine bZ (he _ _ _ _ _ _ s7 B H7 _ I7 q7) λy M ⟨yv,L,I8,r8,q8⟩=>?_;obtain⟨m',U,w8⟩:=aE _ _ _ q8;obtain⟨b1,b2,b3,b4⟩:=af m' I8;have ar:=hv.length;refine append_at (hsz:=by rw[Hb,<-ar];exact hz) b3 λh9 aA e9=>?_;have I9:Inv (dM X N' sc G.objs.size fp d f E) [] B L { M with heap:=h9 }:=(ai I8).turned (t':=M.toks) (it:=f.heap.objs.size) (λb o l e=>aA.extBut b o l e) b4 aj (.inr (GW _))
     (λx c e z=>by
      obtain⟨v,hv⟩:=O.cell x c (jB aC e);exact absurd hv.lt (by rw[z];exact HW _))
     λp S z=>by
      have aH:p∈X.pn++d:=by
       have:p∈(X.pn++d)++([]:List (Addr×Obj)):=S;rw[HZ] at this;exact this
      exact absurd (GS (O.pin p aH).1) (by rw[z];exact HW _)
    refine⟨m',U,i+1,ys++[yv],P++[y],c+1,B,L,I9,T.keep _ _ _ b1 λb l o e=>aA.extBut b o (Hq (hl b l)) e,b2,?_,hv.append (.cons r8 .nil),b4,w8⟩;rw[e9];simp
 exact codeAny_compStart_list (ag _ rfl) (T.self _ 0 _ _ _ (T.keep _ _ _ az λb _ o e=>ao b o e) (ag _ rfl))
theorem hZ(t:X.calm=true)(hi:PI X tg iter wi)(l:X.env.scope=sc0)(p:X.N=XN)(B:jQ sc0 sc XN N' n kp=true)
  (v:∀C fp a s H,PG (dM X N' sc C fp a s H) tg g) (z:∀C fp a s H,jV (dM X N' sc C fp a s H) cs tc) (u:∀C fp a s H,PE (dM X N' sc C fp a s H) elt te)
  (y:∀x,foldedSetIterable iter X.env x=pure x:=by intro _;rfl):PE X (.ListComp elt [⟨tg,iter,cs,0⟩] sc pos) (kq n kp wi g tc te):=by
 intro a s O H Q I h;rw[eval_ListComp];refine xE t hi l p B v z u y I h λD C M G E c A fp q=>?_;obtain⟨m,w⟩:=A;refine⟨m,w,λL F=>⟨.ref D,_,?_,R,q⟩⟩;obtain⟨d,f,J,i,j,k⟩:=fp;exact c.turned (t':=E.toks) (it:=C) (λb o r e=>F.extBut b o r e) d f i j k
end
section
variable{X:Cx}{tg iter elt:Expr}{cs:List Expr}{sc sc0:Scope}{pos:Pos}{wi:TI}{g:TG}{tc:TT}{te:TE}{XN N':List Str}{n:Nat}{kp:List Nat}
theorem i7{i:Nat}{y:Str}{k d:Pos}(l:X.N.Nodup)(r:X.N[i]?=some y)(J:X.env.scope.names.lookup y=some .local)(t:swapsWith (.ListComp elt [⟨tg,iter,cs,0⟩] sc pos) (some (.Name y k)) d.line X.env=pure true)
  (hc:X.calm=true) (hi:PI X tg iter wi) (h0:X.env.scope=sc0) (hN:X.N=XN) (ok:jQ sc0 sc XN N' n kp=true)
  (hg:∀C fp a s H,PG (dM X N' sc C fp a s H) tg g) (ht:∀C fp a s H,jV (dM X N' sc C fp a s H) cs tc) (he:∀C fp a s H,PE (dM X N' sc C fp a s H) elt te)
  (hs:∀x,foldedSetIterable iter X.env x=pure x:=by intro _;rfl):PS X (.Assign [.Name y k] (.ListComp elt [⟨tg,iter,cs,0⟩] sc pos) d) (iW (kq n kp wi g tc te) (gn i)):=by
 intro a s B H D I h;rw[exec_Assign_Name_used _ _ _ _ t];refine GD (KG (GD ?_));have O:wpAny (model X.prog X.w) X.A (comprehension (.ListComp elt [⟨tg,iter,cs,0⟩] sc pos) sc X.env (firstIterPos [⟨tg,iter,cs,0⟩] pos) (newList []) false (firstIter [⟨tg,iter,cs,0⟩] X.env) (some (assign (.Name y k) X.env)))
   (λ_ f=>SP X a D .next f) X.xe s:=by
  refine xE (Q:=λx M=>gn i x B M D.nx) hc hi h0 hN ok hg ht he hs I h λj C ys L f F ns fp q=>?_;obtain⟨m,hm⟩:=ns;obtain⟨U,G,W,Y,Z,f6⟩:=fp;obtain⟨o,T,S,ho,c⟩:=id hm;have nc:∀v,o.data≠.cell v:=λv z=>by
   rw[c.1] at z
   cases z
  have P:Inv X (a++[(C,o)]) B (upd L j (.lst ys)) f:=F.pins_of λp hp=>by
   rcases GL.mp hp with z|z
   ·exact F.pin p (Hw _ z)
   ·rw[GE.mp z];exact⟨ho,U,G,W,nc⟩
  show wpAny (model X.prog X.w) X.A (assign (.Name y k) X.env (.ref j)) _ X.xe f;refine bZ (cG l r (.inl J) (.inr J) _ f B _ (.ref j) (.ref j) D.nx P rfl q) λ_ u ⟨E,H3,I3,q3⟩=>?_;obtain⟨p1,p2,_⟩:=I3.pin (C,o) (Hw _ (Hw _ (GE.mpr rfl)));refine⟨m,⟨o,T,S,p1,c⟩,λh' sb=>⟨E,H3,?_,q3⟩⟩;exact I3.unpinned.turned (t':=u.toks) (it:=C) (λb o hb e=>sb.extBut b o hb e) p2 G Y Z f6
 show wpAny (model X.prog X.w) X.A (comprehension _ _ _ _ _ _ _ _>>=_) _ _ s;exact GD (bZ O λ_ f q=>GV (GV q))
end
section
variable{X:Cx}
def cW(T C:String):Option Bool:=if T=C then some true else if PySem.W.kitMeta C=true then (fastBuiltinMro T).map (·.contains (.type C)) else none
theorem Ak{K:PySem.W.Frag}{T C:String}{b:Bool}(h:cW T C=some b):PySem.W.kitOne K (.type T) (.type C)=some b:=by
 unfold cW at h;unfold PySem.W.kitOne;by_cases e:T=C
 ·subst e;rw[Hl rfl] at h;rw[Hl (Ls _)];exact h
 ·rw[GY e] at h;have z:¬(Value.type T==Value.type C)=true:=λq=>by
   have c:=eq_of_beq q;injection c with a;exact e a
  rw[GY z];exact h
theorem Ge:eM X (.builtin "isinstance") (λxs H Q=>∃(x:V)(T C:String)(b:Bool),xs=[x,.ty C]/\fN X.K H x (.type T)/\cW T C=some b/\Q (.bl b) H):=by
 intro a s k H xs j Q I r h;obtain⟨x,T,C,b,rfl,g,e,q⟩:=h;obtain⟨u,i,rfl,c,d⟩:=mB r
 cases(show i=Value.type C from d)
 exact EN I c g (Ak e) λf=>⟨.bl b,H,I.tok f,R,q⟩
theorem tK:cW "list" "list" = some true:=by decide +kernel
theorem tU:cW "str" "str" = some true:=by decide +kernel
theorem qx(i:X.A.units+64<cLine):dG X (compareOp .NotEq) (λx y H Q=>∃(a b:Addr)(ns c:List Int),x=.ref a/\y=.ref b/\SqL X.K H a (ns.map V.int)/\SqL X.K H b (c.map V.int)/\Q (.bl (!decide (ns=c))) H):=by
 intro d s r H x y v u Q I l m h;obtain⟨a,b,ns,c,rfl,rfl,f,g,q⟩:=h
 cases l
 cases m
 obtain⟨n,k,p,_⟩:=I.list f;obtain⟨o,e,j,_⟩:=I.list g;exact PySem.W.ke_ne_ints p.isList j.isList (nG k) (nG e) i ⟨.bl _,H,I,R,q⟩
theorem Ew(bs:List Bool):((List.range bs.length).all λi=>(bs[i]?).getD true)=bs.all id:=by
 rw[IA,Hv,Hv];refine⟨λh b d=>?_,λh i a=>?_⟩
 ·obtain⟨i,a,rfl⟩:=KQ d;have:=h i (Ih.mpr a);rw[GG a] at this;exact this
 ·have c:=Ih.mp a;show(bs[i]?).getD true=true;rw[GG c];exact h _ (IH c)
theorem ua(w:X.calm=true):eM X (.builtin "all") (λxs H Q=>∃(p:Addr)(bs:List Bool),xs=[.ref p]/\SqL X.K H p (bs.map V.bl)/\Q (.bl (bs.all id)) H):=by
 intro m s P H xs O Q I r h;obtain⟨p,bs,rfl,B,q⟩:=h;obtain⟨u,rfl,E⟩:=fD r
 cases E
 obtain⟨c,j,C,M⟩:=I.list B;have g:=C.isList;have n:p<s.heap.objs.size:=by obtain⟨_,e,_⟩:=g;exact GS e
 refine call_all_walk (Kz g ?_);refine⟨s.heap.objs.size,[s.heap.objs.size,p],[s.heap.objs.size],c.toArray.size,_,_,λi=>(bs[i]?).getD true,R,Walks.list (A:=X.A.in1) (I.ok.hd w) _ p (Hq n) c.toArray,
  ⟨⟨_,Hk _ rfl,R,R⟩,g.push _⟩,λi v N J G t f=>?_,λL F y=>?_⟩
 ·have e:c[i]?=some v:=by simpa using t
  have a:=j.length;rw[Gz] at a;have k:i<bs.length:=by
   have:=(GU.mp e).1;omega
  obtain⟨u,l,D⟩:=j.get (i:=i) (x:=.bl bs[i]) (by rw[GQ,GG k];rfl);rw[e] at l
  cases l
  cases(show v=Value.bool bs[i] from D)
  dsimp only at f;rw[GG k] at f;exact IZ f
 ·have a:=j.length;rw[Gz] at a;have e:((List.range c.toArray.size).all λi=>(bs[i]?).getD true)=bs.all id:=by
   rw[Hb,<-a];exact Ew bs
  rw[e];refine⟨.bl _,H,I.kept (t':=F) λb o d=>y b o (λz=>?_) (GR _ d),R,q⟩;rw[GE.mp z] at d;exact HW _ (GS d)
end
section
variable{prog:Program}{w:World}{A:Around}{E:Value -> Shared -> Prop}{s:Shared}
theorem DW{j q:Addr}{i:Nat}{a:Array Value}{x:Value}{Q:Value->Shared->Prop}(d:s.heap.IsTupleIter j q i)(f:s.heap.IsTuple q a)(h:a[i]?=some x)
  (k:∀g,g.IsTupleIter j q (i+1)->Heap.SameBut j s.heap g->Q x { s with heap:=g }):wpAny (model prog w) A (Builtin.SmallTypes.nextOf (.ref j)) Q E s:=by
 obtain⟨o,c,l,b⟩:=id d;obtain⟨p,e,_,m,n⟩:=f;unfold Builtin.SmallTypes.nextOf;refine GD (Jf (name:=Str.ofString "__next__") d.typeIs Jz (IT Jz d.typeIs F.entry_tuple_iterator_next ?_ (F.args_tuple_iterator_next_1 _)));show wpAny _ _ (field (.ref j) 0>>=_) _ _ s;refine GD (IJ c b (x:=.ref q) rfl ?_);show wpAny _ _ (if (Value.ref q==Value.none)=true then _ else _) _ _ s;rw[GY (show ¬((Value.ref q==Value.none)=true) from Hh)];show wpAny _ _ (field (.ref j) 1>>=_) _ _ s;refine GD (IJ c b (x:=.int i 0) rfl ?_);show wpAny _ _ (seqItems? (.ref q)>>=_) _ _ s;refine GD (JO e n ?_);simp only[h,Iu];refine GD (JP c b (by simp) (GV ⟨x,R,GV (k _ ⟨_,Ik _ c (JV (JB b _)),(Le ..).trans l,?_⟩ (Iy ..))⟩));rw[JB b];simp[rawInt]
theorem E3{j q:Addr}{i:Nat}{b:Array Value}{Q:Value->Shared->Prop}(h:A.handled=none)(c:s.heap.IsTupleIter j q i)(n:s.heap.IsTuple q b)(r:b[i]?=none)
  (k:∀g e,Heap.ExtBut j s.heap g->(∃o,g.get? e=some o/\o.cls=.type "StopIteration")->E (.ref e) { s with heap:=g }):wpAny (model prog w) A (Builtin.SmallTypes.nextOf (.ref j)) Q E s:=by
 obtain⟨o,d,u,f⟩:=id c;obtain⟨p,l,_,m,t⟩:=n;unfold Builtin.SmallTypes.nextOf;refine GD (Jf (name:=Str.ofString "__next__") c.typeIs Jz (IT Jz c.typeIs F.entry_tuple_iterator_next ?_ (F.args_tuple_iterator_next_1 _)));show wpAny _ _ (field (.ref j) 0>>=_) _ _ s;refine GD (IJ d f (x:=.ref q) rfl ?_);show wpAny _ _ (if (Value.ref q==Value.none)=true then _ else _) _ _ s;rw[GY (show ¬((Value.ref q==Value.none)=true) from Hh)];show wpAny _ _ (field (.ref j) 1>>=_) _ _ s;refine GD (IJ d f (x:=.int i 0) rfl ?_);show wpAny _ _ (seqItems? (.ref q)>>=_) _ _ s;refine GD (JO l t ?_);simp only[r,Iu];refine GD (Lw (GD (JP d f (by simp) ?_)));show wpAny _ _ (newExc (.type "StopIteration") []>>=_) _ _ _;refine GD ?_;simp only[newExc,newTuple];refine GD (IY ?_ (by size_fits));refine GD (m:=firstArgMember _ _) (wpAny_of_eq (a:=Value.none) (by first|rfl|(simp only[firstArgMember];rfl)) ?_);refine IY ?_ (by size_fits);simp only[raiseNew];refine GD (wpAny_handled ?_);first|rw[show A.in1.handled=none from h]|rw[h]
 refine GD (GV (wpAny_throw ?_));exact k _ _ (((Iy ..).extBut.push _).push _) ⟨_,Hk _ rfl,R⟩
theorem E2(m:A.handled=none)(j q:Addr)(b:q≠j)(a:Array Value):Draws prog w A j [j,q] a.size (λi v=>a[i]?=some v) (λi h=>h.IsTupleIter j q i/\h.IsTuple q a) where
 live:=λ_ _ st=>let ⟨o,ho,_⟩:=st.1;⟨o,ho⟩
 frame:=λ_ _ _ st d=>⟨st.1.at λo e=>d j (by simp) o e,let ⟨o,e,r⟩:=st.2;⟨o,d q (by simp) o e,r⟩⟩
 item:=λi s Q E c st l=>DW st.1 st.2 (x:=a[i]) (by simp[c]) λg n f=>l _ g s.toks (by simp[c]) ⟨n,st.2.extBut f.extBut b⟩ f
 done:=λs Q E st k=>E3 m st.1 st.2 (by simp) k
open AutoSeq1 (wpAny_loadPart') in
theorem C9(q:Addr)(b:Array Value)(n:Nat)(e:Option Addr)(sl:Array (Option Value)):
  Meets (Builtin.«enumerate.__new__» ⟨[.type "enumerate",.ref q],[]⟩) (λ_ R s=>s.heap.get? q=some { cls:=.type "tuple",dict:=e,data:=.seq b n,slots:=sl } /\
   R (.ok (.ret (.ref (s.heap.push { cls:=.type "tuple_iterator",data:=.fields #[.ref q,.int 0 0] }).objs.size))) { s with heap:=(s.heap.push { cls:=.type "tuple_iterator",data:=.fields #[.ref q,.int 0 0] }).push { cls:=.type "enumerate",data:=.fields #[.none,.bool false,.ref s.heap.objs.size,rawInt 0,.none,.none] } }):=
 .of_wp λprog w A R s h=>by
  obtain⟨j,g,d,k,os⟩:=s;obtain⟨a,h⟩:=h;have i:=sub_enumerate;have f:Heap.IsTuple (Shared.heap ⟨j,g,d,k,os⟩) q b:=⟨_,a,rfl,n,rfl⟩
  wp_walk using Jm a
  refine wpAny_stack_any λst=>GV ?_
  split
  ·rename_i c _ _ _ _ _
   cases(c==Value.type "enumerate")
   ·wp_walk using Jm a,JS f
    exact⟨_,rfl,h⟩
   ·wp_walk using Jm a,JS f
    exact⟨_,rfl,h⟩
  ·wp_walk using Jm a,JS f
   exact⟨_,rfl,h⟩
theorem DN{q:Addr}{a:Array Value}{Q:Value->Shared->Prop}(i:s.heap.IsTuple q a)
  (k:∀g,IsEnum g (s.heap.objs.size+1) s.heap.objs.size 0 .none->g.IsTupleIter s.heap.objs.size q 0->(∀b o,s.heap.get? b=some o->g.get? b=some o)->Q (.ref (s.heap.objs.size+1)) { s with heap:=g }):
  wpAny (model prog w) A (call (.type "enumerate") [.ref q]) Q E s:=by
 obtain⟨⟨c,e,h,p⟩,m,j,n,l⟩:=i
 cases(show c=.type "tuple" from j)
 cases(show h=.seq a n from l)
 refine callType_new F.called_enumerate (by decide) (F.typeCall_enumerate_1 _) (F.newCall_enumerate_1 _) (λf=>F.args_object_init_2 f _) F.entry_enumerate_new (C9 q a n e p) ⟨m,?_⟩;have z:(s.heap.push { cls:=.type "tuple_iterator",data:=.fields #[.ref q,.int 0 0] }).objs.size=s.heap.objs.size+1:=Jo ..;have d:IsEnum ((s.heap.push { cls:=.type "tuple_iterator",data:=.fields #[.ref q,.int 0 0] }).push { cls:=.type "enumerate",data:=.fields #[.none,.bool false,.ref s.heap.objs.size,rawInt 0,.none,.none] }) (s.heap.objs.size+1) s.heap.objs.size 0 .none:=by
  have y:=Hk (s.heap.push { cls:=.type "tuple_iterator",data:=.fields #[.ref q,.int 0 0] }) (o:={ cls:=.type "enumerate",data:=.fields #[.none,.bool false,.ref s.heap.objs.size,rawInt 0,.none,.none] }) rfl;rw[z] at y;exact y
 show _/\_;rw[z];exact⟨⟨_,d,R⟩,k _ d ⟨_,GR _ (Hk _ rfl),R,R⟩ λb o y=>GR _ (GR _ y)⟩
end
def Sq(K:PySem.W.Frag)(b:Bool)(H:Hp)(a:Addr)(xs:List V):Prop:=if b=true then SqT K H a xs else SqL K H a xs
def lF(K:PySem.W.Frag)(b:Bool)(a:Addr):It:=
 ⟨λi H=>∃c x,Sq K b H a c/\c[i]?=some x,λi H x d=>∃T v,x=.ref T/\H T=none/\d=upd H T (.tup [.int i,v])/\∀c,Sq K b H a c->c[i]?=some v,λi H=>∃c,Sq K b H a c/\c.length=i⟩
def mE(b:Bool)(h:Heap)(it a:Addr)(i:Nat):Prop:=if b=true then h.IsTupleIter it a i else h.IsListIter it a i
section
variable{X:Cx}{pins:List (Addr × Obj)}{σ:St}{H:Hp}{s:Shared}
theorem Inv.turned2{h':Heap}{t':Nat}{e it T:Addr}{v:V}{u:Value}{i:Int}{tk:Tok}(I:Inv X pins σ H s)(g:gJ X pins H e)(h:gJ X pins H it)(p:s.heap.objs.size<=T)(y:RelV v u)
  (k:∀b o,b≠e->b≠it->s.heap.get? b=some o->h'.get? b=some o) (C:∃o,h'.get? e=some o) (D:∃o,h'.get? it=some o) (w:h'.get? T=some { cls:=.type "tuple",data:=.seq #[.int i tk,u] }):
  Inv X pins σ (upd H T (.tup [.int i,v])) { s with heap:=h',toks:=t' }:=by
 have j:H T=none:=I.hok.fresh p;have l:∀b o,H b=some o->b≠e/\b≠it:=λb o q=>⟨cY q g.1,cY q h.1⟩
 have A:Un (dh X.stack) [e,it] H (upd H T (.tup [.int i,v])) s.heap h':=by
  have f:∀b,b∉[e,it]->b≠e/\b≠it:=λb c=>⟨λz=>c (by simp[z]),λz=>c (by simp[z])⟩
  have x:∀b o,s.heap.get? b=some o->b≠T:=λb o q=>Hq (Hj (GS q) p);exact⟨λb o q _ _ d=>k b o (f b d).1 (f b d).2 q,λb o q _ _ d=>⟨o.slots,k b o (f b d).1 (f b d).2 q⟩,λb o q n _=>by rw[bR (x b o q)];exact n,λb o q d=>⟨o,k b o (f b d).1 (f b d).2 q⟩,
   λb t q=>by rw[bR (cY q j)];exact q,λb o t q=>by rw[bR (cY q j)];exact q,λb E q=>⟨#[],by rw[bR (cY q j),q];simp⟩⟩
 refine I.call (g':=s.gens) (d':=s.drawn) (ch:=[e,it]) A (λa o q=>?_) I.bare λb c=>?_
 ·by_cases m:a=T
  ·subst m;rw[bI] at q
   cases q
   exact⟨Ju (i8 (by show 2<=1000;decide)),[.int i tk,u],.cons ⟨tk,R⟩ (.cons y .nil),⟨_,w,R,_,R⟩⟩
  ·rw[bR m] at q;refine(I.hok a o q).stay (λb z c r=>k b z ?_ ?_ r) (λb r=>by rw[bR (cY r j)];exact r) λb t r=>by rw[bR (cY r j)];exact r
   ·rcases c with rfl|c
    ·exact(l _ _ q).1
    ·exact(l _ _ c).1
   ·rcases c with rfl|c
    ·exact(l _ _ q).2
    ·exact(l _ _ c).2
 ·rcases GI.mp c with z|z
  ·subst z;exact⟨g.2.2.2.1,g.2.1,g.2.2.2.2.1,g.2.2.2.2.2⟩
  ·have B:=GE.mp z;subst B;exact⟨h.2.2.2.1,h.2.1,h.2.2.2.2.1,h.2.2.2.2.2⟩
end
theorem Sq.inj{X:Cx}{c:List (Addr×Obj)}{d:St}{H:Hp}{s:Shared}{b:Bool}{a:Addr}{xs ys:List V}(I:Inv X c d H s)(h:Sq X.K b H a xs)(h':Sq X.K b H a ys):xs=ys:=by
 cases b with
 |true=>exact I.tuple_inj h h'
 |false=>exact I.list_inj h h'
theorem rc{b:Bool}{h:Heap}{it a:Addr}{i:Nat}(st:mE b h it a i):∃o,h.get? it=some o/\∀v,o.data≠.cell v:=by
 cases b with
 |true=>
  obtain⟨o,e,_,d⟩:=(show h.IsTupleIter it a i from st)
  exact⟨o,e,λv z=>by rw[d] at z;cases z⟩
 |false=>
  obtain⟨o,e,_,d⟩:=(show h.IsListIter it a i from st)
  exact⟨o,e,λv z=>by rw[d] at z;cases z⟩
theorem uC{X:Cx}{e:List (Addr×Obj)}{k:St}{H:Hp}{s:Shared}{b:Bool}{a it:Addr}{xs:List V}(I:Inv X e k H s)(g:X.A.handled=none)(j:Sq X.K b H a xs)(d:a≠it):
  ∃(c:List Value)(St:Nat->Heap->Prop),Vals xs c/\Draws X.prog X.w X.A.in1 it [it,a] c.toArray.size (λi v=>c.toArray[i]?=some v) St/\(∀i,mE b s.heap it a i->St i s.heap)/\∀i h,St i h->mE b h it a i:=by
 cases b with
 |true=>
  obtain⟨c,f,p,_⟩:=I.tuple j;exact⟨c,λi h=>h.IsTupleIter it a i/\h.IsTuple a c.toArray,f,E2 (A:=X.A.in1) g it a d c.toArray,λi st=>⟨st,p⟩,λi h st=>st.1⟩
 |false=>
  obtain⟨c,f,p,_⟩:=I.list j;exact⟨c,λi h=>h.IsListIter it a i/\h.IsList a c.toArray,f,Draws.list (A:=X.A.in1) g it a d c.toArray,λi st=>⟨st,p.isList⟩,λi h st=>st.1⟩
theorem Ec{P:Program}{w:World}{K:PySem.W.Frag}{l:List Expr}{k:Nat}{S:Pos}(b:Bool)(a e it:Addr)(f:e≠it)(M:a≠e)(m:a≠it):
  lE P w K (.Tuple l k S) (lF K b a) [e,it] e (λi h=>(∃d,IsEnum h e it (i:Int) d)/\mE b h it a i) where
 mem:=by simp
 obj:=λi h st c n=>by
  rcases GI.mp n with z|z
  ·subst z;obtain⟨d,q⟩:=st.1;exact⟨_,q,λv z=>by
    have z':Data.fields _=Data.cell v:=z
    cases z'⟩
  ·rw[GE.mp z];exact rc st.2
 keep:=λi h h' st r=>by
  obtain⟨⟨d,q⟩,st⟩:=st;refine⟨⟨d,r e (by simp) _ q⟩,?_⟩
  cases b with
  |true=>exact(show h.IsTupleIter it a i from st).at λo q=>r it (by simp) o q
  |false=>exact(show h.IsListIter it a i from st).at λo q=>r it (by simp) o q
 item:=by
  intro X L O J n i t s σ H E I p st N;subst L O J;obtain⟨⟨d,j⟩,st⟩:=st;obtain⟨xs,x,F,Q⟩:=N;obtain⟨C,St,U,D,Z,G⟩:=uC I (I.ok.hd n) F m;obtain⟨u,hu,ru⟩:=U.get Q;have aj:i<C.toArray.size:=by simpa using (GU.mp hu).1
  have fe:=p e (by simp);have fi:=p it (by simp);have ag:e<s.heap.objs.size:=GS j;refine wpAny_pyNext_enum_itemD D j (Z i st) aj f (by simp[f,Ij M]) λy g Y hy ho ah hT aB r=>?_;have ey:y=u:=by
   have z:C.toArray[i]?=some y:=hy;rw[Im,hu] at z;exact(HI z).symm
  subst ey;refine⟨_,R,wpAny_letOwnedTupleGo_enum ho λg2 af A=>?_⟩;have ak:∃o,g2.get? it=some o:=by
   obtain⟨o,q,_⟩:=rc (G _ _ ah);exact⟨o,(A.2 it (Ij f)).trans q⟩
  have I2:=I.turned2 (h':=g2) (t':=Y+1) (T:=s.heap.objs.size) (i:=(i:Int)) (tk:=Y) fe fi (GW _) ru (λc o h1 h2 q=>(A.2 c h1).trans (r c o h1 h2 q)) ⟨_,af⟩ ak ((A.2 _ (Io ag)).trans hT);refine⟨.ref s.heap.objs.size,_,I2,R,⟨_,x,R,I.hok.fresh (GW _),R,λys ai=>by rw[Sq.inj I ai F];exact Q⟩,⟨⟨y,af⟩,?_⟩,λc B=>?_⟩
  ·have z:=G _ _ ah
   cases b with
   |true=>exact(show g.IsTupleIter it a (i+1) from z).at λo q=>(A.2 it (Ij f)).trans q
   |false=>exact(show g.IsListIter it a (i+1) from z).at λo q=>(A.2 it (Ij f)).trans q
  ·have nz:H c=none:=(p c B).1;have cl:c<s.heap.objs.size:=by
    rcases GI.mp B with z|z
    ·rw[z];exact ag
    ·rw[GE.mp z];obtain⟨o,q,_⟩:=rc st;exact GS q
   rw[bR (Hq cl)];exact nz
 done:=by
  intro X L O J n i t s σ H E I p st N;subst L O J;obtain⟨⟨d,j⟩,st⟩:=st;obtain⟨xs,F,Q⟩:=N;obtain⟨C,St,U,D,Z,G⟩:=uC I (I.ok.hd n) F m;obtain⟨f0,f1,f2,f3,f4,f5⟩:=p it (by simp);have hl:=U.length;have e1:i=C.toArray.size:=by
   rw[Hb];omega
  refine wpAny_pyNext_enum_endD D j (by rw[<-e1];exact Z i st) λg eb=>⟨R,I.turned (t':=s.toks) (λc o B q=>eb c o B q) f0 f1 f3 f4 f5⟩
 self:=λ_ _ _ _ _ st h=>by
  obtain⟨⟨d,j⟩,_⟩:=st;exact wpAny_pyIter_enum j h
def AH(K:PySem.W.Frag)(d:TA):TI:=λg H R=>d g H λe c=>∃(b:Bool)(a:Addr),e=[.ref a]/\(∃f,Sq K b c a f)/\R (lF K b a) c
theorem oj{X:Cx}{i:List Expr}{k:Nat}{t p l:Pos}{a:Expr}{E:TA}(L:Gl X "enumerate")(M:X.mg "enumerate" = none)(G:PA X [a] E)(N:starEach [a] X.env=[(false,eval a X.env)]:=by rfl):
  PI X (.Tuple i k t) (.Call (.Name "enumerate" p) [a] [] l) (AH X.K E):=by
 intro j s F H R I h;refine Call_ (jK I L M PyProof.Rows.boot_enumerate (IM (bZ (G l j s F H _ I h) λS f ⟨T,H1,I1,r1,q1⟩=>?_) N rfl));obtain⟨b,c,rfl,⟨U,B⟩,q⟩:=q1;obtain⟨u,rfl,P⟩:=fD r1
 cases P
 have v:∀g:Heap,IsEnum g (f.heap.objs.size+1) f.heap.objs.size 0 .none->mE b g f.heap.objs.size c 0->(∀d o,f.heap.get? d=some o->g.get? d=some o)->c<f.heap.objs.size ->
   wpAny (model X.prog X.w) X.A (pyIter (.ref (f.heap.objs.size+1))) (oN X j F (.Tuple i k t) R) X.xe { f with heap:=g }:=λg m n r cl=>by
  refine wpAny_pyIter_enum m ?_;refine⟨f.heap.objs.size+1,[f.heap.objs.size+1,f.heap.objs.size],_,_,H1,rfl,I1.kept (t':=f.toks) r,Ec b c _ _ (Nat.succ_ne_self _) (Hq (IL cl)) (Hq cl),⟨⟨.none,m⟩,n⟩,λd J=>?_,q⟩;have C:f.heap.objs.size<=d:=by
   rcases GI.mp J with z|z
   ·rw[z];exact Ld _
   ·rw[GE.mp z];exact GW _
  exact I1.fpOk C (I1.hok.fresh C)
 cases b with
 |true=>
  obtain⟨x,Q,D,_⟩:=I1.tuple B;exact DN (show f.heap.IsTuple c x.toArray from D) λg m n r=>v g m n r D.lt
 |false=>
  obtain⟨x,Q,O,_⟩:=I1.list B;have y:=O.isList;exact call_enumerate_list y λg m n _ r=>v g m n r (by obtain⟨o,e,_⟩:=y;exact GS e)
theorem nP{K:PySem.W.Frag}{b:Bool}{a:Addr}{xs:List V}{g:TG}{tb:TS}{D:Ends}{c:St}{H:Hp}(d:Nat->St->Hp->Prop)(o:d 0 c H)(u:∀i c H,i<=xs.length->d i c H->Sq K b H a xs)
  (w:∀i x c H,xs[i]?=some x->d i c H->∀T,H T=none->g (.ref T) c (upd H T (.tup [.int i,x])) λj k=>tb { D with nx:=d (i+1),ct:=d (i+1),bk:=D.nx } j k) (s:∀c H,d xs.length c H->D.nx c H):
  ∃W:Nat->Nat->St->Hp->Prop,(∃m,W 0 m c H)/\∀i m c H,W i m c H ->
   ((lF K b a).stop i H/\D.nx c H)\/((lF K b a).go i H/\∃N:St->Hp->Prop,(∀h f,N h f->∃n,n<m/\W (i+1) n h f)/\∀x f,(lF K b a).yld i H x f->g x c f λj k=>tb { D with nx:=N,ct:=N,bk:=D.nx } j k):=by
 refine⟨λi m c H=>m=xs.length-i/\i<=xs.length/\d i c H,⟨xs.length,by simp,Iv _,o⟩,?_⟩;rintro i m c H ⟨rfl,t,p⟩;have q:=u i c H t p;by_cases l:i<xs.length
 ·refine .inr ⟨⟨xs,xs[i],q,by simp[l]⟩,d (i+1),λh f A=>⟨xs.length-(i+1),by omega,R,l,A⟩,λx f y=>?_⟩;obtain⟨T,v,rfl,r,rfl,z⟩:=y;exact w i v c H (z xs q) p T r
 ·have e:i=xs.length:=by omega
  subst e;exact .inl ⟨⟨xs,q,R⟩,s c H p⟩
end L2
namespace L2
open PySem PySem.Spec PyProof.Rows
section
variable{X:Cx}
theorem ud:eM X (.builtin "sorted") (λxs H Q=>∃(p:Addr)(ns:List Int),xs=[.ref p]/\SqL X.K H p (ns.map V.int)/\ns.length<64/\∀a:List Int,a.Perm ns->a.Pairwise (·<=·)->∀l,H l=none->Q (.ref l) (upd H l (.lst (a.map V.int)))):=by
 intro g s C H xs B Q I r h;obtain⟨p,ns,rfl,x,A,q⟩:=h;obtain⟨u,rfl,z⟩:=fD r
 cases z
 obtain⟨n,i,y,f⟩:=I.list x;have m:=i.length;rw[Gz] at m f;refine sorted_ints y.isList (nG i) (by omega) λc a j d k=>?_;obtain⟨e,t⟩:=sortedAll_at s.heap n c;have v:a.length=ns.length:=d.length_eq;refine⟨.ref (s.heap.objs.size+1),_,I.laid (t':=s.toks) (λb o=>sortedAll_old) (Ld _) (show ObjOk X.prog X.w _ _ _ (.lst (a.map V.int)) from⟨by rw[Gz,v];exact f,c.toList,e,nN j,t⟩),R,q a d k _ (I.hok.fresh (Ld _))⟩
theorem vS:eM X (.type "range") (λxs H Q=>∃i j:Int,xs=[.int i,.int j]/\∀p,H p=none->Q (.ref p) (upd H p (.rng i j))):=by
 intro a s g H xs d Q I r h;obtain⟨i,j,rfl,q⟩:=h;obtain⟨u,f,rfl,⟨t,rfl⟩,⟨c,rfl⟩⟩:=mB r;refine call_range_2 ⟨.ref s.heap.objs.size,_,I.laid (λb o e=>GR _ e) (GW _) (show ObjOk X.prog X.w _ _ _ (.rng i j) from⟨t,c,_,Hk _ rfl⟩),R,q _ (I.hok.fresh (GW _))⟩
theorem wK{P:Nat->Value->Prop}{f:Nat->V}(a:∀i v,P i v->RelV (f i) v):∀(n k:Nat)(l:List Value),l.length=n->(∀j v,l[j]?=some v->P (k+j) v)->Vals ((List.range' k n).map f) l
 |0,k,[],_,_=>.nil
 |n+1,k,v::r,hl,h=>by
  rw[Lo,HD];refine .cons (a _ _ (h 0 v rfl)) (wK a n (k+1) r (by simpa using hl) λj b e=>?_);have:=h (j+1) b (by simpa using e);rw[show k+1+j=k+(j+1) by omega];exact this
 |0,_,_::_,hl,_=>by simp at hl
 |n+1,_,[],hl,_=>by simp at hl
theorem tG(z:X.calm=true):eM X (.type "list") (λxs H Q=>∃(p:Addr)(lo hi:Int),xs=[.ref p]/\H p=some (.rng lo hi)/\-(2^62)<=lo/\lo<2^62/\-(2^62)<=hi/\hi<2^62/\(hi-lo).toNat<=1000/\∀l,H l=none->Q (.ref l) (upd H l (.lst ((List.range' 0 (hi-lo).toNat).map λi:Nat=>V.int (lo+i))))):=by
 intro d s N H xs M Q I r h;obtain⟨p,lo,hi,rfl,B,k,m,n,o,b,q⟩:=h;obtain⟨u,rfl,F⟩:=fD r
 cases F
 obtain⟨t,u,v,e⟩:=(show ObjOk X.prog X.w H s.heap p (.rng lo hi) from I.hok p _ B)
 have A:Builtin.Range.rangeSize lo hi 1=(((hi-lo).toNat:Nat):Int):=by
  rw[rangeSize_one]
  split<;>omega
 refine call_list_range (I.ok.hd z) e (small_one k m n o) A (Hm b (by decide)) λg J a c E x f=>?_;obtain⟨G,D⟩:=f;have L:Vals ((List.range' 0 (hi-lo).toNat).map λi:Nat=>V.int (lo+i)) a.toList:=by
  refine wK (P:=λi v=>∃t,v=.int (lo+i*1) t) (λi v C=>?_) _ 0 a.toList (by simpa using G) λj v y=>?_
  ·obtain⟨t,rfl⟩:=C;exact⟨t,by rw[Int.mul_one]⟩
  ·have:=D j v (by simpa using y);rw[Nat.zero_add];exact this
 refine⟨.ref s.heap.objs.size,_,I.laid (t':=J) E (GW _) (show ObjOk X.prog X.w _ _ _ (.lst _) from⟨?_,a.toList,c,L,x⟩),R,q _ (I.hok.fresh (GW _))⟩;rw[Gz,IN];exact Ju (i8 b)
open AutoSeq1 (wpAny_loadPart') in
theorem DJ(l:Addr)(c:Array Value)(n:Nat)(b:Addr)(a:Array Value)(k:Nat)(e:Option Addr)(sl:Array (Option Value))(r:¬(!c.isEmpty&&Builtin.List.listTooLong (c.size+a.size))=true)(h1:c.size<=sizeLine)(i:c.size+a.size<=sizeLine+1):
  Meets (Builtin.«list.extend» ⟨[.ref l,.ref b],[]⟩) (λ_ R s=>s.heap.get? l=some { cls:=.type "list",dict:=none,data:=.seq c n,slots:=#[] }/\s.heap.get? b=some { cls:=.type "tuple",dict:=e,data:=.seq a k,slots:=sl }/\R (.ok (.ret Value.none)) { s with heap:=s.heap.update l (Obj.mapSeq λx=>x++a),toks:=s.toks }):=
 .of_wp λprog w A R s h=>by
  obtain⟨t,g,d,tk,os⟩:=s;obtain⟨f,j,h⟩:=h;have m:=sub_tuple_tuple;have o:=sub_list_list;have p:=sub_tuple_list;have q:=sub_list_tuple;have hz:(c++a).size<=sizeLine+1:=by
   rw[Array.size_append];exact i
  wp_walk using (KO f rfl (hz:=h1) (_hz':=hz)),Jm f,Jm j
  exact⟨_,rfl,h⟩
theorem uE:lG X "list.extend" (λx m H Q=>∃l b xs c,x=.ref l/\m=[.ref b]/\H l=some (.lst xs)/\H b=some (.tup c)/\xs.length+c.length<=sizeLine/\Q .non (upd H l (.lst (xs++c)))):=by
 intro j s P H x m v N Q I G E h;obtain⟨l,b,xs,c,rfl,rfl,g,C,M,q⟩:=h
 cases G
 obtain⟨u,rfl,D⟩:=E.one
 cases D
 obtain⟨z,d,n,r,L,e⟩:=I.lstM g;obtain⟨a,k,⟨⟨y,A,o,t⟩,B,p,i,w⟩,O⟩:=I.tuple (.inl (.inl C))
 cases(show y=.type "tuple" from p)
 cases(show o=.seq a.toArray i from w)
 have J:=k.length;have f:d.toArray.size+a.toArray.size<=sizeLine:=by rw[Hb,Hb];omega
 refine J2 F.slot_list_extend ⟨_,e,R⟩ F.entry_list_extend (F.args_list_extend_2 _ _) (DJ l d.toArray n b a.toArray i A t (by rw[vI f,LC];exact Hh) (by rw[Hb];omega) (by omega)) ⟨e,B,?_⟩;refine⟨.non,_,I.lset (its':=d++a) g e (by simp) (r.append k) ?_,R,q⟩;rw[GC];omega
def B1(K:PySem.W.Frag)(d:TE):TI:=λe H R=>d e H λx b=>∃a,x=.ref a/\(((∃c,SqL K b a c)/\R (gP K a) b)\/((∃c,SqT K b a c)/\R (jT K a) b))
theorem Ar{r l:Expr}{j:TE}(k:PE X l j):PI X r l (B1 X.K j):=by
 intro d s u H R I h;refine bZ (k d s u H _ I h) λv c ⟨x,H1,I1,r1,q1⟩=>?_;obtain⟨a,rfl,q⟩:=q1
 cases r1
 rcases q with⟨⟨t,g⟩,q⟩|⟨⟨t,g⟩,q⟩
 ·obtain⟨i,n,p,m⟩:=I1.list g;refine Kz p.isList ⟨c.heap.objs.size,[c.heap.objs.size],_,_,H1,rfl,I1.kept (t':=c.toks) λb o e=>GR _ e,vB a _,⟨_,Hk _ rfl,rfl,rfl⟩,λb f=>?_,q⟩;rw[GE.mp f];exact I1.fpOk (GW _) (I1.hok.fresh (GW _))
 ·obtain⟨i,n,p,m⟩:=I1.tuple g;refine JS (show c.heap.IsTuple a i.toArray from p) ⟨c.heap.objs.size,[c.heap.objs.size],_,_,H1,rfl,I1.kept (t':=c.toks) λb o e=>GR _ e,uo a _,⟨_,Hk _ rfl,rfl,rfl⟩,λb f=>?_,q⟩;rw[GE.mp f];exact I1.fpOk (GW _) (I1.hok.fresh (GW _))
end
section
variable{X:Cx}{K:PySem.W.Frag}
theorem cO(h:X.K=K:=by rfl):jU X (sV K):=h▸zF
theorem cD(h:X.K=K:=by rfl):jU X (oY K):=h▸yH
theorem da(h:X.K=K:=by rfl):eM X (.builtin "len") (λb H Q=>∃p a,b=[.ref p]/\(SqL K H p a\/SqT K H p a)/\Q (.int a.length) H):=h▸CM
theorem ss(h:X.K=K:=by rfl):dG X (compareOp .In) (mJ K false):=h▸EY
theorem ik(h:X.K=K:=by rfl):eM X (.builtin "isinstance") (λa H Q=>∃(x:V)(T C:String)(b:Bool),a=[x,.ty C]/\fN K H x (.type T)/\cW T C=some b/\Q (.bl b) H):=h▸Ge
end
mutual
def Dn(H:Hp):PyData->V->Prop
 |.none,v=>v=.non
 |.bool b,v=>v=.bl b
 |.int i,v=>v=.int i
 |.str x,v=>v=.str x
 |.list ds,v=>∃a xs,v=.ref a/\H a=some (.lst xs)/\DnL H ds xs
 |.tuple ds,v=>∃a xs,v=.ref a/\H a=some (.tup xs)/\DnL H ds xs
 |.dict kvs,v=>kvs=[]/\∃a,v=.ref a/\H a=some (.dK [])
def DnL(H:Hp):List PyData->List V->Prop
 |[],xs=>xs=[]
 |d::ds,xs=>∃x r,xs=x::r/\Dn H d x/\DnL H ds r
end
mutual
theorem Dn.same{H b:Hp}(h:Same H b):∀(d:PyData)(v:V),Dn H d v->Dn b d v
 |.none,_,q=>q
 |.bool _,_,q=>q
 |.int _,_,q=>q
 |.str _,_,q=>q
 |.list ds,_,⟨a,xs,e,q,r⟩=>⟨a,xs,e,h _ _ q,DnL.same h ds xs r⟩
 |.tuple ds,_,⟨a,xs,e,q,r⟩=>⟨a,xs,e,h _ _ q,DnL.same h ds xs r⟩
 |.dict _,_,⟨e,a,q,r⟩=>⟨e,a,q,h _ _ r⟩
theorem DnL.same{H b:Hp}(h:Same H b):∀(a:List PyData)(xs:List V),DnL H a xs->DnL b a xs
 |[],_,q=>q
 |d::a,_,⟨x,r,e,q,z⟩=>⟨x,r,e,Dn.same h d x q,DnL.same h a r z⟩
end
theorem DnL.length{H:Hp}:∀{a:List PyData} {xs:List V},DnL H a xs->a.length=xs.length
 |[],_,q=>by cases(show _=[] from q);rfl
 |d::a,_,⟨x,r,e,_,z⟩=>by rw[e,GN,GN,DnL.length z]
theorem DnL.get{H:Hp}:∀{a:List PyData} {xs:List V} {i:Nat} {x:V},DnL H a xs->xs[i]?=some x->∃d,a[i]?=some d/\Dn H d x
 |[],_,i,x,q,e=>by rw[(show _=[] from q)] at e;simp at e
 |d::a,_,0,x,⟨y,r,e,q,z⟩,h=>by rw[e] at h;cases h;exact⟨d,rfl,q⟩
 |d::a,_,i+1,x,⟨y,r,e,q,z⟩,h=>by
  rw[e] at h;obtain⟨d',h1,b⟩:=DnL.get (i:=i) z (by simpa using h);exact⟨d',by simpa using h1,b⟩
theorem DnL.get'{H:Hp}:∀{a:List PyData} {xs:List V} {i:Nat} {d:PyData},DnL H a xs->a[i]?=some d->∃x,xs[i]?=some x/\Dn H d x
 |[],_,i,x,q,e=>by simp at e
 |d::a,_,0,x,⟨y,r,e,q,z⟩,h=>by cases h;exact⟨y,by rw[e];rfl,q⟩
 |d::a,_,i+1,x,⟨y,r,e,q,z⟩,h=>by
  obtain⟨d',h1,b⟩:=DnL.get' (i:=i) z (by simpa using h);exact⟨d',by rw[e];simpa using h1,b⟩
theorem DnL.append{H:Hp}:∀{b a:List PyData} {xs ys:List V},DnL H b xs->DnL H a ys->DnL H (b++a) (xs++ys)
 |[],a,xs,ys,q,r=>by rw[(show xs=[] from q)];exact r
 |d::b,a,_,ys,⟨x,t,e,q,z⟩,r=>⟨x,t++ys,by rw[e];rfl,q,DnL.append z r⟩
mutual
theorem Dn.reads{X:Cx}{g:List (Addr×Obj)}{p:St}{H:Hp}{s:Shared}(I:Inv X g p H s):∀(d:PyData)(v:V)(u:Value),Dn H d v->d.canLay0=true->RelV v u->∃as,Reads s.heap u d as
 |.none,v,u,q,_,r=>by cases(show v=.non from q);cases(show u=Value.none from r);exact⟨_,.none⟩
 |.bool b,v,u,q,_,r=>by cases(show v=.bl b from q);cases(show u=Value.bool b from r);exact⟨_,.bool b⟩
 |.int i,v,u,q,_,r=>by cases(show v=.int i from q);obtain⟨t,rfl⟩:=(show ∃t,u=Value.int i t from r);exact⟨_,.int i t⟩
 |.str x,v,u,q,_,r=>by cases(show v=.str x from q);obtain⟨t,rfl⟩:=(show ∃t,u=Value.str x t from r);exact⟨_,.str x t⟩
 |.list ds,_,u,⟨a,xs,rfl,q,z⟩,c,r=>by
  cases(show u=Value.ref a from r)
  obtain⟨_,f,n,j,e⟩:=(show ObjOk X.prog X.w H s.heap a (.lst xs) from I.hok a _ q)
  obtain⟨as,h⟩:=DnL.reads I ds xs f z (by simpa [PyData.canLay0] using c) j;exact⟨_,.list e rfl rfl (by simpa using h)⟩
 |.tuple ds,_,u,⟨a,xs,rfl,q,z⟩,c,r=>by
  cases(show u=Value.ref a from r)
  obtain⟨_,f,j,o,e,l,n,m⟩:=(show ObjOk X.prog X.w H s.heap a (.tup xs) from I.hok a _ q)
  obtain⟨as,h⟩:=DnL.reads I ds xs f z (by simpa [PyData.canLay0] using c) j;exact⟨_,.tuple e l m (by simpa using h)⟩
 |.dict k,v,u,_,c,_=>by simp[PyData.canLay0] at c
theorem DnL.reads{X:Cx}{b:List (Addr×Obj)}{i:St}{H:Hp}{s:Shared}(I:Inv X b i H s):∀(a:List PyData)(xs:List V)(e:List Value),DnL H a xs->PyData.canLayAll0 a=true->Vals xs e->∃as,ReadsAll s.heap e a as
 |[],xs,e,q,_,r=>by
  cases(show xs=[] from q)
  cases r
  exact⟨_,.nil⟩
 |d::a,_,e,⟨x,t,rfl,q,z⟩,c,r=>by
  cases r with
  |cons rx rt=>
   have f:PyData.canLay0 d=true/\PyData.canLayAll0 a=true:=by simpa [PyData.canLayAll0] using c
   obtain⟨j,g⟩:=Dn.reads I d x _ q f.1 rx;obtain⟨k,h⟩:=DnL.reads I a t _ z f.2 rt;exact⟨_,.cons g h⟩
end
theorem uG{X:Cx}(i:X.A.units+64<cLine):dG X (compareOp .NotEq) (λx y H Q=>∃d e:PyData,Dn H d x/\Dn H e y/\SeqAt.shaped d=true/\SeqAt.shaped e=true/\Q (.bl (!PyData.eqv d e)) H):=by
 intro a s p H x y v u Q I l m h;obtain⟨d,e,f,g,b,c,q⟩:=h;obtain⟨n,j⟩:=Dn.reads I d x v f (Jv b) l;obtain⟨o,k⟩:=Dn.reads I e y u g (Jv c) m;exact ne_dataH j k b c i ⟨.bl _,H,I,R,q⟩
mutual
theorem ww:∀d:PyData,d.canLay0=true->PyData.eqv d d=true
 |.none,_=>by simp[PyData.eqv]
 |.bool _,_=>by simp[PyData.eqv]
 |.int _,_=>by simp[PyData.eqv]
 |.str _,_=>by simp[PyData.eqv]
 |.list ds,c=>by simpa [PyData.eqv] using qj ds (by simpa [PyData.canLay0] using c)
 |.tuple ds,c=>by simpa [PyData.eqv] using qj ds (by simpa [PyData.canLay0] using c)
 |.dict _,c=>by simp[PyData.canLay0] at c
theorem qj:∀a:List PyData,PyData.canLayAll0 a=true->PyData.eqvAll a a=true
 |[],_=>by simp[PyData.eqvAll]
 |d::a,c=>by
  have b:PyData.canLay0 d=true/\PyData.canLayAll0 a=true:=by simpa [PyData.canLayAll0] using c
  simp[PyData.eqvAll,ww d b.1,qj a b.2]
end
end L2
namespace Wd
open PySem L2
def kt:PyData->String
 |.none => "NoneType" | .bool _ => "bool" | .int _ => "int" | .str _ => "str" | .list _ => "list" | .tuple _ => "tuple" | .dict _ => "dict"
def jy:PyData->Bool
 |.int _=>true
 |_=>false
def isInt:PyData->Bool
 |.int _=>true
 |.bool _=>true
 |_=>false
def xI:PyData->Bool
 |.bool _=>true
 |_=>false
def sE:PyData->Bool
 |.tuple _=>true
 |_=>false
def sq:PyData->Bool
 |.list _=>true
 |_=>false
def AC:PyData->Bool
 |.str _=>true
 |_=>false
theorem kg{K:PySem.W.Frag}{H:Hp}:∀{d:PyData} {v:V},Dn H d v->fN K H v (.type (kt d))
 |.none,v,q=>by cases(show v=.non from q);exact .non
 |.bool b,v,q=>by cases(show v=.bl b from q);exact .bl b
 |.int i,v,q=>by cases(show v=.int i from q);exact .int i
 |.str x,v,q=>by cases(show v=.str x from q);exact .str x
 |.list ds,_,⟨a,xs,rfl,q,_⟩=>.lst q
 |.tuple ds,_,⟨a,xs,rfl,q,_⟩=>.tup q
 |.dict k,_,⟨_,a,rfl,q⟩=>.dK q
theorem Ap:∀d:PyData,cW (kt d) "int" = some (isInt d)
 |.none=>(by decide +kernel:cW "NoneType" "int" = some false)
 |.bool _=>(by decide +kernel:cW "bool" "int" = some true)
 |.int _=>(by decide +kernel:cW "int" "int" = some true)
 |.str _=>(by decide +kernel:cW "str" "int" = some false)
 |.list _=>(by decide +kernel:cW "list" "int" = some false)
 |.tuple _=>(by decide +kernel:cW "tuple" "int" = some false)
 |.dict _=>(by decide +kernel:cW "dict" "int" = some false)
theorem yQ:∀d:PyData,cW (kt d) "bool" = some (xI d)
 |.none=>(by decide +kernel:cW "NoneType" "bool" = some false)
 |.bool _=>(by decide +kernel:cW "bool" "bool" = some true)
 |.int _=>(by decide +kernel:cW "int" "bool" = some false)
 |.str _=>(by decide +kernel:cW "str" "bool" = some false)
 |.list _=>(by decide +kernel:cW "list" "bool" = some false)
 |.tuple _=>(by decide +kernel:cW "tuple" "bool" = some false)
 |.dict _=>(by decide +kernel:cW "dict" "bool" = some false)
theorem xt:∀d:PyData,cW (kt d) "tuple" = some (sE d)
 |.none=>(by decide +kernel:cW "NoneType" "tuple" = some false)
 |.bool _=>(by decide +kernel:cW "bool" "tuple" = some false)
 |.int _=>(by decide +kernel:cW "int" "tuple" = some false)
 |.str _=>(by decide +kernel:cW "str" "tuple" = some false)
 |.list _=>(by decide +kernel:cW "list" "tuple" = some false)
 |.tuple _=>(by decide +kernel:cW "tuple" "tuple" = some true)
 |.dict _=>(by decide +kernel:cW "dict" "tuple" = some false)
theorem Am:∀d:PyData,cW (kt d) "str" = some (AC d)
 |.none=>(by decide +kernel:cW "NoneType" "str" = some false)
 |.bool _=>(by decide +kernel:cW "bool" "str" = some false)
 |.int _=>(by decide +kernel:cW "int" "str" = some false)
 |.str _=>(by decide +kernel:cW "str" "str" = some true)
 |.list _=>(by decide +kernel:cW "list" "str" = some false)
 |.tuple _=>(by decide +kernel:cW "tuple" "str" = some false)
 |.dict _=>(by decide +kernel:cW "dict" "str" = some false)
theorem xw:∀d:PyData,cW (kt d) "list" = some (sq d)
 |.none=>(by decide +kernel:cW "NoneType" "list" = some false)
 |.bool _=>(by decide +kernel:cW "bool" "list" = some false)
 |.int _=>(by decide +kernel:cW "int" "list" = some false)
 |.str _=>(by decide +kernel:cW "str" "list" = some false)
 |.list _=>(by decide +kernel:cW "list" "list" = some true)
 |.tuple _=>(by decide +kernel:cW "tuple" "list" = some false)
 |.dict _=>(by decide +kernel:cW "dict" "list" = some false)
def dI(d:PyData)(lo hi:Int):Bool:=match d with
 |.int i=>decide (lo<=i)&&decide (i<=hi)
 |_=>false
def hU(d:PyData)(n:Int):Bool:=match d with
 |.tuple ds=>decide ((ds.length:Int)=n)
 |_=>false
def gE(d:PyData):Bool:=match d with
 |.tuple ds=>decide (0<ds.length)
 |_=>false
def cZ(many:Int):List PyData->Int->Bool
 |[],_=>true
 |.int i::ds,last=>decide (last+1<=i)&&decide (i<=many-1)&&cZ many ds i
 |_::_,_=>false
def lD(many:Int):PyData->PyData->Bool
 |.int up,.tuple ks=>cZ many ks up
 |_,_=>false
def oF(h:PyData):PyData->Bool
 |.tuple ks=>dI h 1 ks.length
 |_=>false
def mO(l:PyData):PyData->Bool
 |.int hi=>dI l 0 hi
 |_=>false
def gF(many:Int)(d:PyData):Bool:=match d with
 |.tuple [u,l,h,k]=>dI u 0 (many-1)&&(gE k&&(lD many u k&&(oF h k&&mO l h)))
 |_=>false
def fX:PyData->PyData
 |.tuple (x::_)=>x
 |_=>.none
def gI:PyData->Bool
 |.tuple [_,n]=>jy n
 |_=>false
def lV(many:Int)(d:PyData):Bool:=match d with
 |.tuple ds=>decide (0<ds.length)&&ds.all gI&&cZ many (ds.map fX) (-1)
 |_=>false
def su:PyData->PyData->Bool
 |.int i,.int j=>!decide (i=j)
 |_,_=>false
def gu(many:Int)(s:Str)(x y:PyData):Bool:=if s=("most" : Str) then jy x&&lV many y else if s=("needs" : Str)\/s=("bans" : Str) then dI x 0 (many-1)&&(dI y 0 (many-1)&&su x y) else false
def mL(many:Int)(x y:PyData):PyData->Bool
 |.str s=>gu many s x y
 |_=>false
def fm(many:Int)(d:PyData):Bool:=match d with
 |.tuple [k,x,y]=>mL many x y k
 |_=>false
def kr:PyData->Int
 |.int i=>i
 |_=>0
def eH:PyData->List Int
 |.tuple [_,_,_,.tuple ks]=>ks.map kr
 |_=>[]
structure hV(many:Int)(bs:List PyData):Prop where
 each:∀b∈bs,gF many b=true
 kids:(bs.flatMap eH).Perm ((List.range' 0 (many-1).toNat).map λi:Nat=>(1:Int)+i)
theorem bL{H:Hp}{p:Addr}(h:H p=none)(o:HO):Same H (upd H p o):=rM λb u q=>by rw[bR (cY q h)];exact q
theorem bT{n:Nat}(h:n<=1000):n<=sizeLine:=Ju (i8 h)
theorem ji{H:Hp}{i:Int}{v:V}(h:Dn H (.int i) v):v=.int i:=h
theorem iP{H:Hp}{b:List PyData}{v:V}(h:Dn H (.tuple b) v):∃a xs,v=.ref a/\H a=some (.tup xs)/\DnL H b xs:=h
theorem rz{d:PyData}(h:jy d=true):∃i,d=.int i:=by
 cases d<;>first|exact⟨_,R⟩|cases h
theorem uY{d:PyData}(h:sE d=true):∃a,d=.tuple a:=by
 cases d<;>first|exact⟨_,R⟩|cases h
theorem bW{K:PySem.W.Frag}{H:Hp}{a:Addr}{xs:List V}(h:H a=some (.tup xs)):SqT K H a xs:=.inl (.inl h)
theorem fg{x:V}{r:List V}:eJ (x::r) 0=some x:=cS (j:=0) rfl
theorem fO{x y:V}{r:List V}:eJ (x::y::r) 1=some y:=cS (j:=1) rfl
theorem gQ{x y z:V}{r:List V}:eJ (x::y::z::r) 2=some z:=cS (j:=2) rfl
theorem mI{x y z w:V}{r:List V}:eJ (x::y::z::w::r) 3=some w:=cS (j:=3) rfl
theorem iu{d:PyData}{lo hi:Int}(h:dI d lo hi=true):∃i,d=.int i/\lo<=i/\i<=hi:=by
 cases d with
 |int i=>
  have z:(decide (lo<=i)&&decide (i<=hi))=true:=h;simp only[Ha,IF] at z;exact⟨i,R,z.1,z.2⟩
 |_=>cases h
theorem m8{d:PyData}(h:gE d=true):∃a,d=.tuple a/\0<a.length:=by
 cases d with
 |tuple a=>exact⟨a,rfl,GJ h⟩
 |_=>cases h
theorem qB{d:PyData}{n:Nat}(h:hU d n=true):∃a,d=.tuple a/\a.length=n:=by
 cases d with
 |tuple a=>
  have z:((a.length:Int)=(n:Int)):=GJ h;exact⟨a,R,by omega⟩
 |_=>cases h
theorem uc{many:Int}:∀{ks:List PyData} {a:Int},cZ many ks a=true->ks=(ks.map kr).map PyData.int
 |[],_,_=>rfl
 |.int i::ks,a,h=>by
  have z:(decide (a+1<=i)&&decide (i<=many-1)&&cZ many ks i)=true:=h;rw[Ha] at z;show PyData.int i::ks=PyData.int i::(ks.map kr).map PyData.int;rw[<-uc z.2]
 |.none::_,_,h=>by cases h
 |.bool _::_,_,h=>by cases h
 |.str _::_,_,h=>by cases h
 |.list _::_,_,h=>by cases h
 |.tuple _::_,_,h=>by cases h
 |.dict _::_,_,h=>by cases h
theorem vQ{H:Hp}:∀{ns:List Int} {xs:List V},DnL H (ns.map PyData.int) xs->xs=ns.map V.int
 |[],xs,h=>h
 |n::r,_,⟨x,t,rfl,hx,ht⟩=>by rw[vQ ht,ji hx];rfl
theorem vW{H:Hp}:∀(ns:List Int),DnL H (ns.map PyData.int) (ns.map V.int)
 |[]=>rfl
 |n::r=>⟨_,_,rfl,rfl,vW r⟩
theorem qb(lo:Int):∀(n k:Nat),(((List.range' k n).map λi:Nat=>lo+(i:Int))).Pairwise (·<=·)
 |0,_=>List.Pairwise.nil
 |n+1,k=>by
  rw[Lo,HD];refine List.Pairwise.cons (λb a=>?_) (qb lo n (k+1));obtain⟨i,hi,rfl⟩:=Hc.mp a;have:=(Lb.mp hi).1;omega
end Wd
namespace Ow
open PySem L2 Wd
def yK:Sp:=λa H Q _=>∃(d:PyData)(v:V),a=[v]/\Dn H d v/\Q (.bl (jy d)) H
def FW:Sp:=λb H Q _=>∃(d:PyData)(v:V)(lo a:Int),b=[v,.int lo,.int a]/\Dn H d v/\Q (.bl (dI d lo a)) H
def F2:Sp:=λb H Q _=>∃(d:PyData)(v:V)(a:Int),b=[.int a,v]/\Dn H d v/\Q (.bl (dI d 0 (a-1))) H
def Gm:Sp:=λa H Q _=>∃(d:PyData)(v:V)(n:Int),a=[v,.int n]/\Dn H d v/\Q (.bl (hU d n)) H
def Ax:Sp:=λa H Q _=>∃(d:PyData)(v:V),a=[v]/\Dn H d v/\Q (.bl (gE d)) H
def Fh(K:PySem.W.Frag):Sp:=λg H Q _=>∃(d c:Int)(a:Addr)(b:Bool)(e:List PyData)(f:List V),g=[.int d,.ref a,.int c]/\Sq K b H a f/\DnL H e f/\Q (.bl (cZ d e c)) H
def yF:Sp:=λb H Q _=>∃(d:PyData)(v:V)(a:Int),b=[.int a,v]/\Dn H d v/\Q (.bl (gF a d)) H
def sF:PyData->Prop
 |.tuple ds=>ds.length<=1000
 |_=>True
def ka:PyData->Prop
 |.tuple (_::_::y::_)=>sF y
 |_=>True
def yL:Sp:=λc H Q _=>∃(d:PyData)(v:V)(a:Int),c=[.int a,v]/\Dn H d v/\sF d/\∀b,Same H b->Q (.bl (lV a d)) b
def AQ:Sp:=λc H Q _=>∃(d:PyData)(v:V)(a:Int),c=[.int a,v]/\Dn H d v/\ka d/\∀b,Same H b->Q (.bl (fm a d)) b
def AX(many:Int)(d:PyData)(r:List PyData):Bool:=match d with
 |.int j=>cZ many r j
 |_=>false
theorem uP{many a:Int}{b:List PyData}{i:Nat}{d:PyData}(h:b[i]?=some d):cZ many (b.drop i) a=(dI d (a+1) (many-1)&&AX many d (b.drop (i+1))):=by
 obtain⟨c,e⟩:=GU.mp h;rw[J6 c,e]
 cases d<;>rfl
def sw(many a:Int)(p:Addr)(c:List PyData)(H:Hp)(i:Nat)(e:St)(d:Hp):Prop:=
 (∃(b:Int)(v:Option V),e=[some (.int many),some (.ref p),some (.int a),some (.int b),v]/\cZ many (c.drop i) b=cZ many c a)/\d=H
theorem BJ{a:List PyData}(h:a.length=4):∃u l h k,a=[u,l,h,k]:=by
 match a,h with
 |[u,l,h,k],_=>exact⟨u,l,h,k,rfl⟩
theorem AV{a:List PyData}(h:a.length=3):∃u l h,a=[u,l,h]:=by
 match a,h with
 |[u,l,h],_=>exact⟨u,l,h,rfl⟩
theorem two{a:List PyData}(h:a.length=2):∃u l,a=[u,l]:=by
 match a,h with
 |[u,l],_=>exact⟨u,l,rfl⟩
theorem zg{many:Int}{d:PyData}(h:hU d 4=false):gF many d=false:=by
 cases d with
 |tuple ds=>
  match ds with
  |[u,l,h',k]=>cases h
  |[]=>rfl
  |[_]=>rfl
  |[_,_]=>rfl
  |[_,_,_]=>rfl
  |_::_::_::_::_::_=>rfl
 |_=>rfl
theorem AU{many:Int}{d:PyData}(h:hU d 3=false):fm many d=false:=by
 cases d with
 |tuple ds=>
  match ds with
  |[u,l,h']=>cases h
  |[]=>rfl
  |[_]=>rfl
  |[_,_]=>rfl
  |_::_::_::_::_=>rfl
 |_=>rfl
theorem Aw{d:PyData}(h:hU d 2=false):gI d=false:=by
 cases d with
 |tuple ds=>
  match ds with
  |[u,l]=>cases h
  |[]=>rfl
  |[_]=>rfl
  |_::_::_::_=>rfl
 |_=>rfl
theorem FU{b:Type}{f:b->Bool}{a:List b}{i:Nat}{d:b}(h:a[i]?=some d)(c:(a.take i).all f=true)(g:f d=true):(a.take (i+1)).all f=true:=by
 obtain⟨j,e⟩:=GU.mp h;rw[Ji j,Kf,c,e];simp[g]
theorem wG{a:Type}{f:a->Bool}{b:List a}{i:Nat}{d:a}(h:b[i]?=some d)(c:f d=false):b.all f=false:=by
 rw[Ho];intro z;rw[Hv] at z;rw[z d (GO h)] at c
 cases c
def xM(many:Int)(cs:List PyData):Prop:=∀c∈cs,fm many c=true/\ka c
def Gg:Sp:=λe H Q _=>∃(a:Int)(p:Addr)(d:List V)(b:List PyData),e=[.int a,.ref p]/\H p=some (.tup d)/\DnL H b d/\hV a b/\1<=a/\a<=9/\b.length<=9/\∀c,Same H c->Q .non c
def FT:Sp:=λe H Q _=>∃(a:Int)(p:Addr)(d:List V)(b:List PyData),e=[.int a,.ref p]/\H p=some (.tup d)/\DnL H b d/\xM a b/\b.length<=8/\∀c,Same H c->Q .non c
def zE:Sp:=λi H Q _=>∃(a:Int)(p r:Addr)(e f:List V)(c d:List PyData),i=[.int a,.ref p,.ref r]/\H p=some (.lst e)/\H r=some (.lst f)/\DnL H c e/\DnL H d f/\hV a c/\1<=a/\a<=9/\c.length<=9/\xM a d/\d.length<=8 /\
 ∀(h tb g:Addr)(b:Hp),Same H b->b h=some (.tup [.int a,.ref tb,.ref g])->b tb=some (.tup e)->b g=some (.tup f)->Q (.ref h) b
structure zH(H:Hp)(wd:Addr)(many:Int)(xs ys:List V):Prop where
 ex:∃tb tc,H wd=some (.tup [.int many,.ref tb,.ref tc])/\H tb=some (.tup xs)/\H tc=some (.tup ys)
theorem jE(s t:Str):decide (V.str s=V.str t)=decide (s=t):=by
 by_cases h:s=t
 ·subst h;simp
 ·rw[GZ h,GZ (λz=>h (by injection z))]
theorem uh{H:Hp}{many:Int}{b:PyData}{v:V}(a:gF many b=true)(d:Dn H b v):∃p i g f c,v=.ref p/\H p=some (.tup [i,g,f,.ref c])/\H c=some (.tup ((eH b).map V.int)):=by
 cases b with
 |tuple ds=>
  match ds,a,d with
  |[u,l,h,k],a,d=>
   obtain⟨p,I,rfl,q,i,D,rfl,C,g,E,rfl,A,f,F,rfl,B,G,s,rfl,o,n⟩:=iP d
   cases(show s=[] from n)
   have z:(dI u 0 (many-1)&&(gE k&&(lD many u k&&(oF h k&&mO l h))))=true:=a;simp only[Ha] at z;obtain⟨w,x,y,_,_⟩:=z;obtain⟨t,rfl,_,_⟩:=iu w;obtain⟨r,rfl,_⟩:=m8 x;obtain⟨c,J,rfl,j,m⟩:=iP o;have e:=uc (show cZ many r t=true from y);rw[e] at m;rw[vQ m] at j;exact⟨p,i,g,f,c,R,q,j⟩
 |_=>cases a
theorem vM{many:Int}{bs:List PyData}(G:hV many bs)(b:many<=9)(i:Nat):((bs.take i).flatMap eH).length<=8:=by
 have e:=G.kids.length_eq;rw[Gz,IN] at e;have s:((bs.take i).flatMap eH).length<=(bs.flatMap eH).length:=by
  have a:bs.flatMap eH=(bs.take i).flatMap eH++(bs.drop i).flatMap eH:=by
   rw[<-Ip,IK]
  rw[a,GC];omega
 omega
theorem kA{b g:Type}{f:b->List g}{a:List b}{i:Nat}{d:b}(h:a[i]?=some d):(a.take (i+1)).flatMap f=(a.take i).flatMap f++f d:=by
 obtain⟨c,e⟩:=GU.mp h;rw[Ji c,Ip,e];simp
def cI:Nat->PyData->Bool
 |_,.int _=>true
 |_,.str s=>PyData.strOk s
 |n+1,.tuple ds=>decide (ds.length<=1000)&&ds.all (cI n)
 |_,_=>false
theorem Fn{many one x:Int}(h1:1<many)(a:many<=9)(b:0<=one)(c:one<many)(d:0<=x)(f:x<many-1):0<=(one+1+x)%many/\(one+1+x)%many<many/\one≠(one+1+x)%many:=by
 have e:many=2\/many=3\/many=4\/many=5\/many=6\/many=7\/many=8\/many=9:=by omega
 rcases e with rfl|rfl|rfl|rfl|rfl|rfl|rfl|rfl<;>omega
theorem DE:PyData.strOk ("most" : Str)=true:=by decide +kernel
theorem qk:PyData.strOk ("needs" : Str)=true:=by decide +kernel
theorem qu:PyData.strOk ("bans" : Str)=true:=by decide +kernel
structure PairsTo(H:Hp)(i:Nat)(ps:List PyData)(xs:List V):Prop where
 dn:DnL H ps xs
 ok:ps.all gI=true
 flat:ps.all (cI 1)=true
 ris:cZ (i:Int) (ps.map fX) (-1)=true
 few:ps.length<=i
theorem m7{m a:Int}(h:m<=a):∀{ks:List PyData} {u:Int},cZ m ks u=true->cZ a ks u=true
 |[],_,_=>rfl
 |.int i::ks,u,z=>by
  have b:(decide (u+1<=i)&&decide (i<=m-1)&&cZ m ks i)=true:=z;show(decide (u+1<=i)&&decide (i<=a-1)&&cZ a ks i)=true;simp only[Ha,IF] at b |-;exact⟨⟨b.1.1,by omega⟩,m7 h b.2⟩
 |.none::_,_,z=>by cases z
 |.bool _::_,_,z=>by cases z
 |.str _::_,_,z=>by cases z
 |.list _::_,_,z=>by cases z
 |.tuple _::_,_,z=>by cases z
 |.dict _::_,_,z=>by cases z
theorem m5{m j:Int}(h:j<m):∀{ks:List PyData} {u:Int},cZ j ks u=true->u<j->cZ m (ks++[.int j]) u=true
 |[],u,_,hu=>by
  show(decide (u+1<=j)&&decide (j<=m-1)&&true)=true;rw[GF (by omega),GF (by omega)]
  rfl
 |.int i::ks,u,z,hu=>by
  have a:(decide (u+1<=i)&&decide (i<=j-1)&&cZ j ks i)=true:=z;show(decide (u+1<=i)&&decide (i<=m-1)&&cZ m (ks++[.int j]) i)=true;simp only[Ha,IF] at a |-;exact⟨⟨a.1.1,by omega⟩,m5 h a.2 (by omega)⟩
 |.none::_,_,z,_=>by cases z
 |.bool _::_,_,z,_=>by cases z
 |.str _::_,_,z,_=>by cases z
 |.list _::_,_,z,_=>by cases z
 |.tuple _::_,_,z,_=>by cases z
 |.dict _::_,_,z,_=>by cases z
theorem DnL.keepT{H b:Hp}{f:PyData->Bool}(k:∀d v,f d=true->Dn H d v->Dn b d v):∀(a:List PyData)(xs:List V),a.all f=true->DnL H a xs->DnL b a xs
 |[],_,_,q=>q
 |d::a,_,c,⟨x,r,e,q,z⟩=>by
  rw[Jw,Ha] at c;exact⟨x,r,e,k d x c.1 q,DnL.keepT k a r c.2 z⟩
theorem Dn.keepT{H a:Hp}(h:∀b xs,H b=some (.tup xs)->a b=some (.tup xs)):∀(n:Nat)(d:PyData)(v:V),cI n d=true->Dn H d v->Dn a d v
 |_,.int _,_,_,q=>q
 |_,.str _,_,_,q=>q
 |n+1,.tuple ds,_,c,⟨p,xs,e,q,z⟩=>⟨p,xs,e,h _ _ q,DnL.keepT (Dn.keepT h n) ds xs ((Ha _ _).mp c).2 z⟩
 |0,.tuple ds,_,c,_=>by cases c
 |0,.none,_,c,_=>by cases c
 |n+1,.none,_,c,_=>by cases c
 |0,.bool _,_,c,_=>by cases c
 |n+1,.bool _,_,c,_=>by cases c
 |0,.list _,_,c,_=>by cases c
 |n+1,.list _,_,c,_=>by cases c
 |0,.dict _,_,c,_=>by cases c
 |n+1,.dict _,_,c,_=>by cases c
structure eX where
 t:Addr
 up:Int
 l:Addr
 kids:List Int
structure GAt(H0 H:Hp)(g:Addr)(gs:List eX):Prop where
 at_:H g=some (.lst (gs.map λx=>V.ref x.t))
 new:H0 g=none
 tup:∀x∈gs,H x.t=some (.tup [.int x.up,.ref x.l])
 lst:∀x∈gs,H x.l=some (.lst (x.kids.map V.int))/\H0 x.l=none/\g≠x.l
 nd:(gs.map (·.l)).Nodup
structure GOk(k:Int)(gs:List eX):Prop where
 each:∀x∈gs,0<=x.up/\x.kids≠[]/\cZ k (x.kids.map PyData.int) x.up=true
 perm:(gs.flatMap (·.kids)).Perm ((List.range' 0 (k-1).toNat).map λi:Nat=>(1:Int)+i)
theorem GOk.few{k:Int}{a:List eX}(G:GOk k a):a.length<=(k-1).toNat:=by
 have e:=G.perm.length_eq;rw[Gz,IN] at e;rw[<-e];have b:∀l:List eX,(∀x∈l,x.kids≠[])->l.length<=(l.flatMap (·.kids)).length:=by
  intro l
  induction l with
  |nil=>intro _;exact GW _
  |cons x r ih=>
   intro h;rw[IW,GC,GN];have f:=Hx.mpr (h x GM);have g:=ih λy d=>h y (GP _ d);omega
 exact b a λx c=>(G.each x c).2.1
theorem uF(k:Nat):((List.range' 0 k).map λi:Nat=>(1:Int)+i)++[((k:Int)+1)]=(List.range' 0 (k+1)).map λi:Nat=>(1:Int)+i:=by
 rw[List.range'_concat,GX];simp;omega
theorem GOk.new{k:Nat}{d:List eX}{t l:Addr}{u:Int}(G:GOk ((k:Int)+1) d)(h:0<=u)(i:u<(k:Int)+1):GOk ((k:Int)+2) (d++[⟨t,u,l,[(k:Int)+1]⟩]) where
 each:=λx g=>by
  rcases GL.mp g with z|z
  ·obtain⟨a,b,c⟩:=G.each x z;exact⟨a,b,m7 (by omega) c⟩
  ·rw[GE.mp z];refine⟨h,by simp,?_⟩;show(decide (u+1<=(k:Int)+1)&&decide ((k:Int)+1<=(k:Int)+2-1)&&true)=true;rw[GF (by omega),GF (by omega)]
   rfl
 perm:=by
  rw[Ip];have e:((k:Int)+2-1).toNat=k+1:=by omega
  have f:((k:Int)+1-1).toNat=k:=by omega
  have p:=G.perm;rw[f] at p;rw[e,<-uF];exact p.append (by simp)
theorem GOk.put{k:Nat}{pre post:List eX}{x:eX}(G:GOk ((k:Int)+1) (pre++x::post)):GOk ((k:Int)+2) (pre++⟨x.t,x.up,x.l,x.kids++[(k:Int)+1]⟩::post) where
 each:=λy i=>by
  have d:∀z∈pre++x::post,0<=z.up/\z.kids≠[]/\cZ ((k:Int)+2) (z.kids.map PyData.int) z.up=true:=λz hz=>by
   obtain⟨a,b,c⟩:=G.each z hz;exact⟨a,b,m7 (by omega) c⟩
  rcases GL.mp i with z|z
  ·exact d y (IP _ z)
  ·rcases GI.mp z with z|z
   ·subst z;obtain⟨a,b,c⟩:=G.each x (by simp);refine⟨a,by simp,?_⟩;show cZ ((k:Int)+2) ((x.kids++[(k:Int)+1]).map PyData.int) x.up=true;rw[GX];refine m5 (by omega) c ?_
    cases f:x.kids with
    |nil=>exact absurd f b
    |cons n r=>
     rw[f] at c;have g:(decide (x.up+1<=n)&&decide (n<=(k:Int)+1-1)&&cZ ((k:Int)+1) (r.map PyData.int) n)=true:=c;simp only[Ha,IF] at g;omega
   ·exact d y (by simp[z])
 perm:=by
  have e:((k:Int)+2-1).toNat=k+1:=by omega
  have h:((k:Int)+1-1).toNat=k:=by omega
  have p:=G.perm;rw[h] at p;rw[e,<-uF];refine List.Perm.trans ?_ (p.append (JZ [((k:Int)+1)]));rw[Ip,Ip,IW,IW,GH,GH,GH];exact(JZ _).append ((JZ _).append List.perm_append_comm)
theorem GAt.put{H0 H:Hp}{g:Addr}{pre post:List eX}{x:eX}{k:Int}(G:GAt H0 H g (pre++x::post)):GAt H0 (upd H x.l (.lst (x.kids.map V.int++[.int k]))) g (pre++⟨x.t,x.up,x.l,x.kids++[k]⟩::post):=by
 have h:x∈pre++x::post:=by simp
 obtain⟨a,b,c⟩:=G.lst x h;have j:=G.nd;rw[GX,HD] at j;obtain⟨_,r,s⟩:=JX.mp j;have n:∀y,y∈pre\/y∈post->y.l≠x.l:=λy d e=>by
  rcases d with d|d
  ·exact s y.l (Hc.mpr ⟨y,d,R⟩) x.l (by simp) e
  ·exact(Jk.mp r).1 (by rw[<-e];exact Hc.mpr ⟨y,d,R⟩)
 have i:∀y∈pre++(⟨x.t,x.up,x.l,x.kids++[k]⟩:eX)::post,(y∈pre\/y∈post)\/y=⟨x.t,x.up,x.l,x.kids++[k]⟩:=λy d=>by
  rcases GL.mp d with z|z
  ·exact .inl (.inl z)
  ·rcases GI.mp z with z|z
   ·exact .inr z
   ·exact .inl (.inr z)
 have f:∀y,y∈pre\/y∈post->y∈pre++x::post:=λy d=>by
  rcases d with z|z<;>simp[z]
 refine⟨?_,G.new,λy d=>?_,λy d=>?_,?_⟩
 ·rw[bR c,G.at_,GX,GX,HD,HD]
 ·rcases i y d with z|rfl
  ·rw[bR (oJ (G.tup y (f y z)) a (by intro q;cases q))];exact G.tup y (f y z)
  ·show upd H x.l _ x.t=_;rw[bR (oJ (G.tup x h) a (by intro q;cases q))];exact G.tup x h
 ·rcases i y d with z|rfl
  ·obtain⟨m,o,p⟩:=G.lst y (f y z);refine⟨?_,o,p⟩;rw[bR (n y z)];exact m
  ·refine⟨?_,b,c⟩;show upd H x.l _ x.l=_;rw[bI,GX]
   rfl
 ·have e:(pre++(⟨x.t,x.up,x.l,x.kids++[k]⟩:eX)::post).map (·.l)=(pre++x::post).map (·.l):=by
   rw[GX,GX,HD,HD]
  rw[e];exact G.nd
theorem GAt.same{H0 H b:Hp}{g:Addr}{c:List eX}(G:GAt H0 H g c)(s:Same H b):GAt H0 b g c:=
 ⟨s _ _ G.at_,G.new,λx a=>s _ _ (G.tup x a),λx a=>⟨s _ _ (G.lst x a).1,(G.lst x a).2⟩,G.nd⟩
def mC(u lo hi:Int)(a:List Int):PyData:=.tuple [.int u,.int lo,.int hi,.tuple (a.map PyData.int)]
theorem Ai{m u lo hi:Int}{a:List Int}(l:0<=u)(c:a≠[])(r:cZ m (a.map PyData.int) u=true)(j:0<=lo)(k:lo<=hi)(i:1<=hi)(h1:hi<=a.length):gF m (mC u lo hi a)=true:=by
 have o:u<=m-1:=by
  cases b:a with
  |nil=>exact absurd b c
  |cons n t=>
   rw[b] at r;have d:(decide (u+1<=n)&&decide (n<=m-1)&&cZ m (t.map PyData.int) n)=true:=r;simp only[Ha,IF] at d;omega
 show(dI (.int u) 0 (m-1)&&(gE (.tuple (a.map PyData.int))&&(cZ m (a.map PyData.int) u&&(dI (.int hi) 1 ((a.map PyData.int).length:Nat)&&dI (.int lo) 0 hi))))=true;have e:dI (.int u) 0 (m-1)=true:=by
  show(decide (0<=u)&&decide (u<=m-1))=true;rw[GF l,GF o]
  rfl
 have f:gE (.tuple (a.map PyData.int))=true:=by
  refine GF ?_;rw[Gz];exact Hx.mpr c
 have g:dI (.int hi) 1 ((a.map PyData.int).length:Nat)=true:=by
  show(decide (1<=hi)&&decide (hi<=((a.map PyData.int).length:Nat)))=true;rw[Gz,GF i,GF h1]
  rfl
 have h:dI (.int lo) 0 hi=true:=by
  show(decide (0<=lo)&&decide (lo<=hi))=true;rw[GF j,GF k]
  rfl
 rw[e,f,r,g,h]
 rfl
theorem DY(a:List Int):(a.map PyData.int).all (cI 1)=true:=by
 rw[Hv];intro x b;obtain⟨i,_,rfl⟩:=Hc.mp b
 rfl
theorem wf(u lo hi:Int)(a:List Int)(h:a.length<=1000):cI 3 (mC u lo hi a)=true:=by
 show(true&&(true&&(true&&(true&&((decide ((a.map PyData.int).length<=1000)&&(a.map PyData.int).all (cI 1))&&true)))))=true;rw[DY,Gz,GF h]
 rfl
theorem FZ(u lo hi:Int)(a:List Int):eH (mC u lo hi a)=a:=by
 show(a.map PyData.int).map kr=a;rw[HN];have:(kr∘PyData.int)=id:=rfl;rw[this,List.map_id]
end Ow
namespace Wd
inductive Tie where
 |bough (u:Nat) (lo hi:Int) (ks:List Nat)
 |needs (a b:Nat)
 |bans (a b:Nat)
 |most (top:Int) (ps:List (Nat×Int))
structure Tie.BoughOkW(m u:Nat)(lo hi:Int)(ks:List Nat):Prop where
 um:u<m
 ks0:ks≠[]
 up:∀k∈ks,u<k/\k<m
 ris:ks.Pairwise (·<·)
 few:ks.length<=m
 lo0:0<=lo
 lohi:lo<=hi
structure Tie.BoughOk(m u:Nat)(lo hi:Int)(ks:List Nat):Prop extends Tie.BoughOkW m u lo hi ks where
 hi1:1<=hi
 hik:hi<=ks.length
def Tie.Ok(m:Nat):Tie->Prop
 |.bough u lo hi ks=>Tie.BoughOkW m u lo hi ks
 |.needs a b=>a<m/\b<m/\a≠b
 |.bans a b=>a<m/\b<m/\a≠b
 |.most _ ps=>ps≠[]/\(∀p∈ps,p.1<m)/\(ps.map (·.1)).Pairwise (·<·)/\ps.length<=m
def maskL:List Nat->Nat
 |[]=>0
 |k::r=>maskL r|||2^k
theorem maskL_bit(j:Nat):∀l:List Nat,(maskL l).testBit j=decide (j∈l)
 |[]=>by simp[maskL]
 |k::r=>by
  rw[maskL,Nat.testBit_or,maskL_bit j r,Nat.testBit_two_pow];by_cases h:k=j
  ·subst h;simp
  ·have h':j≠k:=λz=>h z.symm;simp[h,h']
end Wd
namespace Wd
open PySem L2
def pairD(p:Nat×Int):PyData:=.tuple [.int (p.1:Int),.int p.2]
def Tie.toD:Tie->PyData
 |.bough u lo hi ks=>.tuple [.int (u:Int),.int lo,.int hi,.tuple (ks.map λk:Nat=>PyData.int (k:Int))]
 |.needs a b=>.tuple [.str ("needs" : Str),.int (a:Int),.int (b:Int)]
 |.bans a b=>.tuple [.str ("bans" : Str),.int (a:Int),.int (b:Int)]
 |.most top ps=>.tuple [.str ("most" : Str),.int top,.tuple (ps.map pairD)]
theorem qh{m:Nat}:∀{ks:List PyData} {a:Int},-1<=a->a<m->cZ m ks a=true ->
  ∃ns:List Nat,ks=ns.map (λk:Nat=>PyData.int (k:Int))/\ns.Pairwise (·<·)/\(∀k∈ns,a<(k:Int)/\k<m)/\(ns.length:Int)+a+1<=m
 |[],a,h0,h1,_=>⟨[],rfl,List.Pairwise.nil,(λ_ z=>nomatch z),by simp;omega⟩
 |.int i::ks,a,h0,h1,h=>by
  have z:(decide (a+1<=i)&&decide (i<=(m:Int)-1)&&cZ m ks i)=true:=h;simp only[Ha,IF] at z;obtain⟨ns,e,d,c,f⟩:=qh (by omega) (by omega) z.2;obtain⟨j,rfl⟩:∃j:Nat,i=(j:Int):=⟨i.toNat,by omega⟩
  refine⟨j::ns,by rw[e];rfl,List.Pairwise.cons (λk b=>?_) d,λk b=>?_,?_⟩
  ·have:=(c k b).1;omega
  ·rcases GI.mp b with rfl|b
   ·omega
   ·have:=c k b;omega
  ·rw[GN];omega
 |.none::_,_,_,_,h=>by cases h
 |.bool _::_,_,_,_,h=>by cases h
 |.str _::_,_,_,_,h=>by cases h
 |.list _::_,_,_,_,h=>by cases h
 |.tuple _::_,_,_,_,h=>by cases h
 |.dict _::_,_,_,_,h=>by cases h
theorem CY{m:Nat}{d:PyData}(h:gF m d=true):∃u lo hi ks,d=(Tie.bough u lo hi ks).toD/\Tie.BoughOk m u lo hi ks:=by
 unfold gF at h
 split at h
 next u l hd k=>
  simp only[Ha] at h;obtain⟨r,a,q,o,p⟩:=h;obtain⟨f,rfl,y,A⟩:=iu r;obtain⟨e,rfl,b⟩:=m8 a;obtain⟨hi,rfl,n,c⟩:=iu (show dI hd 1 e.length=true from o);obtain⟨lo,rfl,s,t⟩:=iu (show dI l 0 hi=true from p);obtain⟨g,rfl⟩:∃j:Nat,f=(j:Int):=⟨f.toNat,by omega⟩
  obtain⟨v,rfl,w,i,x⟩:=qh (by omega) (by omega) (show cZ m e g=true from q);rw[Gz] at b c;exact⟨g,lo,hi,v,R,⟨⟨by omega,λz=>by rw[z] at b;simp at b,λk a=>by have:=i k a;omega,w,by omega,s,t⟩,n,c⟩⟩
 next=>cases h
theorem uw{m:Nat}:∀{a:List PyData} {ns:List Nat},a.all gI=true->a.map fX=ns.map (λk:Nat=>PyData.int (k:Int))->∃c:List (Nat×Int),a=c.map pairD/\c.map (·.1)=ns
 |[],[],_,_=>⟨[],rfl,rfl⟩
 |[],_::_,_,e=>by cases e
 |_::_,[],_,e=>by cases e
 |d::a,n::ns,h,e=>by
  rw[Jw,Ha] at h;rw[HD,HD] at e;injection e with f g;obtain⟨c,rfl,rfl⟩:=uw (m:=m) h.2 g;have b:=h.1;unfold gI at b
  split at b
  next x y=>
   obtain⟨i,rfl⟩:=rz b;refine⟨(n,i)::c,?_,R⟩;have j:x=PyData.int (n:Int):=f;rw[j]
   rfl
  next=>cases b
theorem CK{m:Nat}{d:PyData}(h:fm m d=true):∃t:Tie,d=t.toD/\t.Ok m/\∀u lo hi ks,t≠.bough u lo hi ks:=by
 unfold fm at h
 split at h
 next k x y=>
  unfold mL at h
  split at h
  next s=>
   unfold gu at h
   split at h
   next hs=>
    rw[Ha] at h;obtain⟨top,rfl⟩:=rz h.1;have c:=h.2;unfold lV at c
    split at c
    next ds=>
     simp only[Ha,IF] at c;obtain⟨⟨f,o⟩,q⟩:=c;obtain⟨I,e,C,n,A⟩:=qh (by omega) (by omega) q;obtain⟨B,rfl,rfl⟩:=uw (m:=m) o e;rw[Gz] at f A;refine⟨.most top B,by rw[hs];rfl,⟨λz=>by rw[z] at f;simp at f,λp w=>(n p.1 (Hc.mpr ⟨p,w,R⟩)).2,C,by omega⟩,by intro _ _ _ _ z;cases z⟩
    next=>cases c
   next hs=>
    split at h
    next hn=>
     simp only[Ha] at h;obtain⟨r,v,l⟩:=h;obtain⟨a,rfl,D,E⟩:=iu r;obtain⟨b,rfl,F,G⟩:=iu v;have H:¬a=b:=by
      have z:(!decide (a=b))=true:=l
      simpa using z
     obtain⟨g,rfl⟩:∃j:Nat,a=(j:Int):=⟨a.toNat,by omega⟩
     obtain⟨i,rfl⟩:∃j:Nat,b=(j:Int):=⟨b.toNat,by omega⟩
     rcases hn with rfl|rfl
     ·exact⟨.needs g i,R,⟨by omega,by omega,by omega⟩,by intro _ _ _ _ z;cases z⟩
     ·exact⟨.bans g i,R,⟨by omega,by omega,by omega⟩,by intro _ _ _ _ z;cases z⟩
    next=>cases h
  next=>cases h
 next=>cases h
end Wd
namespace L2
open PySem PySem.Spec PyProof.Rows
theorem mD{X:Cx}{st:List Stmt}{t:TS}(h:PSs X st t):∃t',PSs X st t'/\∀D a H,t D a H->t' D a H:=⟨t,h,λ_ _ _ x=>x⟩
section
variable{X:Cx}{o e:Expr}{es:List Expr}{to:TE}{t:TA}{name:Str}{apos cpos:Pos}{T id:String}{r:V -> List V -> Hp -> VK -> Prop}
theorem cM{K:PySem.W.Frag}(pa:PlainAttrs T)(f:Slot T name id)(g:typeOf (.builtin id)=pure (.type "method_descriptor"))(j:ko X id r)(k:PE X o to)(i:PA X (e::es) t)(h:X.K=K:=by rfl)
  (b:attributeBase o name X.env (eval o X.env)=eval o X.env:=by rfl)
  (d:((backTo cpos (starEach (e::es) X.env)).all (λx=>!x.1)&&(backToKw cpos (keywordEach [] X.env)).all (λx=>x.1.isSome)&&decide ((e::es).length+([]:List Keyword).length+(if ([]:List Keyword).isEmpty then 0 else 1)<30))=true:=by rfl)
  (c:(apos.endLine==cpos.line)=true:=by rfl) (l:starEach (e::es) X.env=(false,eval e X.env)::starEach es X.env:=by rfl) (a:(backTo cpos (starEach es X.env)).any (·.1)=false:=by rfl):
  PE X (.Call (.Attribute o name apos) (e::es) [] cpos) (jY K T r to t):=h▸AN pa f g j k i b d c l a
end
theorem Room.lv{A:Around}{j k:Nat}(a:Room k A)(h:j<=k:=by first|decide|omega):Room j A:=a.mono h
structure Df(K:PySem.W.Frag)(mg:Str->Option Value)(x:Str)(st:Stmt)(f:Addr)(fd:FuncData)(ps:List Str):Prop extends Fun K x x st f fd where
 g:mg x=some (.ref f)
 B:Binds K fd ps []
theorem bY{X:Cx}{k:Nat}{f:Addr}{h:FuncData}{i:List Str}{sp:Sp}{x:Str}{p b:Pos}{e:Expr}{a:List Expr}{t:TA}{st:Stmt}(F:cC X.prog X.w X.K X.mg X.base cK k f h i sp)(n:Room k X.A)(m:Gl X x)(D:Df X.K X.mg x st f h i)
  (j:PA X (e::a) t) (c:(x==("__debug__" : Str))=false:=by decide) (l:starEach (e::a) X.env=(false,eval e X.env)::starEach a X.env:=by rfl) (d:(backTo b (starEach a X.env)).any (·.1)=false:=by rfl):
  PE X (.Call (.Name x p) (e::a) [] b) (oA sp [] E0 t):=eP F n m D.g D.kp D.B .nil Bb j c l d
theorem de{N P:List Str}{d:Scope}(a:d.kind=.function)(b:d.isCoroutine=false)(c:d.isGenerator=false)(e:N.take P.length=P)(h:(decide N.Nodup&&(decide (∀x∈P,d.names.lookup x=some .local\/d.names.lookup x=some .cell)&&decide (∀y∈d.names,y.2≠.free)))=true):cR N P d:=by
 rw[Ha,Ha] at h;exact⟨a,b,c,GJ h.1,e,GJ h.2.1,GJ h.2.2⟩
def Dk(K:PySem.W.Frag)(x:Str)(st:Stmt)(f:Addr)(a:FuncData):Prop:=PySem.W.nsIn K mainGlobals x=some (some (.ref f))/\Fun K x x st f a
section
variable{K:PySem.W.Frag}{x q:Str}{st:Stmt}{f C:Addr}{oc:Value}{od an:Option Addr}{osl:Array (Option Value)}{kV doc pm cdv ct:Value}
theorem dk(a:PySem.W.nsIn K mainGlobals x=some (some (.ref f)))(l:K.lookup f=some ⟨oc,od,.func (PySem.W.fnOf x x (j6 st) (fZ st) (cF st) .none kV doc pm an cdv ct),osl⟩)(c:PySem.W.codeIn K cdv x=true)(k:PySem.W.keepIn K (.ref f)=true):
  Dk K x st f (PySem.W.fnOf x x (j6 st) (fZ st) (cF st) .none kV doc pm an cdv ct):=⟨a,zt l c k⟩
abbrev Bd(x q:Str)(st:Stmt)(us:List Value)(ps:List Str):Prop:=∀(kV doc pm:Value)(an:Option Addr)(cdv ct:Value),bindArgs (PySem.W.fnOf x q (j6 st) (fZ st) (cF st) .none kV doc pm an cdv ct) ⟨us,[]⟩=pure (ps.zip us)
theorem Dk.df{h:Heap}{e:Str->Option Value}{d:FuncData}{c:List Str}(X:K.In h)(G:h.Ns mainGlobals e)(D:Dk K x st f d)(b:∀a,a.length=c.length->Bd x x st a c):Df K e x st f d c:=
 ⟨D.2,Ii X G D.1,D.2.binds λkV doc pm an cdv ct a g=>b a g kV doc pm an cdv ct⟩
theorem gR{p:List Str}(h:∀a,Bd x q st [a] p):∀b:List Value,b.length=1->Bd x q st b p|[a],_=>h a
theorem dU{p:List Str}(h:∀a b,Bd x q st [a,b] p):∀c:List Value,c.length=2->Bd x q st c p|[a,b],_=>h a b
theorem lI{p:List Str}(h:∀a b c,Bd x q st [a,b,c] p):∀d:List Value,d.length=3->Bd x q st d p|[a,b,c],_=>h a b c
theorem oR{p:List Str}(h:∀a b c d,Bd x q st [a,b,c,d] p):∀e:List Value,e.length=4->Bd x q st e p|[a,b,c,d],_=>h a b c d
theorem AM{a:FuncData}{y:Str}(F:Fun K x q st f a)(h:∀v,Bd x q st [v] [y])(s:Shared)(v:Value):BindsTo s a ⟨[v],[]⟩ [(y,v)]:=by
 obtain⟨oc,od,kV,doc,pm,an,cdv,ct,osl,rfl,c,b⟩:=F.ex;exact .of_eq (h v kV doc pm an cdv ct)
end
section
variable{X:Cx}
theorem i3{K:PySem.W.Frag}{c:Pos}{a:List Expr}{k:Nat}{t:jv}{n:Nat}(e:X.calm=true)(h:lH X a t)(f:(assignEach a X.env).length=n:=by rfl)(b:(assignEach a X.env).findIdx? (·.1)=none:=by rfl)(d:X.K=K:=by rfl):PG X (.Tuple a k c) (sT K n t):=d▸zO e h f b
end
end L2
namespace Wd
open PySem L2
def oH(K:PySem.W.Frag):Sp:=λc H Q _=>∃(p:Addr)(a:List Int),c=[.ref p]/\SqL K H p (a.map V.int)/\a.length<=63/\∀b,Q (.bl true) b
theorem u7{P:Tie->Prop}:∀{l:List PyData},(∀d∈l,∃t:Tie,d=t.toD/\P t)->∃a:List Tie,l=a.map Tie.toD/\∀t∈a,P t
 |[],_=>⟨[],rfl,(λ_ z=>nomatch z)⟩
 |d::r,h=>by
  obtain⟨t,e,p⟩:=h d GM;obtain⟨a,c,f⟩:=u7 λx b=>h x (GP _ b);refine⟨t::a,by rw[e,c];rfl,λx b=>?_⟩;rcases GI.mp b with rfl|z
  ·exact p
  ·exact f x z
theorem oW{c A B:Prop}[Decidable c](a:c)(h:A):if decide c=true then A else B:=by
 rw[GF a];exact dB h
theorem sj{c A B:Prop}[Decidable c](a:¬c)(h:B):if decide c=true then A else B:=by
 rw[GZ a];exact cX h
theorem mX{b:Bool}{A B:Prop}(a:b=true)(h:A):if b=true then A else B:=by
 rw[Hl a];exact h
theorem rZ{b:Bool}{A B:Prop}(a:b=false)(h:B):if b=true then A else B:=by
 rw[a];exact cX h
end Wd
namespace Wd
theorem maskL_lt{n:Nat}{l:List Nat}(h:∀k∈l,k<n):maskL l<2^n:=by
 refine Nat.lt_pow_two_of_testBit _ λi a=>?_;rw[maskL_bit];exact GZ λz=>by have:=h i z;omega
end Wd
namespace L2
open PySem
theorem kF{k:Nat}{e:St}{H:Hp}{g:TG}{h:TT}{j:TE}{Q:VK}(d:Nat->List V->St->Hp->Prop)(n:d 0 [] e H)(hz:∀i ys c H,i<=k->d i ys c H->ys.length<=sizeLine)
  (r:∀i ys c H,i<k->d i ys c H->g (.int (i:Int)) c H λa l=>h a l λb f=>if b=true then j a f λv m=>d (i+1) (ys++[v]) a m else d (i+1) ys a f)
  (o:∀ys c H,d k ys c H->∀p,H p=none->Q (.ref p) (upd H p (.lst ys))):
  ju (gK 0 k) g h j e H Q:=
 FM (lo:=0) d n hz (λi ys c H q p=>by rw[Int.zero_add];exact r i ys c H q p) o
theorem nE{n:Nat}{g:TG}{tb:TS}{D:Ends}{a:St}{H:Hp}(c:Nat->St->Hp->Prop)(j:c 0 a H)
  (o:∀i a H,i<n->c i a H->g (.int (i:Int)) a H λb f=>tb { D with nx:=c (i+1),ct:=c (i+1),bk:=D.nx } b f) (k:∀a H,c n a H->D.nx a H):
  ∃W:Nat->Nat->St->Hp->Prop,(∃m,W 0 m a H)/\∀i m a H,W i m a H ->
   ((gK 0 n).stop i H/\D.nx a H)\/((gK 0 n).go i H/\∃N:St->Hp->Prop,(∀e d,N e d->∃h,h<m/\W (i+1) h e d)/\∀x d,(gK 0 n).yld i H x d->g x a d λb f=>tb { D with nx:=N,ct:=N,bk:=D.nx } b f):=
 vg (lo:=0) c j (λi a H l p=>by rw[Int.zero_add];exact o i a H l p) k
end L2
namespace Wd
open PySem L2 Ow
def KpX(pen:Addr)(H a:Hp)(b:Addr):HO->Prop
 |.tbl _=>(∃c,a b=some (.tbl c))/\(oI H b->(∃ys,H pen=some (.lst ys))->oI a b/\∃ys,a pen=some (.lst ys))
 |o=>a b=some o
def SameX(pen:Addr)(H a:Hp):Prop:=∀b o,b≠pen->H b=some o->KpX pen H a b o
theorem KpX.some{pen:Addr}{H a:Hp}{b:Addr}{o:HO}(k:KpX pen H a b o):∃u,a b=some u:=by
 cases o
 case tbl ps=>exact⟨_,k.1.choose_spec⟩
 all_goals exact⟨_,k⟩
theorem SameX.refl(pen:Addr)(H:Hp):SameX pen H H:=λ_ o _ h=>by
 cases o
 case tbl ps=>exact⟨⟨_,h⟩,λa b=>⟨a,b⟩⟩
 all_goals exact h
theorem SameX.trans{pen:Addr}{H d e:Hp}(a:SameX pen H d)(b:SameX pen d e):SameX pen H e:=λc o n h=>by
 have z:=a c o n h
 cases o
 case tbl ps=>
  obtain⟨⟨j,f⟩,k⟩:=z;obtain⟨i,g⟩:=b c _ n f;exact⟨i,λt y=>g (k t y).1 (k t y).2⟩
 all_goals exact b c _ n z
theorem Same.x{pen:Addr}{H a:Hp}(s:Same H a):SameX pen H a:=λb o _ h=>by
 have z:=s b o h
 cases o
 case tbl ps=>exact⟨z.1,λt ⟨c,y⟩=>⟨z.2 t,c,s pen _ y⟩⟩
 all_goals exact z
theorem dD{pen:Addr}{H:Hp}(o:HO)(e:∃ys,o=.lst ys:=by exact⟨_,R⟩):SameX pen H (upd H pen o):=λb u n h=>by
 cases u
 case tbl ps=>
  refine⟨⟨ps,by rw[bR n];exact h⟩,?_⟩;rintro⟨j,g,k,f⟩ ⟨ys,i⟩;obtain⟨m,rfl⟩:=e;refine⟨⟨j,by rw[bR n];exact g,k,λa=>?_⟩,⟨m,bI⟩⟩;rcases f a with z|⟨c,l,d⟩
  ·exact .inl z
  ·refine .inr ⟨c,l,?_⟩;rw[bR λz=>by rw[z,i] at d;cases d];exact d
 all_goals (show upd H pen o b=_;rw[bR n];exact h)
theorem Same.put{H a:Hp}{p:Addr}{xs:List V}{o:HO}(s:Same H a)(n:H p=none)(e:a p=some (.lst xs)):Same H (upd a p o):=λb u h=>by
 have d:b≠p:=cY h n;have z:=s b u h
 cases u
 case tbl ps=>
  refine⟨⟨z.1.choose,by rw[bR d];exact z.1.choose_spec⟩,λt=>?_⟩;obtain⟨k,j,l,i⟩:=z.2 t;refine⟨k,by rw[bR d];exact j,l,λf=>?_⟩;rcases i f with y|⟨c,m,g⟩
  ·exact .inl y
  ·refine .inr ⟨c,m,?_⟩;rw[bR λz=>by rw[z,e] at g;cases g];exact g
 all_goals (show upd a p o b=_;rw[bR d];exact z)
theorem SameX.put{pen:Addr}{H a:Hp}{p:Addr}{xs:List V}{o:HO}(s:SameX pen H a)(n:H p=none)(m:p≠pen)(e:a p=some (.lst xs)):SameX pen H (upd a p o):=λb u l h=>by
 have d:b≠p:=cY h n;have z:=s b u l h
 cases u
 case tbl ps=>
  refine⟨⟨z.1.choose,by rw[bR d];exact z.1.choose_spec⟩,λt y=>?_⟩;obtain⟨⟨q,j,r,i⟩,w,k⟩:=z.2 t y;refine⟨⟨q,by rw[bR d];exact j,r,λf=>?_⟩,w,by rw[bR (Ij m)];exact k⟩;rcases i f with y|⟨c,v,g⟩
  ·exact .inl y
  ·refine .inr ⟨c,v,?_⟩;rw[bR λz=>by rw[z,e] at g;cases g];exact g
 all_goals (show upd a p o b=_;rw[bR d];exact z)
theorem SameX.free{pen l:Addr}{H a:Hp}(s:SameX pen H a)(b:∃o,a pen=some o)(h:a l=none):H l=none:=by
 cases q:H l with
 |none=>rfl
 |some o=>
  obtain⟨c,e⟩:=b;have n:l≠pen:=λz=>by rw[z,e] at h;cases h
  obtain⟨u,z⟩:=(s l o n q).some;rw[z] at h
  cases h
structure Pen(K:PySem.W.Frag)(H:Hp)(pen sp:Addr)(ns:List Int)(k:Int):Prop where
 at_:H pen=some (.lst [.ref sp,.int k])
 len:ns.length<=63
 scr:∀H',SameX pen H H'->SqL K H' sp (ns.map V.int)
theorem Pen.to{K:PySem.W.Frag}{H a:Hp}{pen sp:Addr}{ns:List Int}{k b:Int}(p:Pen K H pen sp ns k)(s:SameX pen H a)(e:a pen=some (.lst [.ref sp,.int b])):Pen K a pen sp ns b:=
 ⟨e,p.len,λc d=>p.scr c (s.trans d)⟩
def gv(H c:Hp):Prop:=∀b a,H b=some (.tup a)->c b=some (.tup a)
theorem SameX.tup{pen:Addr}{H a:Hp}{ys:List V}(e:H pen=some (.lst ys))(s:SameX pen H a):gv H a:=λb c h=>s b _ (λz=>by rw[z,e] at h;cases h) h
theorem Dn.tupS{H a:Hp}(t:gv H a){n:Nat}{d:PyData}{v:V}(f:cI n d=true)(q:Dn H d v):Dn a d v:=Dn.keepT t n d v f q
theorem DnL.tupS{H c:Hp}(t:gv H c){n:Nat}{a:List PyData}{b:List V}(f:a.all (cI n)=true)(q:DnL H a b):DnL c a b:=DnL.keepT (Dn.keepT t n) a b f q
def zJ(K:PySem.W.Frag):Sp:=λf H Q _=>∃(b d:Addr)(e:List Int)(a k:Int),f=[.ref b,.int a]/\Pen K H b d e k/\0<=k/\k<=1000000/\0<a/\∀c:Int,0<=c->c<a->Q (.int c) (L2.upd H b (.lst [.ref d,.int (k+1)]))
structure WoodX(H:Hp)(wd:Addr)(m:Nat)(bs cs:List PyData):Prop where
 ex:∃xs ys,zH H wd m xs ys/\DnL H bs xs/\DnL H cs ys
 gb:hV m bs
 gc:∀c∈cs,fm m c=true
 b8:bs.length<=9
 c8:cs.length<=20
 fb:bs.all (cI 3)=true
 fc:cs.all (cI 3)=true
 m1:1<=m
 m9:m<=9
theorem WoodX.tupS{H a:Hp}{b:Addr}{m:Nat}{bs cs:List PyData}(t:gv H a)(h:WoodX H b m bs cs):WoodX a b m bs cs:=by
 obtain⟨j,k,⟨tb,i,e,f,g⟩,c,d⟩:=h.ex;exact⟨⟨j,k,⟨tb,i,t _ _ e,t _ _ f,t _ _ g⟩,DnL.tupS t h.fb c,DnL.tupS t h.fc d⟩,h.gb,h.gc,h.b8,h.c8,h.fb,h.fc,h.m1,h.m9⟩
theorem Same.tup{H a:Hp}(s:Same H a):gv H a:=λb c h=>s b _ h
theorem _root_.Ow.GAt.add2{H0 H:Hp}{g l t:Addr}{h:List eX}{u k:Int}(G:GAt H0 H g h)(r:H0 l=none)(i:H l=none)(f:upd H l (.lst [.int k]) t=none):
  GAt H0 (upd (upd (upd H l (.lst [.int k])) t (.tup [.int u,.ref l])) g (.lst ((h.map λx=>V.ref x.t)++[.ref t]))) g (h++[⟨t,u,l,[k]⟩]):=by
 have j:g≠l:=cY G.at_ i;have m:=bL i (.lst [.int k]);have n:=m.trans (bL f (.tup [.int u,.ref l]));have o:t≠l:=λz=>by rw[z,bI] at f;cases f
 have p:g≠t:=cY (m _ _ G.at_) f;refine⟨?_,G.new,λx d=>?_,λx d=>?_,?_⟩
 ·rw[bI,GX]
  rfl
 ·rcases GL.mp d with z|z
  ·rw[bR (oJ (G.tup x z) G.at_ (by intro q;cases q))];exact n _ _ (G.tup x z)
  ·rw[GE.mp z];show L2.upd _ g _ t=_;rw[bR (Ij p),bI]
 ·rcases GL.mp d with z|z
  ·obtain⟨a,b,c⟩:=G.lst x z;refine⟨?_,b,c⟩;rw[bR (Ij c)];exact n _ _ a
  ·rw[GE.mp z];refine⟨?_,r,j⟩;show L2.upd _ g _ l=_;rw[bR (Ij j),bR (Ij o),bI]
   rfl
 ·rw[GX];refine JX.mpr ⟨G.nd,by simp,λx d y s=>?_⟩;obtain⟨z,v,rfl⟩:=Hc.mp d;have e:y=l:=by simpa using s
  rw[e];exact cY (G.lst z v).1 i
theorem _root_.Ow.GAt.pen{H0 H:Hp}{g pen:Addr}{f:List eX}{xs ys:List V}(G:GAt H0 H g f)(i:∃o,H0 pen=some o)(h:H pen=some (.lst xs)):GAt H0 (L2.upd H pen (.lst ys)) g f:=by
 obtain⟨o,d⟩:=i;refine⟨?_,G.new,λx e=>?_,λx e=>?_,G.nd⟩
 ·rw[bR (λz=>by rw[<-z,G.new] at d;cases d)];exact G.at_
 ·rw[bR (oJ (G.tup x e) h (by intro q;cases q))];exact G.tup x e
 ·obtain⟨a,b,c⟩:=G.lst x e;refine⟨?_,b,c⟩;rw[bR (λz=>by rw[<-z,b] at d;cases d)];exact a
abbrev cq(l:List Nat):List V:=l.map λk:Nat=>V.int (k:Int)
theorem Af{K:PySem.W.Frag}{H:Hp}{pen a:Addr}{xs:List V}{o:HO}(h:SqL K H a xs)(d:H pen=none):∀c,SameX pen (L2.upd H pen o) c->SqL K c a xs:=λc s=>by
 have b:∀u,H a=some u->KpX pen (L2.upd H pen o) c a u:=λu e=>s a u (cY e d) (by rw[bR (cY e d)];exact e);rcases h with(h|⟨u,h⟩)|h
 ·exact .inl (.inl (b _ h))
 ·exact .inl (.inr ⟨u,b _ h⟩)
 ·exact .inr h
theorem yn{K:PySem.W.Frag}{H:Hp}{pen sp:Addr}{ns:List Int}(h:SqL K H sp (ns.map V.int))(a:ns.length<=63)(b:H pen=none):Pen K (L2.upd H pen (.lst [.ref sp,.int 0])) pen sp ns 0:=⟨bI,a,Af h b⟩
end Wd
namespace L2
open PySem PySem.Spec PyProof.Rows
section
variable{X:Cx}{tg iter elt:Expr}{cs:List Expr}{sc sc0:Scope}{pos:Pos}{wi:TI}{g:TG}{tc:TT}{te:TE}{XN N':List Str}{n:Nat}{kp:List Nat}
theorem eR{K:PySem.W.Frag}{l:Expr}{a:TE}(b:PE X l a)(h:X.K=K:=by rfl):PI X tg l (oq K a):=h▸Gi b
theorem jW{K:PySem.W.Frag}{l:Expr}{a:TE}(b:PE X l a)(h:X.K=K:=by rfl):PI X tg l (sQ K a):=h▸Ag b
end
end L2
namespace Wd
open PySem L2 Ow
theorem Bz{b:Bool}{A B:Prop}(a:b=true)(h:A):if b=true then A else B:=by
 rw[Hl a];exact h
theorem AS{b:Bool}{A B:Prop}(a:b=false)(h:B):if b=true then A else B:=by
 rw[GY (by rw[a];simp)];exact h
end Wd
namespace L2
open PySem PySem.Spec PyProof.Rows
theorem Fd(n a b:Nat)(c:a<n)(d:b<n):ZipApart (n+4) (n+2) (n+3) n (n+1) a b:=
 have g:∀{i j:Nat},i<j->i≠j:=λh=>Hq h;have u:∀{i j:Nat},j<i->i≠j:=λh=>Io h
 ⟨g (by omega),g (by omega),g (by omega),g (by omega),g (by omega),u (by omega),u (by omega),u (by omega),u (by omega),g (by omega),g (by omega),g (by omega),g (by omega),g (by omega),g (by omega),g (by omega),g (by omega),g (by omega)⟩
variable{X:Cx}
end L2
namespace Wd
open PySem L2 Ow
structure Bg where
 u:Nat
 lo:Int
 hi:Int
 ks:List Nat
def Bg.tie(b:Bg):Tie:=.bough b.u b.lo b.hi b.ks
theorem xB{m:Nat}:∀{bs:List PyData},(∀b∈bs,gF m b=true)->∃L:List Bg,bs=L.map (λb=>b.tie.toD)/\∀b∈L,Tie.BoughOk m b.u b.lo b.hi b.ks
 |[],_=>⟨[],rfl,λ_ h=>nomatch h⟩
 |b::bs,h=>by
  obtain⟨u,lo,hi,ks,e,f⟩:=CY (h b GM);obtain⟨L,d,c⟩:=xB λx a=>h x (GP _ a);refine⟨⟨u,lo,hi,ks⟩::L,?_,λx a=>?_⟩
  ·rw[e,d];rfl
  ·rcases GI.mp a with rfl|a
   ·exact f
   ·exact c x a
end Wd
namespace L2
open PySem PySem.Spec PyProof.Rows
section
variable{X:Cx}
def yA:V->List V->Hp->VK->Prop:=λx b H Q=>∃(l:Addr)(a:List V)(i:Int)(y:V),x=.ref l/\b=[.int i,y]/\H l=some (.lst a)/\0<=i/\i<=a.length/\a.length<sizeLine/\Q .non (upd H l (.lst (a.take i.toNat++y::a.drop i.toNat)))
theorem Ey:lG X "list.insert" yA:=by
 intro p s W H x U v S Q I P O h;obtain⟨l,k,i,y,rfl,rfl,o,m,C,T,q⟩:=h
 cases P
 obtain⟨g,d,rfl,J,M⟩:∃g d,S=g::d/\RelV (.int i) g/\Vals [y] d:=by
  cases O with
  |cons a b=>exact⟨_,_,rfl,a,b⟩
 obtain⟨j,rfl,N⟩:=M.one;obtain⟨t,rfl⟩:=J;obtain⟨z,c,n,r,D,e⟩:=I.lstM o;have f:c.toArray.size<=sizeLine:=by rw[Hb,<-D];exact z
 have A : -(2^63)<=i:=Int.le_trans (by decide) m;have B:i<2^63:=by
  have w:((k.length:Nat):Int)<((2^63:Nat):Int):=Int.ofNat_lt.mpr (HJ z jN);exact Int.lt_of_le_of_lt C w
 have u:¬(!Builtin.List.listFitsIndex i)=true:=by
  rw[fitsIndex_both A B];exact Hh
 refine J2 F.slot_list_insert ⟨_,e,R⟩ F.entry_list_insert (F.args_list_insert_3 _ _ _) (AutoListH.list_insert_list_int_val_1 l c.toArray n i t j u f) ⟨e,?_⟩;have L:Vals (k.take i.toNat++y::k.drop i.toNat) (c.take i.toNat++j::c.drop i.toNat):=(r.take i.toNat).append (.cons N (r.drop i.toNat));refine⟨.non,_,I.lset (its':=c.take i.toNat++j::c.drop i.toNat) o e ?_ L ?_,R,q⟩
 ·have G:¬(i<0):=Int.not_lt.mpr m;have E:i.toNat<=c.length:=by omega
  simp[G,Jr E];exact HC (by rw[Hd];exact GW _)
 ·rw[GC,GN,G8,Hd];omega
end
end L2
namespace Wd
open PySem L2 Ow
def Ez(K:PySem.W.Frag):Sp:=λh H Q _=>∃(a e:Addr)(g:List Int)(m:Nat)(k:Int),h=[.ref a,.int (m:Int)]/\Pen K H a e g k/\0<=k/\k<=900000/\1<=m/\m<=9 /\
 ∀(l:Addr)(c:List PyData)(f:List V)(d:Int)(b:Hp),SameX a H b->b a=some (.lst [.ref e,.int d])->k<=d->d<=k+80->b l=some (.lst f)->H l=none->DnL b c f->hV m c->c.length<=8->c.all (cI 3)=true->Q (.ref l) b
theorem _root_.Ow.GAt.ins{H0 H:Hp}{g l t:Addr}{pre post:List eX}{u k:Int}(G:GAt H0 H g (pre++post))(f:H0 l=none)(i:H l=none)(j:upd H l (.lst [.int k]) t=none):
  GAt H0 (upd (upd (upd H l (.lst [.int k])) t (.tup [.int u,.ref l])) g (.lst ((pre.map λx=>V.ref x.t)++V.ref t::(post.map λx=>V.ref x.t)))) g (pre++⟨t,u,l,[k]⟩::post):=by
 have A:=GAt.add2 (u:=u) (k:=k) G f i j;have d:∀x,x∈pre++⟨t,u,l,[k]⟩::post↔x∈(pre++post)++[⟨t,u,l,[k]⟩]:=λx=>by
  simp only[GL,GI,Hs,Iw]
  constructor
  ·rintro(h|h|h)
   ·exact .inl (.inl h)
   ·exact .inr h
   ·exact .inl (.inr h)
  ·rintro((h|h)|h)
   ·exact .inl h
   ·exact .inr (.inr h)
   ·exact .inr (.inl h)
 have c:∀(o e:HO)(b:Addr),b≠g->(upd (upd (upd H l (.lst [.int k])) t (.tup [.int u,.ref l])) g o) b=(upd (upd (upd H l (.lst [.int k])) t (.tup [.int u,.ref l])) g e) b:=λo e b n=>by rw[bR n,bR n]
 refine⟨?_,A.new,λx a=>?_,λx a=>?_,?_⟩
 ·rw[bI,GX]
  rfl
 ·have h:=A.tup x ((d x).mp a);have n:x.t≠g:=λz=>by rw[z,bI] at h;cases h
  rw[c _ _ _ n];exact h
 ·have h:=A.lst x ((d x).mp a);refine⟨?_,h.2⟩;rw[c _ _ _ (Ij h.2.2)];exact h.1
 ·have p:(pre++(⟨t,u,l,[k]⟩:eX)::post).Perm ((pre++post)++[⟨t,u,l,[k]⟩]):=by
   rw[GH];exact JT _ (K7 _ _).symm
  exact((p.map (·.l)).nodup_iff).mpr A.nd
theorem _root_.Ow.GOk.ins{k:Nat}{pre post:List eX}{t l:Addr}{u:Int}(G:GOk ((k:Int)+1) (pre++post))(b:0<=u)(c:u<(k:Int)+1):GOk ((k:Int)+2) (pre++⟨t,u,l,[(k:Int)+1]⟩::post):=by
 have A:=GOk.new (t:=t) (l:=l) G b c;have p:(pre++(⟨t,u,l,[(k:Int)+1]⟩:eX)::post).Perm ((pre++post)++[⟨t,u,l,[(k:Int)+1]⟩]):=by
  rw[GH];exact JT _ (K7 _ _).symm
 exact⟨λx a=>A.each x (p.mem_iff.mp a),(List.Perm.flatMap_right _ p).trans A.perm⟩
end Wd
namespace L2
open PySem PySem.Spec PyProof.Rows
section
variable{X:Cx}{e st:Expr}{te tst:TE}{pos p2:Pos}
theorem uH(i:X.A.units+64<cLine):dG X (compareOp .Eq) (λx y H Q=>∃d e:PyData,Dn H d x/\Dn H e y/\SeqAt.shaped d=true/\SeqAt.shaped e=true/\Q (.bl (PyData.eqv d e)) H):=by
 intro a s p H x y v u Q I l m h;obtain⟨d,e,f,g,b,c,q⟩:=h;obtain⟨n,j⟩:=Dn.reads I d x v f (Jv b) l;obtain⟨o,k⟩:=Dn.reads I e y u g (Jv c) m;exact SeqAt.compareEq_shaped j k b c i ⟨.bl _,H,I,R,q⟩
end
end L2
namespace Wd
open PySem L2 Ow
mutual
theorem F0:∀(n:Nat)(d:PyData),cI n d=true->PyData.canLay0 d=true/\PyData.depth d<=n+1
 |_,.int i,_=>⟨by simp[PyData.canLay0],by simp only[PyData.depth];omega⟩
 |n,.str s,h=>⟨by cases n<;>simpa [PyData.canLay0] using (show PyData.strOk s=true from h),by simp only[PyData.depth];omega⟩
 |n+1,.tuple ds,h=>by
  have z:(decide (ds.length<=1000)&&ds.all (cI n))=true:=h;rw[Ha] at z;obtain⟨a,b⟩:=lN n ds z.2;exact⟨by simpa [PyData.canLay0] using a,by simp only[PyData.depth];omega⟩
 |0,.tuple _,h=>by cases h
 |0,.none,h=>by cases h
 |n+1,.none,h=>by cases h
 |0,.bool _,h=>by cases h
 |n+1,.bool _,h=>by cases h
 |0,.list _,h=>by cases h
 |n+1,.list _,h=>by cases h
 |0,.dict _,h=>by cases h
 |n+1,.dict _,h=>by cases h
theorem lN:∀(n:Nat)(a:List PyData),a.all (cI n)=true->PyData.canLayAll0 a=true/\PyData.depthAll a<=n+1
 |_,[],_=>⟨by simp[PyData.canLayAll0],by simp only[PyData.depthAll];omega⟩
 |n,d::a,h=>by
  rw[Jw,Ha] at h;obtain⟨b,e⟩:=F0 n d h.1;obtain⟨c,f⟩:=lN n a h.2;exact⟨by simp[PyData.canLayAll0,b,c],by simp only[PyData.depthAll];omega⟩
end
end Wd
namespace L2
open PySem PySem.Spec PyProof.Rows
section
variable{X:Cx}{pins:List (Addr × Obj)}{σ:St}{H:Hp}{s:Shared}{a:Addr}{y v:V}{u r:Value}{o:Option V}{A:Around}{E:Value -> Shared -> Prop}
theorem Inv.big(I:Inv X pins σ H s):sysModules<s.heap.objs.size:=by
 have h:mainGlobals<s.heap.objs.size:=(I.mod.glob.keeps I.bk).lt;exact Nat.lt_trans (by decide) h
end
theorem F3{P:Program}{w:World}{H:Hp}(h:Heap)(a:sysModules<h.objs.size):ObjOk P w H (h.push { cls:=.type "dict",data:=.dict #[] }) h.objs.size (.dK []):=
 ⟨Iv _,IV.mpr (Ij (Hq a)),[],.nil,Heap.DictOf.new h⟩
def zM:TE:=λ_ H Q=>∀p,H p=none->Q (.ref p) (upd H p (.dK []))
section
variable{X:Cx}{pos:Pos}
theorem F5:PE X (.Dict [] [] pos) zM:=λb s c H Q I h=>
 wpAny_Dict_empty ⟨.ref s.heap.objs.size,_,I.laid (a:=s.heap.objs.size) (o:=.dK []) (t':=s.toks) (λ_ _ q=>GR _ q) (GW _) (F3 s.heap I.big),R,h _ (I.hok.fresh (GW _))⟩
end
end L2
namespace L2
open PySem PySem.Spec
theorem Av{X:Cx}{K:PySem.W.Frag}(h:X.K=K:=by rfl):dG X (compareOp .NotIn) (mJ K true):=h▸mY
@[irreducible] def PEi(X:Cx)(e:Expr)(t:TE):Prop:=PE X e t
theorem PEi.of{X:Cx}{e:Expr}{t:TE}(h:PE X e t):PEi X e t:=by unfold PEi;exact h
theorem PEi.pe{X:Cx}{e:Expr}{t:TE}(h:PEi X e t):PE X e t:=by unfold PEi at h;exact h
@[irreducible] def PSi(X:Cx)(e:Stmt)(t:TS):Prop:=PS X e t
theorem PSi.of{X:Cx}{e:Stmt}{t:TS}(h:PS X e t):PSi X e t:=by unfold PSi;exact h
theorem PSi.ps{X:Cx}{e:Stmt}{t:TS}(h:PSi X e t):PS X e t:=by unfold PSi at h;exact h
@[irreducible] def PLi(X:Cx)(l:List Stmt)(t:TS):Prop:=PSs X l t
theorem PLi.of{X:Cx}{l:List Stmt}{t:TS}(h:PSs X l t):PLi X l t:=by unfold PLi;exact h
theorem PLi.pss{X:Cx}{l:List Stmt}{t:TS}(h:PLi X l t):PSs X l t:=by unfold PLi at h;exact h
theorem dR{X:Cx}{s:Stmt}{r:List Stmt}{b a:TS}(h1:PSi X s b)(c:PLi X r a):PLi X (s::r) (iU b a):=.of (bQ h1.ps c.pss)
theorem kY{X:Cx}{s:Stmt}{a:TS}(h:PSi X s a):PLi X [s] a:=.of (bP h.ps)
theorem kR{X:Cx}{i:Nat}{x:Str}{e:Expr}{c:TE}{b a:Pos}(d:X.N.Nodup)(hi:X.N[i]?=some x)(j:kn X.env.scope x)(f:PEi X e c)(h:swapsWith e (some (.Name x a)) b.line X.env=pure false:=by rfl)(g:X.fn x=true\/X.env.scope.names.lookup x=some .local:=by first|exact .inl rfl|exact .inr rfl|assumption):
  PSi X (.Assign [.Name x a] e b) (iW c (gn i)):=.of (cj d hi j f.pe h g)
end L2
namespace Wd
open PySem L2 Ow
theorem D7{l:List Nat}{i s:Nat}(h:l[i]?=some s)(g:Nat->Bool):cq ((l.take (i+1)).filter g)=cq ((l.take i).filter g)++(if g s=true then [.int (s:Int)] else []):=by
 rw[List.take_add_one,h,K9,JA];unfold cq;rw[GX]
 cases e:g s
 ·rw[JK (by rw[e];decide)];rfl
 ·rw[JL e];rfl
theorem yI{K:PySem.W.Frag}{a:Addr}{l:List Nat}{j b:St}{H:Hp}{n:TT}{Q:VK}(f:Nat->Bool)(q:j=none::b)(r:H a=some (.lst (cq l)))(o:l.length<=1000)
  (y:∀s∈l,∀R:Bool->Hp->Prop,R (f s) H->n (some (.int (s:Int))::b) H R)
  (t:∀p,H p=none->Q (.ref p) (upd H p (.lst (cq (l.filter f))))):
  ju (gP K a) (gn 0) n (eG 0) j H Q:=by
 refine gZ (K:=K) (a:=a) (xs:=cq l) (λi g h d=>(∃v,h=v::b)/\d=H/\g=cq ((l.take i).filter f)) ⟨⟨none,q⟩,rfl,rfl⟩ (λi g h d u pv=>?_) (λi g h d u pv=>?_) (λi x g h d m pv=>?_) (λg h d pv p w=>?_)
 ·obtain⟨_,_,rfl⟩:=pv;rw[Gz];refine bT (Hm (Ie _ _) ?_);rw[G8];omega
 ·rw[pv.2.1];exact SqL.of r
 ·obtain⟨⟨v,rfl⟩,rfl,rfl⟩:=pv;rw[GQ] at m;obtain⟨s,k,rfl⟩:=JQ.mp m;refine y s (GO k) _ ?_;have e:=D7 k f
  cases c:f s
  ·refine cX ?_;rw[c,GY (by decide),HZ] at e;exact⟨⟨_,rfl⟩,rfl,e.symm⟩
  ·refine dB ?_;rw[c,Hl rfl] at e;exact⟨_,rfl,⟨_,rfl⟩,rfl,e.symm⟩
 ·obtain⟨_,rfl,rfl⟩:=pv;have e:l.take (cq l).length=l:=by rw[show(cq l).length=l.length from Gz _,Hy]
  rw[e];exact t p w
theorem FE{n:Nat}{d b:St}{H:Hp}{l:TT}{Q:VK}(a:Nat->Bool)(o:d=none::b)(m:n<=1000)
  (t:∀s,s<n->∀R:Bool->Hp->Prop,R (a s) H->l (some (.int (s:Int))::b) H R)
  (q:∀p,H p=none->Q (.ref p) (upd H p (.lst (cq ((List.range n).filter a))))):
  ju (gK 0 n) (gn 0) l (eG 0) d H Q:=by
 refine kF (k:=n) (λi g h f=>(∃v,h=v::b)/\f=H/\g=cq ((List.range i).filter a)) ⟨⟨none,o⟩,rfl,rfl⟩ (λi g h f j pv=>?_) (λi g h f j pv=>?_) (λg h f pv p r=>?_)
 ·obtain⟨_,_,rfl⟩:=pv;rw[Gz];refine bT (Hm (Ie _ _) ?_);rw[IE];omega
 ·obtain⟨⟨v,rfl⟩,rfl,rfl⟩:=pv;refine t i j _ ?_;have e:cq ((List.range (i+1)).filter a)=cq ((List.range i).filter a)++(if a i=true then [.int (i:Int)] else []):=by
   rw[LA,JA];unfold cq;rw[GX]
   cases c:a i
   ·rw[JK (by rw[c];decide)];rfl
   ·rw[JL c];rfl
  cases c:a i
  ·refine cX ?_;rw[c,GY (by decide),HZ] at e;exact⟨⟨_,rfl⟩,rfl,e.symm⟩
  ·refine dB ?_;rw[c,Hl rfl] at e;exact⟨_,rfl,⟨_,rfl⟩,rfl,e.symm⟩
 ·obtain⟨_,rfl,rfl⟩:=pv;exact q p r
theorem Ds{H d e:Hp}(a:gv H d)(b:gv d e):gv H e:=λc f h=>b c f (a c f h)
end Wd
namespace L2
open PySem PySem.Spec PyProof.Rows
abbrev gr:List Value:=[.type "ValueError",.type "Exception",.type "BaseException",.type "object"]
abbrev fY:String := "ValueError.__new__"
structure XCls(h:Heap)(C:Addr)(bm:List Value):Prop where
 ex:∃N nm qn bs hd sn sub ab col dd k0 k1 k2 k3 k5 mN,h.get? C=some (excClassObj nm qn C N bs bm hd sn sub ab col dd k0 k1 k2 k3 k5 fY)/\h.Ns N mN/\mN "__init__" = none/\OwnTail h gr bm
theorem XCls.mk'{K:PySem.W.Frag}{h:Heap}{C:Addr}(X:K.In h)(q:PySem.W.excIn K C gr fY=true):∃bm,XCls h C bm:=by
 unfold PySem.W.excIn at q
 split at q
 case h_2=>cases q
 case h_1 od cd sl hl=>
  split at q
  case h_2=>cases q
  case h_1 C2 bm a0 a1 a2 a3 nw a5 hm hs=>
   rw[Ha,Ha,Ha,Ha,Ha,Ko,Ko,Ko,Jh] at q;obtain⟨⟨⟨⟨⟨f,g⟩,a⟩,i⟩,b⟩,j⟩:=q;subst f g;obtain⟨k,l,c,m,n,o,p,r,s,t,d⟩:=cd
   replace hm:c=.ref C2::bm:=hm
   replace a:d=false:=a
   subst hm a;obtain⟨e⟩:=sl
   replace hs:e=[a0,a1,a2,a3,some (.builtin fY),a5]:=hs
   subst hs;exact⟨bm,⟨_,_,_,_,_,_,_,_,_,_,_,_,_,_,_,_,X _ _ hl,.of_isNs (PySem.W.isNs_of_in X b),PySem.W.nsMap_none_of_in X b j,PySem.W.tail_of_in X i⟩⟩
theorem CT{M:Model}{A:Around}{E:Value->Shared->Prop}{s:Shared}{C D e:Addr}{i j:List Value}{l:Obj}{Q:Bool->Shared->Prop}(u:XCls s.heap C i)(v:XCls s.heap D j)
  (p:s.heap.get? e=some l) (a:l.cls=.ref D) (c:(Value.ref D::j).contains (.ref C)=true) (q:Q true s):wpAny M A (excMatches (.ref e) (.ref C)) Q E s:=by
 obtain⟨N,nm,qn,X,Z,sn,r,y,m,Y,k0,k1,k2,k3,k5,mN,k,_,_,tC⟩:=u.ex;obtain⟨w,I,G,U,O,W,z,J,x,B,T,S,P,F,L,H,o,_,_,tD⟩:=v.ex;obtain⟨h,g,d,t,os⟩:=s;have n:(Value.ref C::i).contains (.type "BaseException")=true:=by rw[Kn,tC.hasType (b:=true) (by decide),Bool.or_true]
 have f:=tc_notTuple;unfold excMatches
 repeat (first|(with_reducible refine Jq p ?_;rw[a])|with_reducible refine Jq k ?_|(with_reducible refine Ka k ?_;rw[n])|(with_reducible refine Ka o ?_;rw[c])|wp_step)
 exact q
section
variable{X:Cx}{pins:List (Addr × Obj)}{σ:St}{H H':Hp}{s s':Shared}{h2:Heap}
theorem wZ{h h':Heap}{c:Addr}{v:Option Value}(u:h.UpToSlots h')(x:h.IsCell c v):h'.IsCell c v:=by
 obtain⟨o,e,d⟩:=x;obtain⟨b,a⟩:=u c o e λf q=>by rw[d] at q;cases q
 exact⟨_,a,d⟩
theorem Inv.upto(E:Inv X pins σ H s)(d:Inv X pins σ H' s')(k:∀b o,s'.heap.get? b=some o->b∉dh X.stack->(H' b≠none\/∃u,s.heap.get? b=some u)->h2.get? b=some o)(u:s'.heap.UpToSlots h2):Inv X pins σ H' { s' with heap:=h2 } where
 ok:=d.ok
 os:=d.os
 bare:=d.bare
 base:=by
  have F:∀b o,X.s₀.heap.get? b=some o->b∉X.fs->b∉dh X.stack:=λb o e n z=>by
   rcases GI.mp (d.stkSub b z) with r|r
   ·have g:=GS e;have h2:=d.ok.above;rw[r] at g;exact absurd (Hj g h2) (HW _)
   ·exact n r
  refine⟨λb o e n t f=>?_,λb o e n t f=>?_,d.base.free,λb o e f=>?_,d.base.tups,d.base.frzs,d.base.tbls⟩
  ·exact k b o (d.base.keep b o e n t f) (F b o e t) (.inr ⟨_,E.base.keep b o e n t f⟩)
  ·obtain⟨S,y⟩:=d.base.slot b o e n t f;obtain⟨_,N,A,G⟩:=d.funs.mem t;rw[y] at A
   cases A
   obtain⟨O,I⟩:=u b _ y G;exact⟨O,I⟩
  ·obtain⟨M,y⟩:=d.base.there b o e f;by_cases j:b∈dh X.stack
   ·obtain⟨_,N,A,G⟩:=d.stack.mem j;obtain⟨S,I⟩:=u b N A G;exact⟨_,I⟩
   ·obtain⟨T,P⟩:=E.base.there b o e f;exact⟨M,k b M y j (.inr ⟨_,P⟩)⟩
 loc:=by
  obtain⟨m,D,Q⟩:=d.loc;refine⟨m,u.ns D,λi x v g h2 B=>?_⟩;obtain⟨w,r,l⟩:=Q i x v g h2 B;refine⟨w,r,?_⟩;rcases l with l|⟨l,c,C,J⟩
  ·exact .inl l
  ·exact .inr ⟨l,c,C,wZ u J⟩
 cell:=λx c e=>let ⟨v,h⟩:=d.cell x c e;⟨v,wZ u h⟩
 free:=d.free
 freeC:=d.freeC
 pin:=λp L=>by
  obtain⟨g,h2,B,C,J⟩:=d.pin p L;have F:p.1∉dh X.stack:=λz=>by
   rcases GI.mp (d.stkSub _ z) with r|r
   ·exact B r
   ·exact C r
  exact⟨k _ _ g F (.inr ⟨_,(E.pin p L).1⟩),h2,B,C,J⟩
 hok:=λa o e=>by
  refine(d.hok a o e).stay (λb w j q=>?_) (λ_ q=>q) λ_ _ q=>q;have D:H' b≠none:=by
   rcases j with rfl|j
   ·rw[e];exact J8 _
   ·rw[j];exact J8 _
  exact k b w q (λz=>D (d.stkFree b z)) (.inl D)
 len:=d.len
end
def eh(P:Program)(w:World):ia:=λa H s E e c=>∃(f D:Addr)(g:Value)(d:Hp)(B:Heap),e=.ref f/\c.os=s.os/\AllBare c.gens/\Un (dh a) [] H d s.heap c.heap/\HOk P w d c.heap /\
 Heap.FlyingW B a f (.ref D) g c.heap/\(∀b o,c.heap.get? b=some o->b∉dh a->(d b≠none\/∃u,s.heap.get? b=some u)->B.get? b=some o)/\d f=none/\E (.ref D) none d
theorem rQ{P:Program}{w:World}{H:Hp}{h:Heap}{a:Addr}{o:HO}(x:ObjOk P w H h a o):∃u,h.get? a=some u:=by
 cases o with
 |lst xs=>obtain⟨_,_,_,_,e⟩:=x;exact⟨_,e⟩
 |tup xs=>obtain⟨_,_,_,b,e,_⟩:=x;exact⟨_,e⟩
 |dK kvs=>obtain⟨_,_,_,_,b,_,_,e,_⟩:=x;exact⟨_,e⟩
 |dT kvs=>obtain⟨_,_,_,_,b,_,_,e,_⟩:=x;exact⟨_,e⟩
 |set S n=>obtain⟨b,_,_,_,e,_⟩:=x;exact⟨_,e⟩
 |ins C dx fs=>obtain⟨_,_,_,e,_⟩:=x;exact⟨_,e⟩
 |own y=>exact x
 |xd fs=>obtain⟨_,⟨_,_,_,e,_⟩,_⟩:=x;exact⟨_,e⟩
 |rng lo hi=>obtain⟨_,_,_,e⟩:=x;exact⟨_,e⟩
 |frz b u=>obtain⟨e,_⟩:=x;exact⟨_,e⟩
 |tbl ps=>exact⟨_,(show h.get? a=some _ from x)⟩
 |met f y=>exact⟨_,(show h.get? a=some _ from x)⟩
 |ext φ=>obtain⟨_,e,_⟩:=x;exact e
theorem yP{l:List Env}:∀a∈l,∀b,a.frame=some b->b∈dh l:=λa d b c=>K6.mpr ⟨a,d,c⟩
theorem fu{P:Program}{w:World}{K:PySem.W.Frag}{T:Str->Option Value}{base:Heap}{N:List Str}{d:Str}{c:Scope}{f:Addr}{j:Value}{A:Around}{outer:List Env}{g:Shared}{H0:Hp}{E:XK}
  {B:List (Addr×Obj)} {σ:St} {H:Hp} {s:Shared} (I:Inv (fq (eh P w) P w K T base N d c f j A outer g H0 E) B σ H s) {h1:Heap} {e D:Addr} {vs:List Value} (l:Heap.MadeExcOf s.heap h1 e (.ref D) vs) (hE:E (.ref D) none H):
  (fq (eh P w) P w K T base N d c f j A outer g H0 E).xe (.ref e) { s with heap:=h1 }:=by
 have S:∀b o,g.heap.get? b=some o->b∉dh outer->b∉dh (envOfC d c g.heap.objs.size f j::outer):=λb o e n z=>by
  rcases GI.mp (I.stkSub b z) with r|r
  ·have h1:=GS e;rw[r] at h1;exact absurd h1 (HW _)
  ·exact n r
 have y:∀b o,s.heap.get? b=some o->b∉dh (envOfC d c g.heap.objs.size f j::outer)->(PySem.W.hideAll s.heap (dh (envOfC d c g.heap.objs.size f j::outer))).get? b=some o:=λb o e n=>PySem.W.hideAll_get _ e n;refine wpAny_leaves_madeW (base:=PySem.W.hideAll s.heap (dh (envOfC d c g.heap.objs.size f j::outer))) (h:=s.heap) (L:=g.heap.objs.size) I.ok.frames rfl (λb o q=>PySem.W.of_hideAll _ q) (PySem.W.funFrames_hide I.stack yP) l λh2 t v x2 x3 Y=>?_;have X:∀b o,H b=some o->∃u,s.heap.get? b=some u/\(PySem.W.hideAll s.heap (dh (envOfC d c g.heap.objs.size f j::outer))).get? b=some u:=λb o q=>by
  obtain⟨u,k⟩:=rQ (I.hok b o q);exact⟨u,k,y b u k λz=>by have:=I.stkFree b z;rw[q] at this;cases this⟩
 refine⟨e,D,.ref t,H,_,R,I.os,I.bare,⟨λb o q n m l=>?_,λb o q n m M=>?_,λb o q n l=>I.base.free b o q n l,λb o q M=>?_,I.base.tups,I.base.frzs,I.base.tbls⟩,λa o q=>?_,v,λb o q m i=>?_,?_,hE⟩
 ·exact v.1 _ _ (y b o (I.base.keep b o q n m l) (S b o q m))
 ·obtain⟨sl,p⟩:=I.base.slot b o q n m M;obtain⟨_,U,C,O⟩:=I.funs.mem m;rw[p] at C
  cases C
  obtain⟨Z,Q⟩:=Y b _ (l.keeps _ _ p) O;exact⟨Z,Q⟩
 ·obtain⟨J,p⟩:=I.base.there b o q M;by_cases i:b∈dh (envOfC d c g.heap.objs.size f j::outer)
  ·obtain⟨_,U,C,O⟩:=I.stack.mem i;obtain⟨sl,Q⟩:=Y b U (l.keeps _ _ C) O;exact⟨_,Q⟩
  ·exact⟨J,v.1 _ _ (y b J p i)⟩
 ·refine(I.hok a o q).stay (λb u i r=>?_) (λ_ r=>r) λ_ _ r=>r;have hn:b∉dh (envOfC d c g.heap.objs.size f j::outer):=λz=>by
   have F:=I.stkFree b z;rcases i with rfl|i
   ·rw[q] at F;cases F
   ·rw[i] at F;cases F
  exact v.1 _ _ (y b u r hn)
 ·rcases i with i|⟨u,k⟩
  ·cases G:H b with
   |none=>exact absurd G i
   |some ho=>
    obtain⟨u,_,x⟩:=X b ho G;have:=v.1 _ _ x;rw[q] at this
    cases this
    exact x
  ·obtain⟨J,p⟩:=I.base.there b u k (by intro z;cases z);have x:=y b J p (S b u k m);have:=v.1 _ _ x;rw[q] at this
   cases this
   exact x
 ·cases G:H e with
  |none=>rfl
  |some ho=>
   obtain⟨u,k,_⟩:=X e ho G;rw[l.new] at k
   cases k
theorem Fun.okR{P:Program}{w:World}{K:PySem.W.Frag}{h:Str->Option Value}{base:Heap}{x a:Str}{st:Stmt}{f:Addr}{g:FuncData}{N e:List Str}{k:Nat}{sp:Sp}(F:Fun K x a st f g)(S:cR N e (cF st))(d:∀c H Q E,sp c H Q E->c.length=e.length)
  (m:∀(b:Value)(A:Around)(outer:List Env)(s:Shared)(H:Hp)(c:List V)(Q:VK)(E:XK),Room k (A.deeper (envOfC a (cF st) s.heap.objs.size f b))->sp c H Q E ->
   ∃t,PSs (fq (eh P w) P w K h base N a (cF st) f b A outer s H E) (fZ st) t/\t { nx:=λ_ i=>Q .non i,rt:=Q } (start N c) H):cC P w K h base (eh P w) (k+1) f g e sp:=by
 obtain⟨_,_,_,_,_,_,b,_,_,rfl,o,j⟩:=F.ex;refine sC o j S d λA outer s H c Q E n l=>?_;exact m b A outer s H c Q E n l
def zX(D:Addr)(W:XK)(t:TA):TS:=λ_ c H=>t c H λb a=>b.length<=1000/\W (.ref D) none a
theorem fv{X:Cx}{x:Str}{D:Addr}{np a m:Pos}{e:Expr}{f:List Expr}{O:TA}{W:XK}(hc:X.calm=true)(hg:Gl X x)(hm:X.mg x=some (.ref D))(Y:PySem.W.excIn X.K D gr fY=true)(Z:PA X (e::f) O)
  (l:∀(c:List (Addr×Obj))(k:St)(H:Hp)(s:Shared)(h1:Heap)(j:Addr)(P:List Value),Inv X c k H s->Heap.MadeExcOf s.heap h1 j (.ref D) P->W (.ref D) none H->X.xe (.ref j) { s with heap:=h1 })
  (v:starEach (e::f) X.env=(false,eval e X.env)::starEach f X.env:=by rfl) (d:(backTo a (starEach f X.env)).any (·.1)=false:=by rfl) (hd:(x==("__debug__" : Str))=false:=by decide):
  PS X (.Raise (some (.Call (.Name x np) (e::f) [] a)) none m) (zX D W O):=by
 intro c s k H Dn I h;obtain⟨o,xc⟩:=XCls.mk' I.mod.kin Y;obtain⟨N,L,qn,p,Q,M,i,n,g,t,y,A,B,E,G,J,S,T,U,u⟩:=xc.ex;have w:=Z a c s k H _ I h;refine wpAny_Raise_call_subT (C:=D) (nm:=L) (q:=qn) (N:=N) (bs:=p) (bm:=o) (hdct:=Q) (sn:=M) (sub:=i) (ab:=n) (col:=g) (dd:=t) (k0:=y) (k1:=A) (k2:=B) (k3:=E) (k5:=G) PySem.F.excBase_ValueError (mN:=J) (u.hasType (b:=true) (by decide)) (I.ok.hd hc)
  (by rw[v];show(false||(backTo a (starEach f X.env)).any (·.1))=false;rw[d];rfl) U (mh I hg hm ⟨R,?_⟩ hd)
 rw[v] at w |-;refine Calls.evalArgs_plain (IR w (λus s2 ⟨P,H1,I1,r,q1,q2⟩=>?_) λ_ _ z=>z);refine⟨R,?_,I1.bk _ _ S,T.keeps I1.bk,u.keeps I1.bk,λh1 j hx=>l c k H1 s2 h1 j _ I1 hx q2⟩;rw[<-r.length];exact Ju (i8 q1)
section
variable{X:Cx}{pins:List (Addr × Obj)}{σ:St}{H H':Hp}{s s':Shared}{h2:Heap}
def XE(X:Cx)(pins:List (Addr×Obj))(W:XK):Value->Shared->Prop:=λe s'=>∃(σ:St)(H:Hp)(s:Shared)(H':Hp)(a D:Addr)(c:Value)(B:Heap),e=.ref a/\Inv X pins σ H s/\Inv X pins σ H' s'/\Heap.FlyingW B X.stack a (.ref D) c s'.heap /\
 (∀b o,s'.heap.get? b=some o->b∉dh X.stack->(H' b≠none\/∃u,s.heap.get? b=some u)->B.get? b=some o)/\H' a=none/\W (.ref D) none H'
abbrev Cx.tryX(X:Cx)(pins:List (Addr×Obj))(W:XK):Cx:={ X with pn:=X.pn++pins,xe:=XE X pins W }
abbrev Cx.markX(X:Cx)(ea:Addr):Cx:={ X with A:=X.A.mark (some (.ref ea)),calm:=false,xe:=λ_ _=>False }
theorem Inv.toTry(I:Inv X pins σ H s)(W:XK):Inv (X.tryX pins W) [] σ H s:=
 ⟨⟨I.ok.mod,I.ok.kind,I.ok.glob,I.ok.blt,I.ok.above,I.ok.inj,I.ok.has,I.ok.cab,I.ok.hd,I.ok.frames,I.ok.stk,I.ok.exf,I.ok.bs,I.ok.bsz,I.ok.noex,I.ok.exfs,I.ok.funs,I.ok.frf⟩,I.os,I.bare,I.base,I.loc,I.cell,I.free,I.freeC,λp a=>I.pin p (by rw[HZ] at a;exact a),I.hok,I.len⟩
theorem Inv.ofTry{W:XK}{a:List (Addr×Obj)}(I:Inv (X.tryX pins W) a σ H s):Inv X pins σ H s:=
 ⟨⟨I.ok.mod,I.ok.kind,I.ok.glob,I.ok.blt,I.ok.above,I.ok.inj,I.ok.has,I.ok.cab,I.ok.hd,I.ok.frames,I.ok.stk,I.ok.exf,I.ok.bs,I.ok.bsz,I.ok.noex,I.ok.exfs,I.ok.funs,I.ok.frf⟩,I.os,I.bare,I.base,I.loc,I.cell,I.free,I.freeC,λp b=>I.pin p (IP _ b),I.hok,I.len⟩
theorem Inv.toMark(I:Inv X pins σ H s)(a:Addr):Inv (X.markX a) pins σ H s:=
 ⟨⟨I.ok.mod,I.ok.kind,I.ok.glob,I.ok.blt,I.ok.above,I.ok.inj,I.ok.has,I.ok.cab,λz=>(by cases z),I.ok.frames,I.ok.stk,I.ok.exf,I.ok.bs,I.ok.bsz,I.ok.noex,I.ok.exfs,I.ok.funs,I.ok.frf⟩,I.os,I.bare,I.base,I.loc,I.cell,I.free,I.freeC,I.pin,I.hok,I.len⟩
theorem Inv.ofMark{a:Addr}(I:Inv (X.markX a) pins σ H s)(b:X.calm=true->X.A.handled=none):Inv X pins σ H s:=
 ⟨⟨I.ok.mod,I.ok.kind,I.ok.glob,I.ok.blt,I.ok.above,I.ok.inj,I.ok.has,I.ok.cab,b,I.ok.frames,I.ok.stk,I.ok.exf,I.ok.bs,I.ok.bsz,I.ok.noex,I.ok.exfs,I.ok.funs,I.ok.frf⟩,I.os,I.bare,I.base,I.loc,I.cell,I.free,I.freeC,I.pin,I.hok,I.len⟩
theorem SP.ofTry{W:XK}{D:Ends}{f:Flow}(h:SP (X.tryX pins W) [] D f s'):SP X pins D f s':=by
 cases f with
 |next=>obtain⟨a,b,I,q⟩:=h;exact⟨a,b,I.ofTry,q⟩
 |brk=>obtain⟨a,b,I,q⟩:=h;exact⟨a,b,I.ofTry,q⟩
 |cont=>obtain⟨a,b,I,q⟩:=h;exact⟨a,b,I.ofTry,q⟩
 |ret u=>obtain⟨v,a,b,I,r,q⟩:=h;exact⟨v,a,b,I.ofTry,r,q⟩
theorem Inv.track{d:Addr}{o:HO}(i:Inv X pins σ H s)(a:Inv X pins σ H' s')(g:H' d=none)(j:s.heap.get? d=none)(new:ObjOk X.prog X.w (upd H' d o) s'.heap d o):Inv X pins σ (upd H' d o) s' where
 ok:=a.ok
 os:=a.os
 bare:=a.bare
 base:=⟨a.base.keep,a.base.slot,λb u e n r=>by
  rw[bR λz=>by
   obtain⟨B,f⟩:=i.base.there b u e r;rw[z,j] at f
   cases f]
  exact a.base.free b u e n r,a.base.there,λb xs q=>by
   have:=a.base.tups b xs q;rw[bR (cY this g)];exact this,λb u xs q=>by
   have:=a.base.frzs b u xs q;rw[bR (cY this g)];exact this,λb A q=>by
   obtain⟨h,e⟩:=a.base.tbls b A q;exact⟨h,by rw[bR (cY e g)];exact e⟩⟩
 loc:=a.loc
 cell:=a.cell
 free:=by
  rw[bR λz=>by
   obtain⟨m,⟨u,_,_,e,_⟩,_⟩:=i.loc;rw[z,j] at e
   cases e]
  exact a.free
 freeC:=λx c e=>by
  rw[bR λz=>by
   obtain⟨v,u,f,_⟩:=i.cell x c e;rw[z,j] at f
   cases f]
  exact a.freeC x c e
 pin:=λp l=>by
  obtain⟨t,h2,y⟩:=a.pin p l;refine⟨t,?_,y⟩;rw[bR λz=>by
   have:=(i.pin p l).1;rw[z,j] at this
   cases this]
  exact h2
 hok:=λb u e=>by
  by_cases k:b=d
  ·subst k;rw[bI] at e;cases e;exact new
  ·rw[bR k] at e;exact(a.hok b u e).stay (λ_ _ _ q=>q) (λc q=>by rw[bR (cY q g)];exact q) λc xs q=>by rw[bR (cY q g)];exact q
 len:=a.len
theorem Inv.gone{i t:Nat}{n:Str}{v:Option Value}(I:Inv X pins σ H s)(S:X.N.Nodup)(hi:X.N[i]?=some n)(hk:X.env.kindOf n=some .local){m:Str->Option Value}(C:s.heap.Ns X.env.locals m)(U:h2.Ns X.env.locals (λx=>if x=n then v else m x))(g:Heap.SameBut X.env.locals s.heap h2):Inv X pins (σ.set i none) H { s with heap:=h2,toks:=t }:=by
 obtain⟨D,J,T⟩:=I.loc;have O:D=m:=by
  obtain⟨o1,ae,ai,a,L,_,P⟩:=J;obtain⟨o2,ag,af,f,w,_,Q⟩:=C;rw[a] at f
  cases f
  rw[L] at w
  cases w
  funext x
  rw[<-P x,Q x]
 subst O;obtain⟨oL,_,_,ah,_⟩:=id C;have u:∀b o,X.s₀.heap.get? b=some o->b≠X.env.locals:=λb o e=>Hq (Hj (GS e) I.ok.above);refine⟨I.ok,I.os,I.bare,⟨λb o e n r h=>(g.2 b (u b o e)).trans (I.base.keep b o e n r h),λb o e n r h=>?_,I.base.free,λb o e h=>?_,I.base.tups,I.base.frzs,I.base.tbls⟩,⟨_,U,λj y v' a f M=>?_⟩,λy c e=>?_,I.free,I.freeC,λp W=>?_,λb ob e=>?_,by rw[List.length_set];exact I.len⟩
 ·obtain⟨sl,a⟩:=I.base.slot b o e n r h;exact⟨sl,(g.2 b (u b o e)).trans a⟩
 ·obtain⟨o',a⟩:=I.base.there b o e h;exact⟨o',(g.2 b (u b o e)).trans a⟩
 ·have B:j≠i:=λz=>by
   rw[z,Kv (by rw[I.len];exact(GU.mp hi).1)] at f
   cases f
  rw[KH (Ij B)] at f;obtain⟨F,r',q⟩:=T j y v' a f M;refine⟨F,r',?_⟩;rcases q with⟨k,e⟩|⟨k,c,e,z⟩
  ·refine .inl ⟨k,?_⟩;have:y≠n:=λe=>B (qW S a (e▸hi));show(if y=n then v else D y)=some F;rw[GY this];exact e
  ·exact .inr ⟨k,c,e,z.sameBut g (I.cne y c e)⟩
 ·obtain⟨G,z⟩:=I.cell y c e;exact⟨G,z.sameBut g (I.cne y c e)⟩
 ·obtain⟨e,Y,E,Z,d⟩:=I.pin p W;exact⟨(g.2 p.1 E).trans e,Y,E,Z,d⟩
 ·refine(I.hok b ob e).stay (λc G l q=>(g.2 c ?_).trans q) (λ_ q=>q) λ_ _ q=>q;rintro rfl;have A:=I.free;rcases l with rfl|l
  ·rw[A] at e;cases e
  ·rw[A] at l;cases l
end
def jS(K:PySem.W.Frag)(D C:Addr):Bool:=match K.lookup D with
 |some ⟨_,_,.cls cd,_⟩=>cd.mro.contains (.ref C)
 |_=>false
theorem zd{K:PySem.W.Frag}{h:Heap}{D C:Addr}{a:List Value}(X:K.In h)(x:XCls h D a)(q:jS K D C=true):(Value.ref D::a).contains (.ref C)=true:=by
 unfold jS at q
 split at q
 case h_2=>cases q
 case h_1 oc od cd sl hl=>
  obtain⟨_,_,_,_,_,_,_,_,_,_,_,_,_,_,_,_,e,_⟩:=x.ex;have:=X _ _ hl;rw[e] at this
  cases this
  exact q
def h7(b D:Addr):Heap->Prop:=λh=>∃a,h.get? b=some a/\a.cls=.ref D
structure gw(K:PySem.W.Frag)(D:Addr):Prop where
 cl:PySem.W.excIn K D gr fY=true
 ga:PySem.W.findIn K (.ref D) "__getattribute__" = some (some (.builtin "BaseException.__getattribute__"))
 gt:PySem.W.findIn K (.ref D) "__getattr__" = some none
 ck:PySem.W.findIn K (.ref D) "__class__" = some (some (.builtin "object.__class__"))
section
variable{prog:Program}{w:World}{A:Around}{E:Value -> Shared -> Prop}{h:Heap}{g:Array GenState}{d:Drawn}{t:Nat}{os:OsState}{a D:Addr}{o:Obj}{K:PySem.W.Frag}{bD:List Value}
theorem Al{R:Result->Shared->Prop}(k:XCls h D bD)(e:h.get? a=some o)(c:o.cls=.ref D)(l:R (.ok (.ret (.ref D))) ⟨h,g,d,t,os⟩):
  codeAny (model prog w) A (.call (.builtin "getset_descriptor.__get__") ⟨[.builtin "object.__class__",.ref a,.ref D],[]⟩) R ⟨h,g,d,t,os⟩:=by
 obtain⟨_,_,_,_,_,_,_,_,_,_,_,_,_,_,_,_,f,_,_,j⟩:=k.ex;have i:(Value.ref D::bD).contains (.type (".".intercalate ("object.__class__".cutAt '.').dropLast))=true:=by
  rw[PySem.F.owner_object_class,Kn,j.hasType (b:=true) (by decide)];rfl
 refine KJ KS.plain PySem.F.entry_gs_get (KS.check _ _ _ _ _ _ _ _ (show(⟨h,g,d,t,os⟩:Shared).TypeIs (.builtin "object.__class__") "getset_descriptor" from JY) (PySem.F.args_gs_get _ _ _) ?_)
 repeat (any_goals (first|assumption|(with_reducible refine Jq e ?_;rw[c])|(with_reducible refine Ka f ?_;rw[i])|wp_step))
 refine⟨Code.quiet_builtin _ (by decide +kernel),Jl PySem.F.entry_object_class ?_⟩
 repeat (any_goals (first|assumption|(with_reducible refine Jq e ?_;rw[c])|wp_step))
theorem Fu{tk:Tok}{Q:Fin->Shared->Prop}(X:K.In h)(G:gw K D)(e:XCls h D bD)(c:h.get? a=some o)(b:o.cls=.ref D)(l:Q (.done (.ret (.ref D))) ⟨h,g,d,t,os⟩):
  wpAny (model prog w) A (Builtin.«object.__getattribute__» ⟨[.ref a,.str "__class__" tk],[]⟩) Q E ⟨h,g,d,t,os⟩:=by
 have f:(⟨h,g,d,t,os⟩:Shared).TypeIs (.builtin "object.__class__") "getset_descriptor" := JY;have i:=JY;have j:=KS.lookup;have k:=PySem.F.slot_gs_set.lookup
 repeat (any_goals (first|assumption|(with_reducible refine Jq c ?_;rw[b])|(with_reducible refine(KI X G.ck).at ?_)|wp_step))
 refine Al e c b ?_
 repeat (any_goals (first|assumption|wp_step|done))
theorem F9{M:Model}{v:Value}{Q:Unit->Shared->Prop}(n:XCls h D bD)(l:h.get? a=some o)(j:o.cls=.ref D)(k:Q () ⟨h,g,d,t,os⟩):wpAny M A (checkBuiltinCall "BaseException.__getattribute__" ⟨[.ref a,v],[]⟩) Q E ⟨h,g,d,t,os⟩:=by
 obtain⟨_,_,_,_,_,_,_,_,_,_,_,_,_,_,_,_,f,_,_,m⟩:=n.ex;have c:builtinKind "BaseException.__getattribute__" = some .slot:=by decide +kernel
 have e:splitId "BaseException.__getattribute__" = some ("BaseException", "__getattribute__"):=by decide +kernel
 have i:(Value.ref D::bD).contains (.type "BaseException")=true:=by rw[Kn,m.hasType (b:=true) (by decide),Bool.or_true]
 have p:=PySem.F.args_bexc_ga (.ref a) v;simp only[checkBuiltinCall,c,e];refine GD ?_;unfold isInstance
 repeat (first|(with_reducible refine Jq l ?_;rw[j])|(with_reducible refine Ka f ?_;rw[i])|wp_step)
 exact k
theorem AF{tk:Tok}{Q:Value->Shared->Prop}(X:K.In h)(G:gw K D)(f:XCls h D bD)(e:Slot "ValueError" "__getattribute__" "BaseException.__getattribute__")(c:h.get? a=some o)(b:o.cls=.ref D)(l:Q (.ref D) ⟨h,g,d,t,os⟩):
  wpAny (model prog w) A (getAttrBy (.ref a) (.str "__class__" tk) false) Q E ⟨h,g,d,t,os⟩:=by
 have k:=e.bind (.ref a);have i:(Value.builtin "BaseException.__getattribute__" == Value.builtin "object.__getattribute__")=false:=by decide +kernel
 have j:(onTheHeap (Value.ref D)&&Value.builtin "BaseException.__getattribute__" == Value.builtin "object.__getattribute__")=false:=by rw[i];rfl
 repeat (any_goals (first|assumption|(with_reducible refine Jq c ?_;rw[b])|(with_reducible refine(KI X G.ga).at ?_)|(with_reducible refine(KI X G.gt).at ?_)|wp_step))
 refine KJ e.plain PySem.F.entry_bexc_ga (F9 f c b (Fu X G f c b ?_))
 repeat (any_goals (first|assumption|wp_step|done))
theorem ze{Q:Option Value->Shared->Prop}(X:K.In h)(G:gw K D)(f:XCls h D bD)(b:Slot "ValueError" "__getattribute__" "BaseException.__getattribute__")(e:h.get? a=some o)(c:o.cls=.ref D)(i:Q (some (.ref D)) ⟨h,g,d,t+1,os⟩):
  wpAny (model prog w) A (getAttr? (.ref a) "__class__") Q E ⟨h,g,d,t,os⟩:=by
 unfold getAttr? getAttrBy?
 repeat (any_goals (first|assumption|with_reducible apply AF X G f b e c|wp_step))
end
theorem re{K:PySem.W.Frag}{a D:Addr}(G:gw K D):PySem.W.KitX K (.ref a) (.ref D) (h7 a D) where
 ty:=λM h _ ⟨_,c,e⟩=>e▸(PySem.W.Looks.ld c).andThen .now
 it:=λ_ h X _=>by
  obtain⟨_,b⟩:=XCls.mk' X G.cl;obtain⟨_,_,_,_,_,_,_,_,_,_,_,_,_,_,_,_,f,_⟩:=b.ex;intro l r m v k q;unfold isType loadHead;exact GD (wpAny_loadPart (k _ _ f) (GV q))
 ne:=λh x u j n w X i=>Ho.mpr λq=>by
  cases Value.ref.inj (Ko.mp q)
  obtain⟨_,b⟩:=XCls.mk' X G.cl;obtain⟨_,_,_,_,_,_,_,_,_,_,_,_,_,_,_,_,f,_⟩:=b.ex;have z:=ID Obj.data (HI (f.symm.trans i))
  cases z
 ca:=λ{_ _ _ _ _ s} X p k=>by
  obtain⟨_,b⟩:=XCls.mk' X G.cl;obtain⟨o,c,e⟩:=p;obtain⟨h,g,d,t,os⟩:=s;exact ze X G b PySem.F.attr_ValueError.ga c e k
theorem oX{X:Cx}{K:PySem.W.Frag}(k:X.K=K:=by rfl):eM X (.builtin "isinstance") (λj H Q=>∃(a D:Addr)(c:V)(b:Bool),j=[.ref a,c]/\H a=some (.ext (h7 a D))/\gw K D /\
  ((∃C,c=.ref C/\PySem.W.kitOne K (.ref D) (.ref C)=some b)\/∃T,c=.ty T/\PySem.W.kitOne K (.ref D) (.type T)=some b)/\Q (.bl b) H):=by
 subst k;intro f s t H j o Q I r h;obtain⟨a,D,c,b,rfl,l,G,m,q⟩:=h;obtain⟨u,i,rfl,n,g⟩:=mB r
 cases(show u=Value.ref a from n)
 have p:h7 a D s.heap:=(show ObjOk X.prog X.w H s.heap a (.ext (h7 a D)) from I.hok a _ l).1;rcases m with⟨C,rfl,e⟩|⟨T,rfl,e⟩
 ·cases(show i=Value.ref C from g)
  exact IC (re G) I.kIn p e (λz=>nomatch z) λd=>⟨.bl b,H,I.tok d,R,q⟩
 ·cases(show i=Value.type T from g)
  exact IC (re G) I.kIn p e (λz=>nomatch z) λd=>⟨.bl b,H,I.tok d,R,q⟩
theorem ym:bootBuiltins "ValueError" = some (.type "ValueError"):=by decide +kernel
theorem fj{P:Program}{w:World}{K:PySem.W.Frag}{Y:Str->Option Value}{base:Heap}{N:List Str}{i:Str}{a:Scope}{f:Addr}{C:Value}{A:Around}{outer:List Env}{J:Shared}{H0:Hp}{E:XK}:
  mr (eh P w) (fq (eh P w) P w K Y base N i a f C A outer J H0 E) E:=λG σ H s e s' I h=>by
 obtain⟨Q,D,L,y,B,rfl,os,k,un,v,S,x,X,T⟩:=h;have p:=I.call' os un v k (λb z=>by cases z);refine wpAny_leaves_onW I.ok.frames rfl S λh2 c u2=>?_;have t:=I.upto p (λb o e n d=>c.1 _ _ (x b o e n d)) u2;refine⟨Q,D,L,y,B,R,t.os,t.bare,t.base,t.hok,c,λb o q U d=>?_,X,T⟩;have m:b∉dh (envOfC i a J.heap.objs.size f C::outer):=λz=>by
  rcases d with d|⟨u,j⟩
  ·exact d (p.stkFree b z)
  ·rcases GI.mp (I.stkSub b z) with r|r
   ·have g:=GS j;rw[r] at g;exact absurd g (HW _)
   ·exact U r
 rcases d with d|⟨u,j⟩
 ·cases F:y b with
  |none=>exact absurd F d
  |some ho=>
   obtain⟨u,j⟩:=rQ (p.hok b ho F);have g:=x b u j m (.inl d);have l:=c.1 _ _ g;rw[q] at l
   cases l
   exact g
 ·obtain⟨Z,M⟩:=I.base.there b u j (by intro z;cases z);obtain⟨o2,O⟩:=p.base.there b u j (by intro z;cases z);have g:=x b o2 O m (.inr ⟨Z,M⟩);have l:=c.1 _ _ g;rw[q] at l
  cases l
  exact g
end L2
namespace Wd
open PySem L2 Ow
theorem kP{H:Hp}{a:Addr}{o o':HO}(h:H a=some o)(d:∀xs,o≠.tup xs):gv H (upd H a o'):=λb xs c=>by
 have n:b≠a:=λz=>by
  rw[z,h] at c;exact d xs (HI c)
 rw[bR n];exact c
end Wd
namespace L2
open PySem PySem.Spec
theorem zK{X:Cx}{K:PySem.W.Frag}(h:X.K=K:=by rfl):eM X (.type "tuple") (λb H Q=>∃p a,b=[V.ref p]/\((SqL K H p a/\∀l,H l=none->Q (.ref l) (upd H l (.tup a)))\/SqT K H p a/\Q (.ref p) H)):=h▸i5
end L2
namespace Wd
open PySem L2 Ow
def F4(K:PySem.W.Frag):Sp:=λi H Q _=>∃(b f:Addr)(h:List Int)(g:Addr)(u:Int)(a:List Int)(m:Int)(k:Int),i=[.ref b,.int u,.ref g]/\Pen K H b f h k/\0<=k/\k<=950000/\H g=some (.tup (a.map V.int))/\a.length<=9/\0<=u/\a≠[]/\cZ m (a.map PyData.int) u=true /\
 ∀(d:PyData)(v:V)(e:Int)(c:Hp),SameX b H c->c b=some (.lst [.ref f,.int e])->k<=e->e<=k+3->Dn c d v->gF m d=true->cI 3 d=true->eH d=a->Q v c
theorem wz{m:Nat}{top:Int}{a:List PyData}(b:a.all gI=true)(c:cZ (m:Int) (a.map fX) (-1)=true)(d:0<a.length):fm m (.tuple [.str ("most" : Str),.int top,.tuple a])=true:=by
 show gu m ("most" : Str) (.int top) (.tuple a)=true;unfold gu;rw[Hl rfl];show(true&&(decide (0<a.length)&&a.all gI&&cZ m (a.map fX) (-1)))=true;rw[GF d,b,c]
 rfl
theorem qK{m:Nat}{top:Int}{a:List PyData}(b:a.all (cI 1)=true)(c:a.length<=1000):cI 3 (.tuple [.str ("most" : Str),.int top,.tuple a])=true:=by
 have d:cI 2 (.tuple a)=true:=by
  show(decide (a.length<=1000)&&a.all (cI 1))=true;rw[GF c,b]
  rfl
 show(true&&(cI 2 (.str ("most" : Str))&&(cI 2 (.int top)&&(cI 2 (.tuple a)&&true))))=true;rw[show cI 2 (.str ("most" : Str))=true from DE,d]
 rfl
theorem _root_.Ow.PairsTo.snoc{H:Hp}{i:Nat}{b:List PyData}{xs:List V}{c:Addr}{x:Int}(a:PairsTo H i b xs)(h:H c=some (.tup [.int (i:Int),.int x])):PairsTo H (i+1) (b++[.tuple [.int (i:Int),.int x]]) (xs++[.ref c]):=by
 refine⟨?_,?_,?_,?_,?_⟩
 ·exact a.dn.append ⟨_,[],R,⟨c,_,R,h,_,_,R,R,_,_,R,R,R⟩,R⟩
 ·rw[Kf,a.ok]
  rfl
 ·rw[Kf,a.flat]
  rfl
 ·rw[GX];show cZ ((i+1:Nat):Int) (b.map fX++[.int (i:Int)]) (-1)=true;exact m5 (by omega) a.ris (by omega)
 ·rw[GC,JU];have:=a.few;omega
theorem _root_.Ow.PairsTo.up{H:Hp}{i:Nat}{b:List PyData}{xs:List V}(a:PairsTo H i b xs):PairsTo H (i+1) b xs:=⟨a.dn,a.ok,a.flat,m7 (by omega) a.ris,Nat.le_succ_of_le a.few⟩
theorem _root_.Ow.PairsTo.tupS{H b:Hp}(t:gv H b){i:Nat}{c:List PyData}{xs:List V}(a:PairsTo H i c xs):PairsTo b i c xs:=⟨DnL.tupS t a.flat a.dn,a.ok,a.flat,a.ris,a.few⟩
theorem Ef{H:Hp}{m:Nat}{a:Addr}{o x:Int}(c:0<=o)(b:o<m)(h:H a=some (.tup [.int o,.int x])):PairsTo H m [.tuple [.int o,.int x]] [.ref a]:=by
 refine⟨⟨_,[],R,⟨a,_,R,h,_,_,R,R,_,_,R,R,R⟩,R⟩,R,R,?_,by show 1<=m;omega⟩;have:=m5 (m:=(m:Int)) (j:=o) b (ks:=[]) (u := -1) rfl (by omega);exact this
end Wd
namespace L2
open PySem PySem.Spec PyProof.Rows
section
variable{X:Cx}
def zI:V->List V->Hp->VK->Prop:=λx b H Q=>∃(l:Addr)(a:List V)(y:V)(j:Nat),x=.ref l/\b=[y]/\H l=some (.lst a)/\iF y=true/\a.all iF=true/\(a[j]?.map λz=>ib z y)=some true/\(∀i,i<j->(a[i]?.map λz=>ib z y)=some false)/\Q (.int (j:Int)) H
theorem Ga:lG X "list.index" zI:=by
 intro p s U H x T v S Q I L J h;obtain⟨l,a,y,j,rfl,rfl,D,C,g,b,A,q⟩:=h
 cases L
 obtain⟨u,rfl,G⟩:=J.one;obtain⟨z,d,n,r,P,e⟩:=I.lstM D;have N:=r.length;have o:j<a.length:=by
  rcases KY j a.length with z|z
  ·exact z
  ·rw[Ja z] at b
   cases b
 have at_:∀i (f:i<a.length) (k:i<d.length),fP y d[i]=ib a[i] y:=by
  intro i f k;obtain⟨w,c,E⟩:=r.get (GG f);rw[GG k] at c
  cases c
  exact rW E (Hv.mp g _ (IH f))
 have B:(j:Int)<2^63-1:=by
  have O:((a.length:Nat):Int)<((2^63:Nat):Int):=Int.ofNat_lt.mpr (HJ z jN);have M:((2^63:Nat):Int)=2^63:=rfl;omega
 refine J2 F.slot_list_index ⟨_,e,R⟩ F.entry_list_index (F.args_list_index_2 _ _) (SeqAt.list_indexAt l d.toArray n none #[] u (fP y) j (by rw[Hb];omega) B ?_ ?_) ⟨e,λw c=>kQ G C r g w (by simpa using c),?_⟩
 ·rw[List.getElem_toArray,at_ j o (by omega)];rw[GG o] at b;exact HI b
 ·intro i m t;rw[Hb] at m;rw[List.getElem_toArray,at_ i (by omega) m];have:=A i t;rw[GG (by omega)] at this;exact HI this
 ·exact⟨.int (j:Int),H,I.tok _,⟨_,R⟩,q⟩
end
end L2
namespace Wd
open PySem L2 Ow
def A0(L:List Bg)(C:List Tie):List Tie:=L.map Bg.tie++C
theorem uM:∀a:List (Nat×Int),(a.map pairD).all (cI 1)=true
 |[]=>rfl
 |p::a=>by
  rw[HD,Jw,uM a]
  rfl
theorem nq{u:Nat}{lo hi:Int}{ks:List Nat}(h:ks.length<=1000):cI 3 (Tie.bough u lo hi ks).toD=true:=by
 have:=wf (u:Int) lo hi (ks.map λk:Nat=>(k:Int)) (by rw[Gz];exact h);unfold mC at this;rw[HN] at this;exact this
theorem vH{m:Nat}{t:Tie}(c:t.Ok m)(d:m<=900):cI 3 t.toD=true:=by
 cases t with
 |bough u lo hi ks=>exact nq (Hm c.few (by omega))
 |needs a b=>
  show(true&&(cI 2 (.str ("needs" : Str))&&(true&&(true&&true))))=true;rw[show cI 2 (.str ("needs" : Str))=true from qk]
  rfl
 |bans a b=>
  show(true&&(cI 2 (.str ("bans" : Str))&&(true&&(true&&true))))=true;rw[show cI 2 (.str ("bans" : Str))=true from qu]
  rfl
 |most top ps=>exact qK (m:=m) (uM ps) (by rw[Gz];exact Hm c.2.2.2 (by omega))
theorem qR{m:Nat}{a:List Tie}(d:∀t∈a,t.Ok m)(c:m<=900):(a.map Tie.toD).all (cI 3)=true:=by
 rw[List.all_map,Hv];exact λt b=>vH (d t b) c
theorem wY{H:Hp}:∀ks:List Nat,DnL H (ks.map λk:Nat=>PyData.int (k:Int)) (cq ks)
 |[]=>rfl
 |k::ks=>⟨_,_,rfl,rfl,wY ks⟩
def TiesAt(H:Hp)(p:Addr)(b:List Tie):Prop:=∃a,H p=some (.tup a)/\DnL H (b.map Tie.toD) a
theorem TiesAt.same{H a:Hp}{p:Addr}{b:List Tie}(s:Same H a)(h:TiesAt H p b):TiesAt a p b:=by
 obtain⟨e,c,d⟩:=h;exact⟨e,s _ _ c,DnL.same s _ _ d⟩
theorem TiesAt.tupS{H b:Hp}{p:Addr}{m:Nat}{a:List Tie}(t:gv H b)(f:∀t∈a,t.Ok m)(e:m<=900)(h:TiesAt H p a):TiesAt b p a:=by
 obtain⟨g,c,d⟩:=h;exact⟨g,t _ _ c,DnL.tupS t (qR f e) d⟩
structure WoodP(H:Hp)(wd tb tc:Addr)(m:Nat)(L:List Bg)(C:List Tie):Prop where
 at_:H wd=some (.tup [.int (m:Int),.ref tb,.ref tc])
 bs:TiesAt H tb (L.map Bg.tie)
 cs:TiesAt H tc C
 okb:∀b∈L,Tie.BoughOkW m b.u b.lo b.hi b.ks
 okc:∀t∈C,t.Ok m
 nb:∀t∈C,∀u lo hi ks,t≠.bough u lo hi ks
 m1:1<=m
 m9:m<=9
 fewb:L.length<=20
 fewc:C.length<=20
theorem WoodP.same{H a:Hp}{c tb b:Addr}{m:Nat}{L:List Bg}{C:List Tie}(s:Same H a)(h:WoodP H c tb b m L C):WoodP a c tb b m L C:=⟨s _ _ h.at_,h.bs.same s,h.cs.same s,h.okb,h.okc,h.nb,h.m1,h.m9,h.fewb,h.fewc⟩
theorem WoodP.ok{H:Hp}{e tb d:Addr}{m:Nat}{L:List Bg}{C:List Tie}(h:WoodP H e tb d m L C):∀t∈A0 L C,t.Ok m:=λt c=>by
 rcases GL.mp c with z|z
 ·obtain⟨b,a,rfl⟩:=Hc.mp z;exact h.okb b a
 ·exact h.okc t z
theorem WoodP.tupS{H b:Hp}{d tb c:Addr}{m:Nat}{L:List Bg}{C:List Tie}(s:gv H b)(h:WoodP H d tb c m L C):WoodP b d tb c m L C:=⟨s _ _ h.at_,h.bs.tupS s (m:=m) (λt a=>h.ok t (GL.mpr (.inl a))) (by have:=h.m9;omega),h.cs.tupS s (m:=m) (λt a=>h.ok t (GL.mpr (.inr a))) (by have:=h.m9;omega),h.okb,h.okc,h.nb,h.m1,h.m9,h.fewb,h.fewc⟩
theorem WoodX.parts{H:Hp}{k:Addr}{m:Nat}{bs cs:List PyData}(h:WoodX H k m bs cs):∃(tb g:Addr)(L:List Bg)(C:List Tie),WoodP H k tb g m L C/\bs=(L.map Bg.tie).map Tie.toD/\cs=C.map Tie.toD:=by
 obtain⟨D,E,⟨tb,g,r,s,v⟩,p,q⟩:=h.ex;obtain⟨L,e,B⟩:=xB h.gb.each;obtain⟨C,d,i⟩:=u7 (P:=λt=>t.Ok m/\∀u lo y A,t≠.bough u lo y A) (l:=cs) λx z=>by
  obtain⟨t,a,b,c⟩:=CK (h.gc x z);exact⟨t,a,b,c⟩
 have n:=h.b8;have o:=h.c8;have j:bs=(L.map Bg.tie).map Tie.toD:=by rw[e,HN];rfl
 refine⟨tb,g,L,C,⟨r,⟨D,s,by rw[<-j];exact p⟩,⟨E,v,by rw[<-d];exact q⟩,λb w=>(B b w).toBoughOkW,λt f=>(i t f).1,λt f=>(i t f).2,h.m1,h.m9,?_,?_⟩,j,d⟩
 ·rw[e,Gz] at n;omega
 ·rw[d,Gz] at o;omega
theorem CU{n:Nat}{c:List PyData}(h:c.all (cI n)=true)(d:n<=60):SeqAt.shaped (.list c)=true:=by
 obtain⟨a,b⟩:=lN n _ h;unfold SeqAt.shaped;rw[Ha];refine⟨by simpa [PyData.canLay0] using a,GF ?_⟩;simp only[PyData.depth];omega
theorem pw_ext:∀{A B:List Nat},A.Pairwise (·<·)->B.Pairwise (·<·)->(∀x,x∈A↔x∈B)->A=B
 |[],[],_,_,_=>rfl
 |[],b::r,_,_,h=>nomatch (h b).mpr GM
 |a::r,[],_,_,h=>nomatch (h a).mp GM
 |a::r,b::r',pa,pb,h=>by
  rw[IQ] at pa pb;have e:a=b:=by
   rcases GI.mp ((h a).mp GM) with z|z
   ·exact z
   ·rcases GI.mp ((h b).mpr GM) with y|y
    ·exact y.symm
    ·have:=pa.1 b y;have:=pb.1 a z;omega
  subst e;congr 1;refine pw_ext pa.2 pb.2 λx=>⟨λc=>?_,λc=>?_⟩
  ·rcases GI.mp ((h x).mp (GP _ c)) with z|z
   ·have:=pa.1 x c;omega
   ·exact z
  ·rcases GI.mp ((h x).mpr (GP _ c)) with z|z
   ·have:=pb.1 x c;omega
   ·exact z
def rS(m:Nat)(L:List Bg)(C:List Tie):PyData:=.tuple [.int (m:Int),.tuple ((L.map Bg.tie).map Tie.toD),.tuple (C.map Tie.toD)]
theorem WoodP.dn{H:Hp}{a tb b:Addr}{m:Nat}{L:List Bg}{C:List Tie}(h:WoodP H a tb b m L C):Dn H (rS m L C) (.ref a):=by
 obtain⟨g,e,c⟩:=h.bs;obtain⟨i,f,d⟩:=h.cs;exact⟨a,_,R,h.at_,_,_,R,R,_,_,R,⟨tb,_,R,e,c⟩,_,_,R,⟨b,_,R,f,d⟩,R⟩
end Wd
namespace L2
open PySem PySem.Spec PyProof.Rows
theorem wo{K:PySem.W.Frag}{t:Value}:∀{b:List Addr} {a:List Value},Vals (b.map V.ref) a->(∀C∈b,PySem.W.kitOne K t (.ref C)=some false)->PySem.W.kitAny K t a=some false
 |[],a,r,_=>by cases r;rfl
 |C::b,a,r,h=>by
  cases r with
  |cons rx rt=>
   cases(show _=Value.ref C from rx)
   unfold PySem.W.kitAny;rw[h C GM];exact wo rt λD c=>h D (GP _ c)
theorem AZ{X:Cx}{K:PySem.W.Frag}(k:X.K=K:=by rfl):eM X (.builtin "isinstance") (λe H Q=>∃(a D b:Addr)(c:List Addr),e=[.ref a,.ref b]/\H a=some (.ext (h7 a D))/\gw K D/\H b=some (.tup (c.map V.ref)) /\
  (∀C∈c,PySem.W.kitOne K (.ref D) (.ref C)=some false)/\Q (.bl false) H):=by
 subst k;intro d s O H e N Q I r h;obtain⟨a,D,b,c,rfl,l,G,t,m,q⟩:=h;obtain⟨u,E,rfl,y,A⟩:=mB r
 cases(show u=Value.ref a from y)
 cases(show E=Value.ref b from A)
 have p:h7 a D s.heap:=(show ObjOk X.prog X.w H s.heap a (.ext (h7 a D)) from I.hok a _ l).1;obtain⟨F,x,v,L⟩:=I.tuple (.inl (.inl t));obtain⟨o,g,i,n,j⟩:=v;obtain⟨cl,J,f,M⟩:=o
 cases(show cl=_ from i)
 cases(show f=_ from j)
 exact PySem.W.kia_tup (re G) I.kIn p g (wo x m) (λz=>nomatch z) λB=>⟨.bl false,H,I.tok B,R,q⟩
end L2
namespace Wd
open PySem L2 Ow
theorem vj{m:Int}:∀{ks:List Nat} {u:Int},ks.Pairwise (·<·)->(∀k∈ks,u<(k:Int)/\(k:Int)<m)->cZ m ((ks.map λk:Nat=>(k:Int)).map PyData.int) u=true
 |[],_,_,_=>rfl
 |k::ks,u,pw,h=>by
  obtain⟨b,c⟩:=IQ.mp pw;have d:=h k GM;show(decide (u+1<=(k:Int))&&decide ((k:Int)<=m-1)&&cZ m _ (k:Int))=true;rw[GF (by omega),GF (by omega),vj c λx a=>⟨by have:=b x a;omega,(h x (GP _ a)).2⟩]
  rfl
theorem FN{m:Nat}{t:Tie}(h:t.Ok m)(n:∀u lo hi ks,t≠.bough u lo hi ks):fm m t.toD=true:=by
 cases t with
 |bough u lo hi ks=>exact absurd rfl (n u lo hi ks)
 |needs a b=>
  obtain⟨c,f,g⟩:=h;show gu m ("needs" : Str) (.int (a:Int)) (.int (b:Int))=true;unfold gu;rw[GY (by decide +kernel),Hl (.inl rfl)];show((decide (0<=(a:Int))&&decide ((a:Int)<=(m:Int)-1))&&((decide (0<=(b:Int))&&decide ((b:Int)<=(m:Int)-1))&&!decide ((a:Int)=(b:Int))))=true;rw[GF (by omega),GF (by omega),GF (by omega),GF (by omega),GZ (by omega)]
  rfl
 |bans a b=>
  obtain⟨c,f,g⟩:=h;show gu m ("bans" : Str) (.int (a:Int)) (.int (b:Int))=true;unfold gu;rw[GY (by decide +kernel),Hl (.inr rfl)];show((decide (0<=(a:Int))&&decide ((a:Int)<=(m:Int)-1))&&((decide (0<=(b:Int))&&decide ((b:Int)<=(m:Int)-1))&&!decide ((a:Int)=(b:Int))))=true;rw[GF (by omega),GF (by omega),GF (by omega),GF (by omega),GZ (by omega)]
  rfl
 |most top ps=>
  obtain⟨c,f,g,o⟩:=h;refine wz (m:=m) ?_ ?_ ?_
  ·rw[Hv];intro d i;obtain⟨p,_,rfl⟩:=Hc.mp i
   rfl
  ·have e:(ps.map pairD).map fX=((ps.map (·.1)).map λk:Nat=>(k:Int)).map PyData.int:=by
    rw[HN,HN,HN]
    rfl
   rw[e];refine vj g λk j=>?_;obtain⟨p,l,rfl⟩:=Hc.mp j;have:=f p l;omega
  ·rw[Gz];exact Hx.mpr c
theorem Fk{m:Nat}{t:Tie}(d:t.Ok m)(e:m<=9)(c:∀u lo hi ks,t≠.bough u lo hi ks):ka t.toD:=by
 cases t with
 |bough u lo hi ks=>exact absurd rfl (c u lo hi ks)
 |needs a b=>exact trivial
 |bans a b=>exact trivial
 |most top ps=>
  show(ps.map pairD).length<=_;rw[Gz];exact Hm d.2.2.2 (by omega)
theorem Go(b:Bg):eH b.tie.toD=b.ks.map λk:Nat=>(k:Int):=by
 show(b.ks.map λk:Nat=>PyData.int (k:Int)).map kr=_;rw[HN]
 rfl
theorem qX(L:List Bg):((L.map Bg.tie).map Tie.toD).flatMap eH=(L.flatMap Bg.ks).map λk:Nat=>(k:Int):=by
 rw[HN,List.flatMap_map,List.map_flatMap];have e:(λb:Bg=>eH ((Tie.toD∘Bg.tie) b))=λb:Bg=>b.ks.map λk:Nat=>(k:Int):=funext λb=>Go b;exact ID (λf=>L.flatMap f) e
end Wd
namespace L2
open PySem PySem.Spec PyProof.Rows Wd
def yh(b:TE):TE:=λc H Q=>b c H λv a=>∃i:Int,v=.int i/\0<=i/\i<=1000/\∀z:Str,Q (.str z) a
theorem sO{X:Cx}{e:Expr}{g:TE}{x y:Str}{k1 k2:_}{p r w A:Pos}(m:PE X e g)(c:x.length<=100:=by decide)(f:y.length<=100:=by decide):
  PE X (.JoinedStr [.Constant (.str x) k1 p,.FormattedValue e (-1) none r,.Constant (.str y) k2 w] A) (yh g):=by
 intro a s B H Q I h;have n:∀i:Int,0<=i->i<=1000->i.natAbs.log2<1920:=λi j l=>by
  by_cases z:i.natAbs=0
  ·rw[z];decide
  ·have := (Nat.log2_lt z (k := 1920)).mpr (HJ (show i.natAbs <= 1000 by omega) (by
    calc 1000<2^10:=by decide
     _<=2^1920:=J1 (by decide) (by decide)))
   exact this
 have o:∀i:Int,0<=i->i<=1000->(Str.ofString (toString i)).length<=6:=λi j l=>by
  rw[PySem.ofString_length];exact int_text_length_le10 (k:=5) (by decide) (by omega)
 have b:(Str.empty++x).length=x.length:=by
  rw[Ke];exact Nat.zero_add _
 refine wpAny_JoinedStr ?_;refine K1 ⟨x,_,R,?_,?_⟩
 ·rw[b,HF];omega
 refine wpAny_FormattedValue_plain (bZ (m a _ B H _ (I.tok _) h) λv C ⟨u,H1,I1,r1,i,e1,i0,i1,q⟩=>?_);subst e1;obtain⟨t,rfl⟩:=r1;have d:=o i i0 i1;refine wpAny_formatField_int (n i i0 i1) ⟨_,_,R,?_,?_⟩
 ·rw[Ke,b,HF];exact Hm (Kw c d) (by decide)
 refine K1 ⟨y,_,R,?_,?_⟩
 ·rw[Ke,Ke,b,HF];exact Hm (Kw (Kw c d) f) (by decide)
 refine⟨?_,.str _,H1,((I1.tok _).tok _).tok _,⟨_,R⟩,q _⟩;rw[Ke,Ke,b,HF];exact Hm (Kw (Kw c d) f) (by decide)
@[irreducible] def PAi(X:Cx)(a:List Expr)(t:TA):Prop:=PA X a t
theorem PAi.of{X:Cx}{a:List Expr}{t:TA}(h:PA X a t):PAi X a t:=by unfold PAi;exact h
theorem PAi.pa{X:Cx}{a:List Expr}{t:TA}(h:PAi X a t):PA X a t:=by unfold PAi at h;exact h
theorem iM{X:Cx}:PAi X [] gN:=.of bG
theorem cH{X:Cx}{e:Expr}{c:List Expr}{d:TE}{f:TA}(a:PEi X e d)(b:PAi X c f)(g:starEach (e::c) X.env=(false,eval e X.env)::starEach c X.env:=by rfl):PAi X (e::c) (gm d f):=.of (bE a.pe b.pa g)
theorem wT{X:Cx}{b:List Expr}{t:TA}{x1}{a:Pos}(h:PAi X b t):PEi X (.Tuple b x1 a) (tm t):=.of (dN h.pa)
theorem jG{X:Cx}{b:List Expr}{t:TA}{a:Pos}(h:PAi X b t):PEi X (.List b a) (gO t):=.of (cB h.pa)
end L2
namespace Wd
open PySem L2 Ow
def jh(e f g:PyData):Prop:=∃(a:Int)(d b:List PyData),e=.int a/\1<=a/\a<=9/\f=.list d/\g=.list b/\hV a d/\b.length<=8/\∀c∈b,fm a c=true
def td(b:PyData):Prop:=∀a,b=.list a->a.length<=60/\(a.flatMap eH).length<=60
def sR(b:PyData):Prop:=∀a,b=.list a->a.length<=60/\∀c∈a,ka c
def ED(D:Addr):Sp:=λe H Q E=>∃(a:Int)(p:Addr)(d:List V)(c:List PyData),e=[.int a,.ref p]/\H p=some (.tup d)/\DnL H c d/\1<=a/\a<=9/\c.length<=60/\(c.flatMap eH).length<=60 /\
 (hV a c->∀b,Same H b->Q .non b)/\(¬hV a c->∀b,Same H b->E (.ref D) none b)
def Ee(D:Addr):Sp:=λf H Q E=>∃(a:Int)(p:Addr)(e:List V)(b:List PyData),f=[.int a,.ref p]/\H p=some (.tup e)/\DnL H b e/\b.length<=60/\(∀c∈b,ka c) /\
 (b.length<=8/\(∀c∈b,fm a c=true)->∀d,Same H d->Q .non d)/\(¬(b.length<=8/\∀c∈b,fm a c=true)->∀d,Same H d->E (.ref D) none d)
def yU(D:Addr):Sp:=λh H Q E=>∃(e f g:V)(d a b:PyData),h=[e,f,g]/\Dn H d e/\Dn H a f/\Dn H b g/\td a/\sR b/\¬jh d a b/\∀c,Same H c->E (.ref D) none c
theorem Fp{bs:List PyData}(i:Nat):((bs.take i).flatMap eH).length<=(bs.flatMap eH).length:=by
 have a:bs.flatMap eH=(bs.take i).flatMap eH++(bs.drop i).flatMap eH:=by
  rw[<-Ip,IK]
 rw[a,GC];omega
theorem vy{c:Type}{P:c->Prop}{b:List c}{i:Nat}{d:c}(h:b[i]?=some d)(a:∀x∈b.take i,P x)(p:P d):∀x∈b.take (i+1),P x:=by
 obtain⟨f,e⟩:=GU.mp h;rw[Ji f,e];intro x g;rcases GL.mp g with z|z
 ·exact a x z
 ·rw[GE.mp z];exact p
section
variable{many:Int}{bs:List PyData}(g:hV many bs)(m9:many <= 9)(b8:bs.length <= 8)
include g m9 b8
end
end Wd
namespace L2
open PySem PySem.Spec PyProof.Rows
open PySem.Builtin PySem.Builtin.Str
section
variable{X:Cx}
theorem vh:∀(l:List (Str×Tok)),Vals ((l.map (·.1)).map V.str) (strValues l)
 |[]=>.nil
 |p::l=>.cons ⟨p.2,rfl⟩ (vh l)
theorem qT:∀{ws:List Str} {a:List Value},Vals (ws.map V.str) a->∃l:List (Str×Tok),a=strValues l/\l.map (·.1)=ws
 |[],a,r=>by
  cases r
  exact⟨[],R,R⟩
 |w::ws,a,r=>by
  cases r with
  |cons rx rr=>
   obtain⟨t,rfl⟩:=rx;obtain⟨l,rfl,e⟩:=qT rr;exact⟨(w,t)::l,R,by rw[HD,e]⟩
def Ad:V->List V->Hp->VK->Prop:=λx a H Q=>∃z y:Str,x=.str z/\a=[.str y]/\(y.length==0)=false/\z.length<=1000000/\∀p,H p=none->Q (.ref p) (upd H p (.lst ((Txt.split z y).map V.str)))
theorem iw:ko X "str.split" Ad:=by
 intro c s p H x D v C Q I n r h;obtain⟨z,y,rfl,rfl,i,A,q⟩:=h;obtain⟨t,rfl⟩:=n;obtain⟨u,rfl,g,rfl⟩:=fD r;have B:=split_le z y;have E:z.length+2<=sizeLine:=by rw[HF];omega
 have f:∀(l:List (Str×Tok))(k:Nat),l.map (·.1)=Txt.split z y->EP X c p Q (.ref s.heap.objs.size) { s with toks:=k,heap:=s.heap.push { cls:=.type "list",data:=.seq (strValues l).toArray } }:=λl k e=>by
  have j:=vh l;rw[e] at j;refine⟨.ref s.heap.objs.size,_,I.laid (t':=k) (λb o m=>GR _ m) (GW _) (show ObjOk X.prog X.w _ _ _ (.lst ((Txt.split z y).map V.str)) from⟨by rw[Gz];omega,strValues l,_,j,Hk _ rfl⟩),R,q _ (I.hok.fresh (GW _))⟩
 cases a:(decide (z.length<y.length)||decide (strKind z<strKind y))
 ·cases d:(occurrences z y 0 z.length (z.length+1)).isEmpty
  ·have e:Txt.split z y=partsBetween z (occurrences z y 0 z.length (z.length+1)) y.length:=(GY (KT a)).trans (GY (KT d));refine J2 Ll (Kr _ _ _) La (K2 _ _) (meets_str_split_sep z y t g a i d (by omega) (by rw[<-e];omega)) ?_;show wants _ _ _ { s with toks:=_,heap:=s.heap.push { cls:=.type "list",data:=.seq (strsFrom s.toks (partsBetween z (occurrences z y 0 z.length (z.length+1)) y.length)).toArray } };rw[strsFrom_eq];exact f _ _ ((numbered_texts _ _).trans e.symm)
  ·exact J2 Ll (Kr _ _ _) La (K2 _ _) (meets_str_split_not_found z y t g a i d) (f [(z,t)] s.toks ((GY (KT a)).trans (Hl d)).symm)
 ·exact J2 Ll (Kr _ _ _) La (K2 _ _) (meets_str_split_cannot_occur z y t g a) (f [(z,t)] s.toks (Hl a).symm)
def oE(K:PySem.W.Frag):V->List V->Hp->VK->Prop:=λx c H Q=>∃(a:Str)(p:Addr)(b:List Str),x=.str a/\c=[.ref p]/\SqL K H p (b.map V.str)/\(b.map (·.length)).sum+b.length*a.length<=1000000/\Q (.str (Str.join a b)) H
theorem yD:ko X "str.join" (oE X.K):=by
 intro f s B H x A v z Q I n r h;obtain⟨c,p,o,rfl,rfl,i,y,q⟩:=h;obtain⟨t,rfl⟩:=n;obtain⟨u,rfl,k⟩:=fD r
 cases k
 obtain⟨w,m,j,_⟩:=I.list i;obtain⟨l,rfl,e⟩:=qT m;have g:tooLong ((l.map (·.1)).toArray.foldl (·+·.length+c.length) 0)=false:=by
  rw[e,StrLaws.joinTotal];unfold tooLong;exact GZ (by rw[HF];omega)
 refine J2 F.slot_str_join (Kr _ _ _) F.entry_str_join (F.args_str_join_2 _ _) (meets_str_join_list c t p l g) ⟨j.isList,?_⟩;have d:=StrLaws.glued_eq_join c o
 match l,e with
 |[],e=>
  subst e;exact⟨by show(0:Nat)<=sizeLine;exact Iv _,.str _,H,I.tok _,⟨_,R⟩,q⟩
 |[(x,tx)],e=>
  subst e;exact⟨.str x,H,I,⟨tx,R⟩,q⟩
 |a::b::l,e=>
  subst e;refine⟨?_,.str _,H,I.tok _,⟨_,R⟩,?_⟩
  ·show(glued c ((a::b::l).map (·.1))).length<=sizeLine;rw[d];exact Hm (Ic _ _) (by rw[HF];omega)
  ·rw[d];exact q
def yM:V->List V->Hp->VK->Prop:=λx a H Q=>∃z y:Str,x=.str z/\a=[.str y]/\Q (.bl (decide (0+y.length<=z.length)&&subAt z y 0)) H
theorem EG:ko X "str.startswith" yM:=by
 intro a s f H x e v d Q I b r h;obtain⟨z,y,rfl,rfl,q⟩:=h;obtain⟨t,rfl⟩:=b;obtain⟨u,rfl,c,rfl⟩:=fD r;exact call_gives F.slot_str_startswith (Kr _ _ _) F.entry_str_startswith (F.args_str_startswith_2 _ _) (gives_str_startswith z y t c) ⟨.bl _,H,I,R,q⟩
def Bq:V->Option Int->Option Int->Hp->VK->Prop:=λx lo a H Q=>∃z:Str,x=.str z/\z.length<=sizeLine/\Q (.str (StrLaws.sliceText z lo a)) H
theorem zC:mG X Bq:=by
 intro a s E H x v J L lo r g Q I D y C f h;obtain⟨z,rfl,B,q⟩:=h;obtain⟨t,rfl⟩:=D;obtain⟨o,e,c,d⟩:=y;refine⟨"str",_,F.slot_str_getitem.lookup,Kr _ _ _,?_⟩;have b:∀l u:Option (Int×Tok),s.heap.IsSlice g l u none->l.map (·.1)=lo->u.map (·.1)=r->wpAny (model X.prog X.w) X.A (getItem (.str z t) (.ref g)) (EP X a E Q) X.xe s:=λl u m n p=>by
  subst n;subst p;exact wpAny_getItem_str_slice (l:=l) (u:=u) (st:=none) m rfl (post_val_or_str ⟨Hm (Txt.slice_le z _ _) B,λG k=>⟨.str _,H,I.tok _,⟨_,R⟩,q⟩⟩)
 cases C with
 |none=>
  cases f with
  |none=>exact b none none ⟨o,e,c,d⟩ rfl rfl
  |int j tj=>exact b none (some (j,tj)) ⟨o,e,c,d⟩ rfl rfl
 |int i ti=>
  cases f with
  |none=>exact b (some (i,ti)) none ⟨o,e,c,d⟩ rfl rfl
  |int j tj=>exact b (some (i,ti)) (some (j,tj)) ⟨o,e,c,d⟩ rfl rfl
theorem Er:eM X (.type "int") (λxs H Q=>∃(x:Str)(n:Int),xs=[.str x]/\intText? x=some n/\x.length<=640/\Q (.int n) H):=by
 intro a s e H xs d Q I r h;obtain⟨x,n,rfl,c,b,q⟩:=h;obtain⟨u,rfl,t,rfl⟩:=fD r;exact PySem.W.KIN.call_text c b ⟨.int n,H,I.tok _,⟨_,R⟩,q⟩
theorem wW:dG X (binaryOp .Mult) (λx y H Q=>∃(z:Str)(n:Int),x=.str z/\y=.int n/\1<=n/\n<=1000/\z.length<=1000/\Q (.str (Txt.mul z n)) H):=by
 intro a s m H x y v u Q I d e h;obtain⟨z,n,rfl,rfl,g,i,c,q⟩:=h;obtain⟨t,rfl⟩:=d;obtain⟨l,rfl⟩:=e;have b:MulOk z n:=by
  refine⟨?_,λ_ _=>?_,λ_ _=>?_⟩
  ·rw[GZ (by omega),GZ (by omega)]
   rfl
  ·have:(1000:Int)<=(2^63-1)/n:=(Int.le_ediv_iff_mul_le (by omega)).mpr (by omega);omega
  ·refine GZ ?_;have j:z.length*n.toNat<=1000*1000:=Nat.mul_le_mul c (by omega);rw[HF];omega
 exact SB.mul b λf k=>⟨.str _,H,I.tok _,⟨_,R⟩,q⟩
def oM(x:Str):It:=⟨λi _=>i<x.cps.size,λi H v a=>a=H/\∃c,x.cps[i]?=some c/\v=.str ⟨#[c]⟩,λi _=>x.cps.size<=i⟩
theorem DA{prog:Program}{w:World}{A:Around}{E:Value->Shared->Prop}{s:Shared}{it:Addr}{x:Str}{t:Tok}{i:Nat}{Q:Value->Shared->Prop}(a:s.heap.IsStrIter it "str_ascii_iterator" x t i)(h:Q (.ref it) s):
  wpAny (model prog w) A (pyIter (.ref it)) Q E s:=by
 refine Lg a.typeIs KC (IT KC a.typeIs F.entry_str_ascii_iterator_iter ?_ (F.args_str_ascii_iterator_iter_1 _));show wpAny _ _ (ret (.ref it)) _ _ s;exact GV ⟨_,R, "str_ascii_iterator",_,a.typeIs,F.slot_str_ascii_iterator_next.lookup,h⟩
theorem Gw{P:Program}{w:World}{K:PySem.W.Frag}{N:Expr}(x:Str)(t:Tok)(it:Addr):lE P w K N (oM x) [it] it (λi h=>h.IsStrIter it "str_ascii_iterator" x t i) where
 mem:=by simp
 obj:=λi h st b f=>by
  have e:b=it:=by simpa using f
  subst e;obtain⟨o,e,c,d⟩:=st;exact⟨o,e,λv z=>by rw[d] at z;cases z⟩
 keep:=λi h g st k=>by
  obtain⟨o,e,c,d⟩:=st;exact⟨o,k it (by simp) o e,c,d⟩
 item:=by
  intro X u A r C i a s F H E I j st y;subst u A r;obtain⟨l,m,L,n,p,q⟩:=j it (by simp);have D:x.cps[i]?=some x.cps[i]:=Ig y;refine wpAny_pyNext_ascii_item st D λg B M=>?_;have G:Inv X a F H { s with heap:=g,toks:=s.toks+1 }:=I.turned (t':=s.toks+1) (λb o f e=>(M.2 b f).trans e) l m n p q;obtain⟨o,e,c,d⟩:=id B;exact⟨_,R,ow (s:={ s with heap:=g,toks:=s.toks+1 }) e c d (by decide) ⟨.str ⟨#[x.cps[i]]⟩,H,G,⟨_,R⟩,⟨R,_,D,R⟩,B,λb f=>(j b f).1⟩⟩
 done:=by
  intro X u A r C i a s F H E I j st y;subst u A r;obtain⟨l,m,L,n,p,q⟩:=j it (by simp);exact wpAny_pyNext_ascii_end (I.ok.hd C) st (Jg y) λg J=>⟨R,I.turned (t':=s.toks) (λb o f e=>J b o f e) l m n p q⟩
 self:=λ_ _ _ _ _ st h=>DA st h
def A6(b:TE):TI:=λc H R=>b c H λv a=>∃x:Str,v=.str x/\x.cps.all (·<128)=true/\R (oM x) a
theorem Az{j l:Expr}{d:TE}(i:PE X l d):PI X j l (A6 d):=by
 intro a s k H R I h;refine bZ (i a s k H _ I h) λv c ⟨x,H1,I1,r1,q1⟩=>?_;obtain⟨z,e,f,q⟩:=q1;subst e;obtain⟨t,rfl⟩:=r1;refine wpAny_pyIter_ascii f ?_;refine⟨c.heap.objs.size,[c.heap.objs.size],_,_,H1,rfl,I1.kept (t':=c.toks) λb o e=>GR _ e,Gw z t _,⟨_,Hk _ rfl,rfl,rfl⟩,λb g=>?_,q⟩;have e:b=c.heap.objs.size:=by simpa using g
 subst e;exact I1.fpOk (GW _) (I1.hok.fresh (GW _))
theorem Ab{x:Str}{h:St}{H:Hp}{g:TG}{l:TT}{n:TE}{Q:VK}(f:Nat->List V->St->Hp->Prop)(s:f 0 [] h H)(hz:∀i ys a H,i<=x.cps.size->f i ys a H->ys.length<=sizeLine)
  (z:∀i c ys a H,x.cps[i]?=some c->f i ys a H->g (.str ⟨#[c]⟩) a H λd q=>l d q λb j=>if b=true then n d j λv r=>f (i+1) (ys++[v]) d r else f (i+1) ys d j)
  (u:∀ys a H,f x.cps.size ys a H->∀p,H p=none->Q (.ref p) (upd H p (.lst ys))):
  ju (oM x) g l n h H Q:=by
 refine⟨λi m ys a H=>m=x.cps.size-i/\i<=x.cps.size/\f i ys a H,⟨x.cps.size,by simp,Iv _,s⟩,?_⟩;rintro i m ys a H ⟨rfl,w,p⟩;refine⟨hz i ys a H w p,?_⟩;by_cases k:i<x.cps.size
 ·refine .inr ⟨k,f (i+1),λB C o A=>⟨x.cps.size-(i+1),by omega,R,k,A⟩,λv o y=>?_⟩;obtain⟨e,c,t,rfl⟩:=y;subst e;exact z i c ys a _ t p
 ·have e:i=x.cps.size:=by omega
  subst e;exact .inl ⟨GW _,u ys a H p⟩
end
end L2
namespace Sx
open PySem PySem.SetTable
def cl(l:List Nat)(j:Nat):Nat:=(l.filter λx=>decide (x<j)).length
theorem r9(l:List Nat)(j:Nat):cl l j<=l.length:=Ie _ _
theorem rq{l:List Nat}{j:Nat}(h:∀x∈l,j<=x):cl l j=0:=by
 unfold cl;rw[List.filter_eq_nil_iff.mpr (λx a=>by have:=h x a;simp;omega)]
 rfl
theorem oG:∀{l:List Nat} {j k:Nat},l.Pairwise (·<·)->∀h:k<l.length,(l[k]<j↔k<cl l j)
 |[],j,k,_,h=>by simp at h
 |a::r,j,k,p,h=>by
  obtain⟨c,f⟩:=IQ.mp p;by_cases b:a<j
  ·have e:cl (a::r) j=cl r j+1:=by
    unfold cl;rw[KD,Hl (GF b),GN]
   rw[e]
   cases k with
   |zero=>simp[b]
   |succ k=>
    rw[List.getElem_cons_succ,oG f (by simpa using h)];omega
  ·have e:cl (a::r) j=0:=rq λx d=>by
    rcases GI.mp d with z|z
    ·omega
    ·have:=c x z;omega
   rw[e]
   cases k with
   |zero=>simp;omega
   |succ k=>
    rw[List.getElem_cons_succ];have:=c _ (IH (show k<r.length by simpa using h));omega
theorem rj{l:List Nat}{j:Nat}(p:l.Pairwise (·<·)):∀(fuel lo hi:Nat),lo<=cl l j->cl l j<=hi->hi<=l.length->hi-lo<=fuel->below.go l.toArray j fuel lo hi=cl l j
 |0,lo,hi,h1,h2,_,h4=>by
  show lo=_;omega
 |fuel+1,lo,hi,h1,h2,h3,h4=>by
  unfold below.go;by_cases a:lo<hi
  ·rw[Hl a];have d:(lo+hi)/2<l.length:=by omega
   have e:l.toArray.getD ((lo+hi)/2) j=l[(lo+hi)/2]:=by simp[d]
   have c:=oG (j:=j) p d;by_cases b:l[(lo+hi)/2]<j
   ·simp only[e,b,Ky];exact rj p fuel _ _ (by have:=c.mp b;omega) h2 h3 (by omega)
   ·simp only[e,b,LI];exact rj p fuel _ _ h1 (by have:=λz=>b (c.mpr z);omega) (by omega) (by omega)
  ·rw[GY a];omega
theorem qZ{l:List Nat}(p:l.Pairwise (·<·))(j:Nat):below l.toArray j=cl l j:=by
 unfold below;exact rj p _ _ _ (Iv _) (by simpa using r9 l j) (by simp) (by simp)
theorem tJ{a:Type}(l:List a)(p:Nat)(x:a):(insertAt l.toArray p x).toList=l.take p++x::l.drop p:=by
 unfold insertAt;simp;exact HC (by rw[Hd];omega)
theorem uI:∀{l:List Nat} {j:Nat},l.Pairwise (·<·)->j∉l->(l.take (cl l j)++j::l.drop (cl l j)).Pairwise (·<·)
 |[],j,_,_=>by simp
 |a::r,j,p,nj=>by
  obtain⟨c,f⟩:=IQ.mp p;have g:j≠a:=λz=>nj (by rw[z];exact GM);by_cases d:a<j
  ·have e:cl (a::r) j=cl r j+1:=by
    unfold cl;rw[KD,Hl (GF d),GN]
   rw[e,KR,List.drop_succ_cons,Lm];refine IQ.mpr ⟨λx b=>?_,uI f λz=>nj (GP _ z)⟩;rcases GL.mp b with z|z
   ·exact c x (List.take_subset _ _ z)
   ·rcases GI.mp z with z|z
    ·rw[z];exact d
    ·exact c x (List.drop_subset _ _ z)
  ·have e:cl (a::r) j=0:=rq λx b=>by
    rcases GI.mp b with z|z
    ·omega
    ·have:=c x z;omega
   rw[e];refine IQ.mpr ⟨λx b=>?_,p⟩;rcases GI.mp b with z|z
   ·omega
   ·have:=c x z;omega
abbrev tb(m:Nat)(pl:List Nat)(led:Bool)(mv:Nat):SetTable:={ mask:=m,place:=pl.toArray,dummies:=#[],finger:=0,led:=led,moves:=mv,plain:=true }
theorem rD(m:Nat)(a:List Nat)(led:Bool)(mv:Nat)(b:Nat->Int)(h:Int):∀(fuel:Nat)(p:Probe),probe.go (tb m a led mv) b h fuel p=probe.go (tb m a true 0) b h fuel p
 |0,_=>rfl
 |fuel+1,p=>by
  unfold probe.go;have e:(tb m a led mv).slot p.j=(tb m a true 0).slot p.j:=rfl;rw[e]
  cases(tb m a true 0).slot p.j with
  |empty=>rfl
  |dummy=>exact rD m a led mv b h fuel _
  |live i=>
   dsimp only
   split
   ·rfl
   ·exact rD m a led mv b h fuel _
theorem Ff(m:Nat)(a:List Nat)(led:Bool)(mv:Nat)(h:Int):(tb m a led mv).freeSlot h=(tb m a true 0).freeSlot h:=by
 unfold freeSlot probe;rw[show(tb m a led mv).probeStart h=(tb m a true 0).probeStart h from rfl,show 10*turns (tb m a led mv).mask=10*turns (tb m a true 0).mask from rfl,rD]
def oD(n m:Nat):List Nat:=(List.range n).filter λk=>m.testBit k
def sv(a:List Nat)(h:Nat):Bool:=match (tb 7 a true 0).freeSlot h with
 |some (j,d)=>!d&&decide (j<8)&&!a.contains j
 |none=>false
def sU:Bool:=(List.range 256).all λm=>decide (4<(oD 8 m).length)||(List.range 10).all λh=>sv (oD 8 m) h
theorem Et:sU=true:=by decide +kernel
theorem Db{n:Nat}{a:List Nat}(p:a.Pairwise (·<·))(h:∀x∈a,x<n):a=oD n (Wd.maskL a):=by
 refine Wd.pw_ext p (List.Pairwise.filter _ List.pairwise_lt_range) λx=>?_;unfold oD;rw[Ir,Ih,Wd.maskL_bit];exact⟨λz=>⟨h x z,by simpa using z⟩,λz=>by simpa using z.2⟩
theorem AO{d:List Nat}(p:d.Pairwise (·<·))(i:∀x∈d,x<8)(o:d.length<=4){h:Nat}(f:h<10)(led:Bool)(mv:Nat):∃j,(tb 7 d led mv).freeSlot h=some (j,false)/\j<8/\j∉d:=by
 have a:=Et;unfold sU at a;rw[Hv] at a;have e:=Db p i;have b:=a (Wd.maskL d) (Ih.mpr (Wd.maskL_lt i));rw[<-e,JG,IF] at b;rcases b with b|b
 ·omega
 ·rw[Hv] at b;have c:=b h (Ih.mpr f);unfold sv at c;rw[Ff]
  cases k:(tb 7 d true 0).freeSlot h with
  |none=>rw[k] at c;cases c
  |some q=>
   obtain⟨j,n⟩:=q;rw[k] at c;simp only[Ha,Jh,IF] at c;obtain⟨⟨l,m⟩,g⟩:=c;refine⟨j,by rw[l],m,λz=>?_⟩;rw[Il.mpr z] at g
   cases g
theorem DH{m:Nat}{a:List Nat}(p:a.Pairwise (·<·)){j:Nat}(h:j∉a)(led:Bool)(mv:Nat):(tb m a led mv).slot j=.empty:=by
 unfold slot;dsimp only;rw[qZ p];have b:(a.toArray[cl a j]?==some j)=false:=by
  rw[Im,Ho];intro z;exact h (GO (by simpa using z))
 rw[b];have c:has #[] j=false:=rfl;rw[c]
 rfl
theorem Aq{a:List Nat}(p:a.Pairwise (·<·)){h:Nat}(b:h<32)(e:h∉a)(led:Bool)(mv:Nat):(tb 31 a led mv).freeSlot h=some (h,false):=by
 have c:bits (h:Int)=h:=by
  unfold bits;have:((h:Int)%(2^64:Int))=h:=Int.emod_eq_of_lt (by omega) (by omega);rw[this]
  rfl
 have d:((tb 31 a led mv).probeStart (h:Int)).j=h:=by
  show bits (h:Int)%32=h;rw[c,Nat.mod_eq_of_lt b]
 unfold freeSlot probe;rw[show 10*turns (tb 31 a led mv).mask=459+1 from rfl];unfold probe.go;rw[d,DH p e]
 rfl
def own(pre:List Nat):Array (Option Nat):=((List.range 32).map λj=>if j∈pre then some (pre.idxOf j) else none).toArray
theorem xm{pre:List Nat}{j:Nat}(h:j<32)(d:Option Nat):(own pre).getD j d=if j∈pre then some (pre.idxOf j) else none:=by
 unfold own;rw[Array.getD_eq_getD_getElem?,Im,GQ,KP h]
 rfl
theorem za{pre:List Nat}{v:Nat}(h:v∉pre):(own pre).setIfInBounds v (some pre.length)=own (pre++[v]):=by
 apply Array.ext_getElem?;intro j;unfold own;rw[List.setIfInBounds_toArray,Im,Im,List.getElem?_set];simp only[Gz,IE,GQ];by_cases e:v=j
 ·subst e;by_cases a:v<32
  ·rw[Hl rfl,Hl a,KP a];simp[List.idxOf_append,h]
  ·rw[Hl rfl,GY a,Ja (by simp;omega)]
   rfl
 ·rw[GY e];by_cases a:j<32
  ·rw[KP a];have c:¬j=v:=λz=>e z.symm;simp only[Option.map_some,GL,GE,c,Iw,List.idxOf_append];by_cases b:j∈pre
   ·simp[b]
   ·simp[b]
  ·rw[Ja (by simp;omega)]
   rfl
theorem DR{v:Nat}(h:v<10):bits (v:Int)=v:=by
 unfold bits;have:((v:Int)%(2^64:Int))=v:=Int.emod_eq_of_lt (by omega) (by omega);rw[this]
 rfl
theorem yt{pre:List Nat}{v:Nat}(h:v<10)(c:v∉pre):layClean.free 31 (own pre) (turns 31) (bits (v:Int)%32) (bits (v:Int))=some v:=by
 rw[DR h,Nat.mod_eq_of_lt (by omega),show turns 31=45+1 from rfl];unfold layClean.free;have b:runEnd 31 v+1-v=9+1:=by
  unfold runEnd;rw[Hl (by omega)];omega
 rw[b,List.range_succ_eq_map,List.find?_cons];have a:((own pre).getD (v+0) (some 0)).isNone=true:=by
  rw[Nat.add_zero,xm (by omega),GY c]
  rfl
 rw[a]
 rfl
theorem v9:∀(a pre:List Nat),(pre++a).Nodup->(∀v∈a,v<10) ->
  (a.map λv:Nat=>(v:Int)).foldl (λ(b:Option (Array (Option Nat)×Nat))(h:Int)=>do
   let (owner,k) <-b
   let j <-layClean.free 31 owner (turns 31) (bits h%(31+1)) (bits h)
   pure (owner.setIfInBounds j (some k),k+1)) (some (own pre,pre.length))=some (own (pre++a),(pre++a).length)
 |[],pre,_,_=>by rw[HZ];rfl
 |v::a,pre,nd,h=>by
  have c:v∉pre:=λz=>(JX.mp nd).2.2 v z v GM rfl;rw[HD,Lx];have e:(do
   let (owner,k) <-(some (own pre,pre.length):Option (Array (Option Nat)×Nat))
   let j <-layClean.free 31 owner (turns 31) (bits (v:Int)%(31+1)) (bits (v:Int))
   pure (owner.setIfInBounds j (some k),k+1))=some (own (pre++[v]),(pre++[v]).length):=by
   show(layClean.free 31 (own pre) (turns 31) (bits (v:Int)%(31+1)) (bits (v:Int))).bind (λj=>some ((own pre).setIfInBounds j (some pre.length),pre.length+1))=_;rw[yt (h v GM) c];show some (_,_)=_;rw[za c,GC]
   rfl
  rw[e,v9 a (pre++[v]) (by rw[GH];exact nd) λx d=>h x (GP _ d),GH]
  rfl
theorem yw:own []=Array.replicate (31+1) none:=by decide +kernel
theorem yY{a:List Nat}(b:a.Nodup)(h:∀v∈a,v<10):layClean 31 (a.map λv:Nat=>(v:Int)).toArray=some (own a):=by
 unfold layClean;rw[List.foldl_toArray,<-yw];have e:=v9 a [] b h;rw[List.nil_append] at e;exact ID (Option.map (·.1)) e
def eo(a:List Nat):List Nat:=(List.range 32).filter λj=>decide (j∈a)
theorem Ah(b:List Nat):((List.range (31+1)).filterMap λj=>((own b).getD j none).map λx=>(j,x))=(eo b).map λj=>(j,b.idxOf j):=by
 have e:∀l:List Nat,(∀j∈l,j<32)->(l.filterMap λj=>((own b).getD j none).map λx=>(j,x))=(l.filter λj=>decide (j∈b)).map λj=>(j,b.idxOf j):=by
  intro l
  induction l with
  |nil=>intro _;rfl
  |cons a l ih=>
   intro h;rw[Iz,xm (h a GM),KD];by_cases d:a∈b
   ·rw[Hl d,Hl (GF d),HD,<-ih λj c=>h j (GP _ c)]
    rfl
   ·rw[GY d,GY (by simpa using d),<-ih λj c=>h j (GP _ c)]
    rfl
 exact e _ λj c=>Ih.mp c
theorem rV(a:List Nat):(eo a).Pairwise (·<·):=List.Pairwise.filter _ List.pairwise_lt_range
theorem rH{a:List Nat}(h:∀v∈a,v<10)(x:Nat):x∈eo a↔x∈a:=by
 unfold eo;rw[Ir,Ih,IF];exact⟨λz=>z.2,λz=>⟨by have:=h x z;omega,z⟩⟩
theorem lR{a:List Nat}(b:a.Nodup)(h:∀v∈a,v<10):(eo a).Perm a:=by
 refine(J0 ?_ b).mpr (rH h);exact(rV a).imp λz=>Hq z
theorem Fg{a:List Nat}(b:a.Nodup):a.map (λv=>a.idxOf v)=List.range a.length:=by
 apply List.ext_getElem
 ·rw[Gz,IE]
 ·intro i c d;rw[List.getElem_map,List.getElem_range];exact b.idxOf_getElem _ _
abbrev ev(p:Nat×Tok):Int×Value:=((p.1:Int),Value.int (p.1:Int) p.2)
theorem yx{ent:List (Nat×Tok)}{sl:List Nat}{led:Bool}{mv:Nat}(g:(ent.map (·.1)).Nodup)(h:∀v∈ent.map (·.1),v<10)(u:ent.length=5):
  ∃(f:List (Nat×Tok))(s:Nat),relayAll (tb 7 sl led mv) (ent.map ev).toArray (grown 5)=((f.map ev).toArray,tb 31 (eo (ent.map (·.1))) led s,false)/\f.map (·.1)=eo (ent.map (·.1)):=by
 obtain⟨b,c⟩:∃b,b=ent.map (·.1):=⟨_,rfl⟩
 rw[<-c] at g h |-;have D:(ent.map ev).toArray.map (·.1)=(b.map λv:Nat=>(v:Int)).toArray:=by
  rw[List.map_toArray,c,HN,HN]
  rfl
 have C:(tb 7 sl led mv).relaid ((ent.map ev).toArray.map (·.1)) (grown 5)=some (tb 31 (eo b) led ((tb 7 sl led mv).movedTo 31),((eo b).map λj=>b.idxOf j).toArray):=by
  unfold relaid;rw[show sizeAbove (grown 5)-1=31 from rfl];unfold laid;rw[D,yY g h];show some (_,_)=_;rw[Ah,HN,HN];have d:(eo b).map ((λp:Nat×Nat=>p.1)∘λj=>(j,b.idxOf j))=eo b:=List.map_id'' (λ_=>rfl) _;show some (({ mask:=31,place:=((eo b).map ((λp:Nat×Nat=>p.1)∘λj=>(j,b.idxOf j))).toArray,dummies:=#[],finger:=0,led:=led,moves:=(tb 7 sl led mv).movedTo 31,plain:=true }:SetTable),_)=_;rw[d]
  rfl
 have at_:∀v∈eo b,∃e,ent[b.idxOf v]?=some e/\e.1=v:=λv m=>by
  have B:v∈b:=(rH h v).mp m;have o:b.idxOf v<b.length:=List.idxOf_lt_length_iff.mpr B;have t:b.idxOf v<ent.length:=by rw[c,Gz] at o;rw[c];exact o
  refine⟨ent[b.idxOf v],GG t,?_⟩;have d:b[b.idxOf v]=v:=List.getElem_idxOf o;have n:b[b.idxOf v]?=(ent[b.idxOf v]?).map (·.1):=by conv=>lhs;rw[show b[b.idxOf v]?=(ent.map (·.1))[b.idxOf v]? from by rw[<-c]];rw[GQ]
  rw[GG o,GG t,d] at n;exact(HI n).symm
 refine⟨(eo b).filterMap λv=>ent[b.idxOf v]?,(tb 7 sl led mv).movedTo 31,?_,?_⟩
 ·unfold relayAll;rw[C];dsimp only;have z:(((eo b).map λj=>b.idxOf j).toArray.filterMap λi=>(ent.map ev).toArray[i]?)=(((eo b).filterMap λv=>ent[b.idxOf v]?).map ev).toArray:=by
   rw[List.filterMap_toArray,K4,List.map_filterMap];congr 1;congr 1
   funext v
   show(ent.map ev).toArray[b.idxOf v]?=_;rw[Im,GQ]
  rw[z];have E:((eo b).filterMap λv=>ent[b.idxOf v]?).length=5:=by
   have:((eo b).filterMap λv=>ent[b.idxOf v]?).length=(eo b).length:=by
    have q:∀l:List Nat,(∀v∈l,∃e,ent[b.idxOf v]?=some e/\e.1=v)->(l.filterMap λv=>ent[b.idxOf v]?).length=l.length:=by
     intro l
     induction l with
     |nil=>intro _;rfl
     |cons a l ih=>
      intro k;obtain⟨e,r,_⟩:=k a GM;rw[Iz,r,GN,GN,ih λv m=>k v (GP _ m)]
    exact q _ at_
   rw[this,(lR g h).length_eq,c,Gz,u]
  have y:coversAll ((eo b).map λj=>b.idxOf j).toArray (ent.map ev).toArray.size=true:=by
   unfold coversAll;rw[List.isPerm_iff,Hb,Gz];have w:=(lR g h).map (λv=>b.idxOf v);rw[Fg g] at w;rw[show ent.length=b.length from by rw[c,Gz]];exact w
  have A:(tb 31 (eo b) led ((tb 7 sl led mv).movedTo 31)).fits (((eo b).filterMap λv=>ent[b.idxOf v]?).map ev).toArray.size=true:=by
   have F:(((eo b).filterMap λv=>ent[b.idxOf v]?).map ev).toArray.size=5:=by rw[Hb,Gz,E]
   rw[F];unfold fits;have x:(eo b).length=5:=by rw[(lR g h).length_eq,c,Gz,u]
   have d:(tb 31 (eo b) led ((tb 7 sl led mv).movedTo 31)).place.size=5:=by simp[x]
   have n:(tb 31 (eo b) led ((tb 7 sl led mv).movedTo 31)).fill=5:=by unfold fill;rw[d];rfl
   rw[d,n]
   rfl
  rw[y,A]
  rfl
 ·have q:∀l:List Nat,(∀v∈l,∃e,ent[b.idxOf v]?=some e/\e.1=v)->(l.filterMap λv=>ent[b.idxOf v]?).map (·.1)=l:=by
   intro l
   induction l with
   |nil=>intro _;rfl
   |cons a l ih=>
    intro k;obtain⟨e,r,d⟩:=k a GM;rw[Iz,r,HD,d,ih λv m=>k v (GP _ m)]
  exact q _ at_
structure Ts(es:Array (Int×Value))(t:SetTable)(led:Bool)(ent:List (Nat×Tok)):Prop where
 ex:∃(m:Nat)(sl:List Nat)(mv:Nat),t=tb m sl led mv/\sl.length=ent.length/\sl.Pairwise (·<·)/\((m=7/\ent.length<=4/\∀x∈sl,x<8)\/(m=31/\ent.length<=10/\sl=ent.map (·.1)))
 es:es=(ent.map ev).toArray
 nd:(ent.map (·.1)).Nodup
 lt:∀v∈ent.map (·.1),v<10
theorem sI{a:List Nat}(c:a.Nodup)(h:∀v∈a,v<10):a.length<=10:=by
 have z:=c.length_le_of_subset (l₂:=List.range 10) λv b=>Ih.mpr (h v b)
 rwa [IE] at z
theorem wL{m:Nat}{sl:List Nat}{led:Bool}{mv n:Nat}(h:sl.length=n)(c:n<=m):(tb m sl led mv).fits n=true:=by
 unfold fits;have a:(tb m sl led mv).place.size=n:=by simp[h]
 have b:(tb m sl led mv).fill=n:=by unfold fill;rw[a];rfl
 rw[a,b];simp[c]
theorem Ts.fits{a:Array (Int×Value)}{t:SetTable}{led:Bool}{ent:List (Nat×Tok)}(h:Ts a t led ent):t.fits a.size=true:=by
 obtain⟨m,e,d,rfl,b,_,c⟩:=h.ex;rw[h.es,Hb,Gz];refine wL b ?_;rcases c with⟨rfl,z,_⟩|⟨rfl,z,_⟩<;>omega
theorem zu{m:Nat}{sl:List Nat}{led:Bool}{mv j:Nat}(p:sl.Pairwise (·<·)):(tb m sl led mv).put j=(tb m (sl.take (cl sl j)++j::sl.drop (cl sl j)) led mv,cl sl j):=by
 unfold put;dsimp only;rw[qZ p];have a:insertAt sl.toArray (cl sl j) j=(sl.take (cl sl j)++j::sl.drop (cl sl j)).toArray:=by
  apply Lk.mp;rw[tJ]
 rw[a]
 rfl
theorem xZ{A:Array (Int×Value)}{t:SetTable}{led:Bool}{ent:List (Nat×Tok)}(T:Ts A t led ent){n:Nat}(F:n<10)(G:n∉ent.map (·.1))(tk:Tok):
    ∃d g,layNew t A (n:Int) (.int (n:Int) tk)=(d,g,false,false)/\g.plain=true/\d.size=ent.length+1/\g.fits d.size=true /\
      ((g.tooFull=false/\∃b,Ts d g led b/\(b.map (·.1)).Perm (n::ent.map (·.1))) \/
       (g.tooFull=true/\∃l Q,relayAll g d (grown d.size)=(l,Q,false)/\∃b,Ts l Q led b/\(b.map (·.1)).Perm (n::ent.map (·.1)))):=by
  obtain⟨m,k,c,rfl,hl,u,C⟩:=T.ex;have he:=T.es;obtain⟨j,hj,nj,O⟩:∃j,(tb m k led c).freeSlot (n:Int)=some (j,false)/\j∉k/\(m=7->j<8)/\(m=31->j=n):=by
    rcases C with⟨rfl,P,s⟩|⟨rfl,X,rfl⟩
    · obtain⟨j,h1,h2,h3⟩:=AO u s (by omega) F led c
      exact⟨j,h1,h3,λ_=>h2,(λz=>by cases z)⟩
    · exact⟨n,Aq u (by omega) G led c,G,(λz=>by cases z),λ_=>rfl⟩
  have D:=zu (m:=m) (led:=led) (mv:=c) (j:=j) u;obtain⟨p,I⟩:∃p,p=cl k j:=⟨_,rfl⟩
  have pl:p<=ent.length:=by rw[I,<-hl];exact r9 _ _
  have q:=uI u nj;rw[<-I] at D q;obtain⟨e,r⟩:∃e,e=k.take p++j::k.drop p:=⟨_,rfl⟩
  rw[<-r] at D q;obtain⟨b,y⟩:∃b,b=ent.take p++(n,tk)::ent.drop p:=⟨_,rfl⟩
  have J:b.length=ent.length+1:=by
    rw[y,GC,GN,G8,Hd];omega
  have L:e.length=ent.length+1:=by
    rw[r,GC,GN,G8,Hd];omega
  have ee:insertAt A p ((n:Int),.int (n:Int) tk)=(b.map ev).toArray:=by
    apply Lk.mp;rw[he,tJ,y,GX,HD,II,Jb]
  have H:b.map (·.1)=(ent.map (·.1)).take p++n::(ent.map (·.1)).drop p:=by
    rw[y,GX,HD,II,Jb]
  have o:(b.map (·.1)).Perm (n::ent.map (·.1)):=by
    rw[H];have z:=List.perm_middle (a:=n) (l₁:=(ent.map (·.1)).take p) (l₂:=(ent.map (·.1)).drop p)
    rwa [IK] at z
  have h:(b.map (·.1)).Nodup:=o.nodup_iff.mpr (Jk.mpr ⟨G,T.nd⟩);have f:∀v∈b.map (·.1),v<10:=λv E=>by
    rcases GI.mp (o.subset E) with z|z
    · omega
    · exact T.lt v z
  have Y:=sI h f;rw[Gz,J] at Y;have W:ent.length+1<=m:=by
    rcases C with⟨rfl,P,_⟩|⟨rfl,_,_⟩<;>omega
  have w:(b.map ev).toArray.size=ent.length+1:=by rw[Hb,Gz,J]
  have M:(tb m e led c).fits (ent.length+1)=true:=wL L W;refine⟨(b.map ev).toArray,tb m e led c,?_,R,w,by rw[w];exact M,?_⟩
  · unfold layNew
    rw[hj];dsimp only;rw[D];dsimp only;rw[ee,w];unfold orStandIn;rw[M]
    rfl
  · have B:(tb m e led c).tooFull=decide ((ent.length+1)*5>=m*3):=by
      unfold tooFull;have e2:(tb m e led c).fill=ent.length+1:=by
        unfold fill;have e1:(tb m e led c).place.size=ent.length+1:=by simp[L]
        rw[e1]
        rfl
      rw[e2]
    rcases C with⟨rfl,P,s⟩|⟨rfl,X,rfl⟩
    · by_cases S:ent.length=4
      · refine .inr ⟨by rw[B];exact GF (by omega),?_⟩
        obtain⟨U,Z,r1,i⟩:=yx (ent:=b) (sl:=e) (led:=led) (mv:=c) h f (by omega);rw[w,S];refine⟨_,_,r1,U,?_,?_⟩
        · refine⟨⟨31,eo (b.map (·.1)),Z,R,by rw[<-i,Gz],rV _,.inr ⟨R,?_,i.symm⟩⟩,R,?_,?_⟩
          · have:=(lR h f).length_eq
            rw[<-i,Gz,Gz] at this;omega
          · rw[i]
            exact(rV _).imp λz=>Hq z
          · rw[i]
            exact λv E=>f v ((rH f v).mp E)
        · rw[i]
          exact(lR h f).trans o
      · refine .inl ⟨by rw[B];exact GZ (by omega),b,⟨⟨7,e,c,R,by omega,q,.inl ⟨R,by omega,λx N=>?_⟩⟩,R,h,f⟩,o⟩
        rw[r] at N;rcases GL.mp N with z|z
        · exact s x (List.take_subset _ _ z)
        · rcases GI.mp z with z|z
          · rw[z];exact O.1 rfl
          · exact s x (List.drop_subset _ _ z)
    · refine .inl ⟨by rw[B];exact GZ (by omega),b,⟨⟨31,e,c,R,by omega,q,.inr ⟨R,by omega,?_⟩⟩,R,h,f⟩,o⟩
      rw[r,H,O.2 rfl]
end Sx
namespace Sx
open PySem PySem.SetTable PyProof.Rows
section
variable{prog:Program}{w:World}{A:Around}{E:Value -> Shared -> Prop}{s:Shared}{p:Addr}{led:Bool}{ent:List (Nat × Tok)}
def SetS(h:Heap)(p:Addr)(led:Bool)(ent:List (Nat×Tok)):Prop:=∃o a b t,h.get? p=some o/\o.ExactSet/\o.data=.set a b t/\Ts a t led ent
theorem xN{n:Nat}(h:n<10):hashInt (n:Int)=n:=by
 have z:∀m:Fin 10,hashInt ((m.val:Nat):Int)=m.val:=by decide
 exact z ⟨n,h⟩
theorem Ts.elems{a:Array (Int×Value)}{t:SetTable}(T:Ts a t led ent):ElemsOf (intKind prog w) a.toList:=λe b=>by
 rw[T.es] at b;obtain⟨q,c,rfl⟩:=Hc.mp b;refine⟨⟨(q.1:Int),intKind_is _ _ _ _,?_⟩,R⟩;show(q.1:Int)=hashInt (q.1:Int);rw[xN (T.lt _ (Iq c))]
theorem Ts.size{a:Array (Int×Value)}{t:SetTable}(T:Ts a t led ent):a.size=ent.length/\a.size<=10:=by
 have b:a.size=ent.length:=by rw[T.es,Hb,Gz]
 have c:=sI T.nd T.lt;rw[Gz] at c;exact⟨b,by omega⟩
theorem Fe(Z:SetS s.heap p led ent){n:Nat}(u:n<10){tk:Tok}{Q:Bool->Shared->Prop}
  (h:∀b h' a,Heap.SameBut p s.heap h'->SetS h' p led a->(∀v,v∈a.map (·.1)↔v=n\/v∈ent.map (·.1))->Q b { s with heap:=h' }):
  wpAny (model prog w) A (setAddHashed p (.int (n:Int) tk) (hashInt (n:Int))) Q E s:=by
 obtain⟨o,m,l,t,r,G,i,T⟩:=Z;have L:ElemsOf (intKind prog w) m.toList:=T.elems;obtain⟨z1,z2⟩:=T.size;have O:(intKind prog w).is (n:Int) (.int (n:Int) tk)=true:=intKind_is _ _ _ _;unfold setAddHashed setAddHashedIn;refine Jc (GD (KA r i T.fits ?_));simp only[byScan_of (knd:=intKind prog w) (x:=.int (n:Int) tk) rfl (show m.size<4096 by omega) L,Ky];unfold setAddByScan;refine GD (GD (Lw (GD (wpAny_setScan_of (knd:=intKind prog w) O r i T.fits L ?_))))
 cases M:List.findIdx? (λe=>(intKind prog w).is (n:Int) e.2) m.toList with
 |some j=>
  obtain⟨hj,N,_⟩:=List.findIdx?_eq_some_iff_getElem.mp M;have hm:n∈ent.map (·.1):=by
   have H:=IH hj;generalize m.toList[j]=q at N H;rw[T.es] at H;obtain⟨e,D,rfl⟩:=Hc.mp H;obtain⟨t',U⟩:=Value.isInt_shape (show Value.isInt (n:Int) (ev e).2=true from N);have e3:(e.1:Int)=n:=by injection U
   have:e.1=n:=by omega
   rw[<-this];exact Iq D
  have S:s={ s with heap:=s.heap }:=by cases s;rfl
  refine GV (GV ?_);rw[S];exact h _ s.heap ent (Heap.SameBut.refl p s.heap) ⟨o,m,l,t,r,G,i,T⟩ λv=>⟨.inr,λz=>z.elim (λy=>y▸hm) id⟩
 |none=>
  have nn:n∉ent.map (·.1):=λz=>by
   obtain⟨e,D,rfl⟩:=Hc.mp z;have q:=List.findIdx?_eq_none_iff.mp M (ev e) (by rw[T.es];exact Iq D);rw[intKind_is] at q
   cases q
  obtain⟨c,d,X,P,aj,ai,hc⟩:=xZ T u nn tk;obtain⟨ak,am⟩:c.size<=11/\c.size<4096:=⟨by omega,by omega⟩
  dsimp only;rw[xN u,X];dsimp only;refine GD (GV ?_);rw[P];simp only[Ky];rw[hashByValue_scannable 8 (x:=.int (n:Int) tk) rfl];refine GD (GV ?_);simp only[show plainKind (.int (n:Int) tk)=true from rfl,Ky];refine GD (wpAny_storeSet_of r i ?_ (by rw[HF];omega));have C:(s.heap.update p (Obj.putSet c d)).get? p=some { o with data:=.set c (l+1) d }:=by
   have g:=Ik (Obj.putSet c d) r (by rw[putSet_of c d i];rfl)
   rwa [putSet_of c d i] at g
  have J:=Iy s.heap p (Obj.putSet c d);rcases hc with⟨F,a,B,I⟩|⟨F,f,k,Y,a,B,I⟩
  ·simp only[F,Bool.not_false,LC,K0,LI];refine GV (GV ?_);exact h _ _ a J ⟨_,c,_,d,C,G,R,B⟩ λv=>by rw[I.mem_iff,GI]
  ·simp only[F,Y,Bool.not_false,LJ,Ky];have W:((s.heap.update p (Obj.putSet c d)).update p (Obj.putSet f k)).get? p=some { o with data:=.set f (l+1+1) k }:=by
    have g:=Ik (Obj.putSet f k) C (by rw[putSet_of f k (o:={ o with data:=.set c (l+1) d }) rfl];rfl)
    rwa [putSet_of f k (o:={ o with data:=.set c (l+1) d }) rfl] at g
   obtain⟨z3,z4⟩:=B.size;refine GD (GV (GD (wpAny_storeSet_of C rfl ?_ (by rw[HF];omega))));refine GV (GV ?_);exact h _ _ a (J.trans (Iy _ p _)) ⟨_,f,_,k,W,G,R,B⟩ λv=>by rw[I.mem_iff,GI]
theorem SetS.keep{h h':Heap}(S:SetS h p led ent)(k:∀o,h.get? p=some o->h'.get? p=some o):SetS h' p led ent:=by
 obtain⟨o,c,b,t,d,a⟩:=S;exact⟨o,c,b,t,k o d,a⟩
end
structure mQ(prog:Program)(w:World){κ:Type}(Rk:κ->Value->Prop)(ok:κ->Prop)(p:Addr)(Sp:Heap->Nat->(κ->Prop)->Prop):Prop where
 add:∀{A:Around} {E:Value->Shared->Prop} {s:Shared} {k:κ} {x:Value} {i:Nat} {M:κ->Prop} {Q:Bool->Shared->Prop},i<1000->ok k->Rk k x->Sp s.heap i M ->
  (∀b h',Heap.SameBut p s.heap h'->Sp h' (i+1) (λv=>v=k\/M v)->Q b { s with heap:=h',toks:=s.toks+1 })->wpAny (model prog w) A (setAdd p x) Q E s
 keep:∀{h h':Heap} {i:Nat} {M:κ->Prop},Sp h i M->(∀o,h.get? p=some o->h'.get? p=some o)->Sp h' i M
 same:∀{h:Heap} {i:Nat} {M M':κ->Prop},Sp h i M->(∀v,M v↔M' v)->Sp h i M'
section
variable{prog:Program}{w:World}{A:Around}{R:Result -> Shared -> Prop}{I p:Addr}{fp wr:List Addr}{G:Array GenState -> Array GenState -> Prop}{n:Nat}{P:Nat -> Value -> Prop}{St:Nat -> Shared -> Prop}
variable{κ:Type}{Rk:κ -> Value -> Prop}{ok:κ -> Prop}{Sp:Heap -> Nat -> (κ -> Prop) -> Prop}
theorem vX(D:mQ prog w Rk ok p Sp)(W:WalksS prog w A.in1 I fp wr G n P St)(g:p∉fp)(val:Nat->κ)(q:∀i v,P i v->Rk (val i) v)(d:∀i,i<n->ok (val i))(E:n<=1000):
  ∀(k i:Nat)(s:Shared),n-i=k->i<=n->St i s->Sp s.heap i (λv=>∃j,j<i/\val j=v) ->
   (∀a,Moved (p::wr) G s a->Sp a.heap n (λv=>∃j,j<n/\val j=v)->R (.ok (.ret .none)) a) ->
   codeAny (model prog w) A (.builtin "set.update.loop" ⟨[.ref p,.ref I],[]⟩) R s
 |0,i,s,hk,hi,st,S,fin=>by
  have e:i=n:=by omega
  subst e;have m:p∉wr:=λz=>g (W.sub _ z);refine Jl J9 ?_;rw[Je Js _];show wpAny _ _ (pyNext (.ref I)>>=_) _ _ s;refine GD (W.done s _ _ st λa f=>?_);show wpAny _ _ (ret Value.none) _ _ a;exact GV (fin a (f.mono λb c=>GP _ c) (D.keep S λo e=>f.heap p o m e))
 |k+1,i,s,hk,hi,st,S,fin=>by
  have l:i<n:=by omega
  have m:p∉wr:=λz=>g (W.sub _ z);refine Jl J9 ?_;rw[Je Js _];show wpAny _ _ (pyNext (.ref I)>>=_) _ _ s;refine GD (W.item i s _ _ l st λv a C B f=>?_);have t:=D.keep S λo e=>f.heap p o m e;show wpAny _ _ (holding [v] (setAdd p v)>>=_) _ _ a;refine GD (Jc (D.add (by omega) (d i l) (q i v C) t λb H r u=>?_));refine GV ⟨KF Js _,vX D W g val q d E k (i+1) _ (by omega) l (W.frame _ a _ _ B (Ld _) λb c o e=>?_) (D.same u λv=>?_) λF y x=>?_⟩
  ·rw[r.2 b (λz:b=p=>g (z▸c))];exact e
  ·constructor
   ·rintro(rfl|⟨j,h,e⟩)
    ·exact⟨i,KE i,rfl⟩
    ·exact⟨j,IL h,e⟩
   ·rintro⟨j,h,e⟩;rcases Nat.lt_or_eq_of_le (Nat.le_of_lt_succ h) with z|z
    ·exact .inr ⟨j,z,e⟩
    ·exact .inl (by rw[<-e,z])
  ·refine fin F (Moved.trans W.gtrans ((f.mono λb c=>GP _ c).then_heap (Ld _) λb o c e=>?_) y) x;rw[r.2 b (λz:b=p=>c (z▸GM))];exact e
end
section
variable{prog:Program}{w:World}{A:Around}{E:Value -> Shared -> Prop}{s:Shared}
abbrev im(led:Bool):Obj:={ cls:=.type "set",dict:=none,data:=.set #[] 0 (.fresh 0 0 led) }
theorem zf{h:Heap}{p:Addr}{led:Bool}(e:h.get? p=some (im led)):SetS h p led []:=
 ⟨_,#[],0,_,e,⟨R,R,R⟩,R,⟨⟨7,[],0,R,R,.nil,.inl ⟨R,by simp,λx b=>by simp at b⟩⟩,R,by simp,λv a=>by simp at a⟩⟩
theorem yX(a:Value){Q1:Value->Shared->Prop}(h:Q1 (.ref s.heap.objs.size) { s with heap:=s.heap.push (im (!w.params.followText "set-order")) }):
  codeAny (model prog w) A (.call (.builtin "set.__new__") ⟨[.type "set",a],[]⟩) (wants Q1 E) s:=by
 refine codeAny_of_tree ?_;refine GD (wpAny_of_eq (PySem.F.newCall_set_1 a) (GV ⟨KF PySem.F.plain_set_new _,Jl PySem.F.entry_set_new ?_⟩));rw[Je PySem.F.plain_set_new _];unfold Builtin.«set.__new__» Builtin.Frozenset.newClass;have b:=sub_set_self;obtain⟨c,g,d,e,os⟩:=s;dsimp only
 wp_walk
 refine J5 (GV ?_);dsimp only;simp only[newObj];exact GD (wpAny_alloc (GV (GV h)))
set_option maxHeartbeats 8000000 in
theorem call_setG{k:Type}{u:k->Value->Prop}{ok:k->Prop}{Sp:Heap->Nat->(k->Prop)->Prop}{l:Addr}{a:Array Value}{val:Nat->k}{Q:Value->Shared->Prop}(D:mQ prog w u ok s.heap.objs.size Sp)(hh:A.handled=none)(hl:s.heap.IsList l a)
  (f:∀i v,a[i]?=some v->u (val i) v) (p:∀i,i<a.size->ok (val i)) (hn:a.size<=1000)
  (new:∀h:Heap,h.get? s.heap.objs.size=some (im (!w.params.followText "set-order"))->Sp h 0 (λ_=>False))
  (h:∀(h':Heap)(tk:Nat),Sp h' a.size (λv=>∃j,j<a.size/\val j=v) ->
   (∀b o,b<s.heap.objs.size->s.heap.get? b=some o->h'.get? b=some o)->Q (.ref s.heap.objs.size) { s with heap:=h',toks:=tk }):
  wpAny (model prog w) A (call (.type "set") [.ref l]) Q E s:=by
 obtain⟨c,tl,au⟩:=Jd.mro;have am:=Jd.made;have aB:=Jd.sub;refine wpAny_call (codeAny_of_tree ?_);show wpAny _ _ (callAny (.type "set") _) _ _ _;refine GV ⟨Code.quiet_builtin _ (by decide +kernel),Jl PySem.F.entry_type_call ?_⟩;rw[Around.under_plain (weight_type_call_type "set" [.ref l] []) rfl];have n1:=Jd.notType;have n2:=Jd.canCreate;have n3:=PySem.F.typeCall_set_1 (.ref l)
 repeat (any_goals (first|assumption|wp_step))
 obtain⟨d,x⟩:∃d,d=!w.params.followText "set-order" := ⟨_,rfl⟩
 rw[<-x] at new;refine J4 (yX (.ref l) (E:=E) (Q1:=λI J=>I=.ref s.heap.objs.size/\J={ s with heap:=s.heap.push (im d) }) ⟨rfl,by rw[x]⟩) λr J q=>?_
 cases r with
 |error e=>exact q
 |ok fl=>
  cases fl with
  |ret I=>
   obtain⟨rfl,rfl⟩:=q;have C:(s.heap.push (im d)).get? s.heap.objs.size=some (im d):=Hk _ rfl;have tS:Shared.TypeIs { s with heap:=s.heap.push (im d) } (.ref s.heap.objs.size) "set" := ⟨_,C,rfl⟩
   have i1:=Jd.init.lookup;have i2:=Jd.init.bind (.ref s.heap.objs.size)
   repeat (any_goals (first|assumption|wp_step))
   refine J4 (KJ (R:=wants (λr L=>r=.none/\∃h' tk,L={ s with heap:=h',toks:=tk }/\Sp h' a.size (λv=>∃j,j<a.size/\val j=v) /\
     (∀b o,b<s.heap.objs.size->s.heap.get? b=some o->h'.get? b=some o)) E) Jd.init.plain PySem.F.entry_set_init (check_set_init_1 tS ?_)) λr2 L n=>?_
   ·obtain⟨⟨oc,od,ox,os⟩,y,U,t,S⟩:=hl
    cases(show oc=.type "list" from U)
    cases(show ox=.seq a t from S)
    have M:(s.heap.push (im d)).get? l=some { cls:=.type "list",dict:=od,data:=.seq a t,slots:=os }:=GR _ y;have q1:=PySem.F.sub_list_set;have q2:=PySem.F.sub_list_frozenset;have q3:(Value.type "list" == Value.type "dict")=false:=by decide
    have B:(s.heap.push (im d)).IsList l a:=⟨_,M,rfl,t,rfl⟩
    unfold Builtin.«set.__init__» noKeywords Builtin.Frozenset.updateFrom;generalize N:pyIter=PI
    wp_walk
    subst N;refine Kz B (GD (wpAny_runValue ?_));have H:l<s.heap.objs.size:=GS y;have O:A.in1.in1.in1.handled=none:=by simp[hh]
    have ne:l≠(s.heap.push (im d)).objs.size:=by
     rw[Jo];exact Hq (IL H)
    have nf:s.heap.objs.size∉[(s.heap.push (im d)).objs.size,l]:=by
     rw[Jo];intro z;rcases GI.mp z with z|z
     ·exact absurd z (Hq (KE _))
     ·exact absurd (GE.mp z) (Io H)
    refine vX D ((Walks.list O _ l ne a).toS) nf val f p hn (a.size-0) 0 _ (by omega) (Iv _) ⟨⟨_,Hk _ rfl,rfl,rfl⟩,(B.push _)⟩ (D.same (new _ (GR _ C)) λv=>⟨False.elim,λ⟨j,hj,_⟩=>absurd hj (LB j)⟩) ?_;intro s' g m;obtain⟨h',Z,Y,T,P⟩:=s'
    cases(show Z=s.gens from g.gens)
    cases(show Y=s.drawn from g.drawn)
    cases(show P=s.os from g.os)
    refine GV ?_;show wpAny _ _ (ret Value.none) _ _ _;refine GV ⟨rfl,h',T,rfl,m,λb o G e=>?_⟩;have W:b≠s.heap.objs.size:=Hq G;have X:b≠(s.heap.push (im d)).objs.size:=by
     rw[Jo];exact Hq (IL G)
    exact g.heap b o (by simp only[GI,Hs,Iw,not_or];exact⟨W,X⟩) (GR _ (GR _ e))
   ·cases r2 with
    |error e=>exact n
    |ok fl2=>
     cases fl2 with
     |ret r=>
      obtain⟨rfl,h',tk,rfl,m,kp⟩:=n
      repeat (any_goals (first|assumption|wp_step))
      exact h _ _ m kp
     |_=>exact n.elim
  |_=>exact q.elim
theorem DM{p:Addr}{led:Bool}:mQ prog w (λ(n:Nat) x=>∃t,x=.int (n:Int) t) (·<10) p (λh _ M=>∃ent,SetS h p led ent/\∀v,v∈ent.map (·.1)↔M v) where
 add:=by
  rintro A E s k _ i M Q _ d ⟨t,rfl⟩ ⟨ent,S,m⟩ h;unfold setAdd;refine Jc (GD ((intKind prog w).pyHash (k:=(k:Int)) (intKind_is _ _ _ _) ?_));exact Fe (s:={ s with toks:=s.toks+1 }) S d λb f c j a g=>h b f j ⟨c,a,λv=>by rw[g,m]⟩
 keep:=λ⟨ent,S,m⟩ k=>⟨ent,S.keep k,m⟩
 same:=λ⟨ent,S,m⟩ e=>⟨ent,S,λv=>(m v).trans (e v)⟩
theorem call_set{l:Addr}{a:Array Value}{ns:List Nat}{Q:Value->Shared->Prop}(q:A.handled=none)(r:s.heap.IsList l a)(hi:PyProof.Rows.IntsAre a.toList (ns.map λv:Nat=>(v:Int)))(d:∀v∈ns,v<10)(x:ns.length<=1000)
  (h:∀(h':Heap)(tk:Nat)(ent:List (Nat×Tok)),SetS h' s.heap.objs.size (!w.params.followText "set-order") ent->(∀v,v∈ent.map (·.1)↔v∈ns) ->
   (∀b o,b<s.heap.objs.size->s.heap.get? b=some o->h'.get? b=some o)->Q (.ref s.heap.objs.size) { s with heap:=h',toks:=tk }):
  wpAny (model prog w) A (call (.type "set") [.ref l]) Q E s:=by
 have u:a.size=ns.length:=by
  have:=hi.length;rw[Gz,HH] at this;exact this
 have at_:∀v,(∃j,j<a.size/\ns.getD j 0=v)↔v∈ns:=λv=>by
  constructor
  ·rintro⟨j,n,e⟩;rw[He,GG (by omega)] at e;rw[<-e];exact IH _
  ·intro c;obtain⟨j,n,e⟩:=KQ c;exact⟨j,by omega,by rw[He,GG n,e];rfl⟩
 refine call_setG (DM (led:=!w.params.followText "set-order")) (val:=λi=>ns.getD i 0) q r (λi v c=>?_) (λi f=>d _ ((at_ _).mp ⟨i,f,R⟩)) (by omega) (λg p=>⟨[],zf p,λv=>by simp⟩) λh' tk ⟨ent,S,m⟩ k=>h h' tk ent S (λv=>(m v).trans (at_ v)) k;obtain⟨t,e⟩:=PyProof.Rows.IntsAre.int_at hi i v (by rw[JE];exact c);have f:i<a.size:=(Jy.mp c).1;refine⟨t,?_⟩;rw[e,He,GQ,GG (by omega),He,GG (by omega)]
 rfl
end
theorem wj:Manifest.owners.lookup (String.ofList ['r','o','t','a','r','e','t','i','_','t','e','s'].reverse)=some Manifest.sig_set_iterator:=by kernel_rfl
theorem slot_next:Slot "set_iterator" "__next__" "set_iterator.__next__":=
 Slot.of (owner := "set_iterator") (n := "__next__")
  (by rw[KN,JW];kernel_rfl)
  (by decide +kernel)
  (by decide +kernel)
  (by decide +kernel)
  (by first
    |exact .inl (by decide +kernel)
    |exact .inr (by decide +kernel))
  (by rw[isSubtype_type];kernel_rfl)
theorem uB:entryFor table "set_iterator.__next__" = some Builtin.«set_iterator.__next__»:=entryFor_of_tree (by kernel_rfl)
theorem vp(a:Value):argsOk "set_iterator.__next__" ⟨[a],[]⟩:=by
 unfold argsOk;rw[signature?_of (id := "set_iterator.__next__") (n:=['_','_','t','x','e','n','_','_']) (o:=['r','o','t','a','r','e','t','i','_','t','e','s']) (by kernel_rfl) wj]
 kernel_rfl
theorem vd:Slot "set_iterator" "__iter__" "set_iterator.__iter__":=
 Slot.of (owner := "set_iterator") (n := "__iter__")
  (by rw[KN,JW];kernel_rfl)
  (by decide +kernel)
  (by decide +kernel)
  (by decide +kernel)
  (by first
    |exact .inl (by decide +kernel)
    |exact .inr (by decide +kernel))
  (by rw[isSubtype_type];kernel_rfl)
theorem Du:entryFor table "set_iterator.__iter__" = some Builtin.«dict_keyiterator.__iter__»:=entryFor_alias (id' := "dict_keyiterator.__iter__") (by kernel_rfl) rfl (by decide +kernel) (by kernel_rfl)
theorem EO(a:Value):argsOk "set_iterator.__iter__" ⟨[a],[]⟩:=by
 unfold argsOk;rw[signature?_of (id := "set_iterator.__iter__") (n:=['_','_','r','e','t','i','_','_']) (o:=['r','o','t','a','r','e','t','i','_','t','e','s']) (by kernel_rfl) wj]
 kernel_rfl
theorem DQ:entryFor table "set.__iter__" = some Builtin.«frozenset.__iter__»:=entryFor_alias (id' := "frozenset.__iter__") (by kernel_rfl) rfl (by decide +kernel) (by kernel_rfl)
theorem uZ{b:Type}(next:Nat->Nat):∀(fuel k:Nat)(left:List b)(out:Array b),left.length=fuel->(pickOrder.go next fuel k left out).toList.Perm (out.toList++left)
 |0,k,left,out,h=>by
  rw[Jp.mp h,HZ];unfold pickOrder.go;exact JZ _
 |fuel+1,k,left,out,h=>by
  unfold pickOrder.go;have hi:next k%left.length<left.length:=Nat.mod_lt _ (by omega);rw[GG hi];dsimp only;refine(uZ next fuel (k+1) (left.eraseIdx (next k%left.length)) (out.push left[next k%left.length]) (by rw[List.length_eraseIdx,Hl hi];omega)).trans ?_;rw[Array.toList_push,GH];refine JT _ ?_;rw[List.eraseIdx_eq_take_drop_succ];have z:=List.perm_middle (a:=left[next k%left.length]) (l₁:=left.take (next k%left.length)) (l₂:=left.drop (next k%left.length+1));rw[List.getElem_cons_drop,IK] at z;exact z.symm
section
variable{prog:Program}{w:World}{A:Around}{E:Value -> Shared -> Prop}{s:Shared}{p it:Addr}{led:Bool}{ent:List (Nat × Tok)}
def wk(w:World)(p:Addr)(ep:Nat)(a:Array (Int×Value)):Array (Int×Value):=if w.params.followText "set-order" = true then pickOrder (w.params.setOrder p ep) a else a
theorem mn(w:World)(p:Addr)(ep:Nat)(a:Array (Int×Value)):(wk w p ep a).toList.Perm a.toList:=by
 unfold wk
 split
 ·have z:=uZ (w.params.setOrder p ep) a.size 0 a.toList #[] (by simp)
  simpa [pickOrder] using z
 ·exact JZ _
def sa(w:World)(t:SetTable)(i:Nat):Nat:=if w.params.followText "set-order" = true then 0 else if i=0 then 0 else t.place.getD (i-1) 0+1
def IsSI(h:Heap)(it p:Addr)(w:World)(t:SetTable)(i n ep:Nat):Prop:=∃o,h.get? it=some o/\o.cls=.type "set_iterator" /\ o.data=.fields #[.int (sa w t i:Int) 0,.int (i:Int) 0,.ref p,.int (n:Int) 0,.int (ep:Int) 0]
theorem IsSI.typeIs{t:SetTable}{i n ep:Nat}(h:IsSI s.heap it p w t i n ep):s.TypeIs (.ref it) "set_iterator":=by
 obtain⟨o,a,b,_⟩:=h;exact⟨o,a,b⟩
theorem xa{b:Array (Int×Value)}{t:SetTable}{ep i:Nat}{o:Obj}{Q:Option (Value×Nat)->Shared->Prop}(y:s.heap.get? p=some o)(v:o.data=.set b ep t)(T:Ts b t (!w.params.followText "set-order") ent)
  (hi:i<=b.size) (h:Q (((wk w p ep b)[i]?).map λe=>(e.2,sa w t (i+1))) s):wpAny (model prog w) A (setNext p (sa w t i) i ep) Q E s:=by
 unfold setNext;refine GD (KA y v T.fits ?_);dsimp only;unfold setsByText;refine GD (GD (J5 (GV ?_)));show wpAny _ _ (if (w.params.followText "set-order")=true then _ else _) _ _ _;by_cases c:w.params.followText "set-order" = true
 ·rw[Hl c];rw[GY (by simp)];refine GD ?_;unfold setWalk;refine GD (KA y v T.fits ?_);dsimp only;unfold setsByText;refine GD (GD (J5 (GV ?_)));show wpAny _ _ (if (w.params.followText "set-order")=true then _ else _) _ _ _;rw[Hl c];refine GD (J5 (GV (GV ?_)));have l:wk w p ep b=pickOrder (w.params.setOrder p ep) b:=by unfold wk;rw[Hl c]
  have r:∀j,sa w t j=0:=λj=>by unfold sa;rw[Hl c]
  rw[l,r] at h;rw[r];exact h
 ·rw[GY c];obtain⟨m,a,f,rfl,L,g,M⟩:=T.ex;have D:w.params.followText "set-order" = false:=by simpa using c
  have z:=T.size;show wpAny _ _ (if (!true&&decide (b.size>1))=true then _ else _) _ _ _;rw[GY (by simp)];show wpAny _ _ ((if (!(!w.params.followText "set-order")&&!b.isEmpty)=true then unsupported _ else pure ())>>=_) _ _ _;rw[D,GY (by simp)];refine GD (GV ?_);have l:wk w p ep b=b:=by unfold wk;rw[GY c]
  rw[l] at h;have J:a.length=b.size:=by omega
  have F:below a.toArray (sa w (tb m a (!w.params.followText "set-order") f) i)=i:=by
   rw[qZ g];unfold sa;rw[GY c];by_cases u:i=0
   ·subst u;rw[Hl rfl];exact rq λx _=>Iv x
   ·rw[GY u];have k:i-1<a.length:=by omega
    have G:(tb m a (!w.params.followText "set-order") f).place.getD (i-1) 0=a[i-1]:=by simp[k]
    rw[G];have H:=(oG (j:=a[i-1]+1) g k).mp (KE _);by_cases d:i<a.length
    ·have B:¬a[i]<a[i-1]+1:=by
      have:=List.pairwise_iff_getElem.mp g (i-1) i k d (by omega);omega
     have I:¬i<cl a (a[i-1]+1):=λq=>B ((oG (j:=a[i-1]+1) g d).mpr q);omega
    ·have:=r9 a (a[i-1]+1);omega
  show wpAny _ _ (pure (match b[below a.toArray (sa w (tb m a (!w.params.followText "set-order") f) i)]?,a.toArray[below a.toArray (sa w (tb m a (!w.params.followText "set-order") f) i)]? with
   |some (_,x),some j=>some (x,j+1)
   |_,_=>none)) _ _ _
  rw[F];refine GV ?_;by_cases d:i<b.size
  ·have n:i<a.length:=by omega
   have C:sa w (tb m a (!w.params.followText "set-order") f) (i+1)=a[i]+1:=by
    unfold sa;rw[GY c,GY (by omega)];simp[n]
   rw[C,Ig d] at h;rw[Ig d,Im,GG n];exact h
  ·rw[Jg (by omega)] at h |-;exact h
theorem Fo{a:Array (Int×Value)}{t:SetTable}{ep i:Nat}{o:Obj}{Q:Option Value->Shared->Prop}(d:IsSI s.heap it p w t i a.size ep)(u:s.heap.get? p=some o)(r:o.data=.set a ep t)(T:Ts a t (!w.params.followText "set-order") ent)(F:p≠it)
  {e:Int×Value} (D:(wk w p ep a)[i]?=some e) (hi:i<a.size) (C:∀h',IsSI h' it p w t (i+1) a.size ep->Heap.SameBut it s.heap h'->Q (some e.2) { s with heap:=h' }):wpAny (model prog w) A (pyNext (.ref it)) Q E s:=by
 have v:=d.typeIs;obtain⟨c,m,z,l⟩:=id d;unfold pyNext;refine GD (Lj (Jf (name:=Str.ofString "__next__") v slot_next (IT slot_next v uB ?_ (vp _))));refine GD (GV ?_);refine GD (wpAny_fieldsOf m l ?_);dsimp only;refine GD (KU u r T.fits ?_);rw[GY (by simp)];refine GD (xa u r T (Ju hi) ?_);rw[Iu,D];obtain⟨b,h⟩:∃f:Obj->Obj,f=Obj.mapFields (·.setIfInBounds 0 (rawInt (sa w t (i+1):Nat))):=⟨_,rfl⟩
 obtain⟨g,j⟩:∃f:Obj->Obj,f=Obj.mapFields (·.setIfInBounds 1 (rawInt ((i:Int)+1))):=⟨_,rfl⟩
 have k:(b c).data=.fields #[.int (sa w t (i+1):Int) 0,.int (i:Int) 0,.ref p,.int (a.size:Int) 0,.int (ep:Int) 0]:=by
  rw[h,JB l];simp[rawInt]
 have q:(s.heap.update it b).get? it=some (b c):=Ik _ m (JV k);have x:(b c).cls=.type "set_iterator" := by rw[h];exact(Le ..).trans z
 have n:(g (b c)).data=.fields #[.int (sa w t (i+1):Int) 0,.int ((i+1:Nat):Int) 0,.ref p,.int (a.size:Int) 0,.int (ep:Int) 0]:=by
  rw[j,JB k];simp[rawInt]
 have B:((s.heap.update it b).update it g).get? it=some (g (b c)):=Ik _ q (JV n);have y:(g (b c)).cls=.type "set_iterator" := by rw[j];exact(Le ..).trans x
 show wpAny _ _ (setField (.ref it) 0 (rawInt (sa w t (i+1):Nat))>>=_) _ _ _;refine GD (JP m l (by simp) ?_);rw[<-h];show wpAny _ _ (setField (.ref it) 1 (rawInt ((i:Int)+1))>>=_) _ _ _;refine GD (JP q k (by simp) ?_);rw[<-j];exact GV ⟨_,R,GV (C _ ⟨_,B,y,n⟩ ((Iy ..).trans (Iy ..)))⟩
theorem yo{c:Array (Int×Value)}{t:SetTable}{ep:Nat}{o:Obj}{Q:Option Value->Shared->Prop}(l:A.handled=none)(d:IsSI s.heap it p w t c.size c.size ep)(h:s.heap.get? p=some o)(g:o.data=.set c ep t)(T:Ts c t (!w.params.followText "set-order") ent)
  (j:∀h',Heap.ExtBut it s.heap h'->Q none { s with heap:=h' }):wpAny (model prog w) A (pyNext (.ref it)) Q E s:=by
 have i:=d.typeIs;obtain⟨q,f,n,e⟩:=id d;have k:(wk w p ep c)[c.size]?=none:=Jg (by have z:=(mn w p ep c).length_eq;simp at z;omega);unfold pyNext;refine GD (Lj (Jf (name:=Str.ofString "__next__") i slot_next (IT slot_next i uB ?_ (vp _))));refine GD (GV ?_);refine GD (wpAny_fieldsOf f e ?_);dsimp only;refine GD (KU h g T.fits ?_);rw[GY (by simp)];refine GD (xa h g T (GW _) ?_);rw[Iu,k];show wpAny _ _ (setField (.ref it) 2 .none>>=_) _ _ _;refine GD (JP f e (by simp) ?_);show wpAny _ _ (newExc (.type "StopIteration") []>>=_) _ _ _;refine GD ?_;simp only[newExc,newTuple];refine GD (IY (GD (m:=firstArgMember _ _) (wpAny_of_eq (a:=Value.none) (by first|rfl|(simp only[firstArgMember];rfl)) (IY ?_ (by size_fits)))) (by size_fits));simp only[raiseNew];refine GD (wpAny_handled ?_);rw[show A.in1.handled=none from l];refine GD (GV (wpAny_throw ?_));refine GD (Lv (T := "StopIteration") (b:=true) ?_ isSubtype_stop ?_)
 ·exact⟨_,Hk _ rfl,R⟩
 exact GV (j _ (((Iy ..).extBut.push _).push _))
theorem Gh{t:SetTable}{i n ep:Nat}{Q:Value->Shared->Prop}(a:IsSI s.heap it p w t i n ep)(h:Q (.ref it) s):wpAny (model prog w) A (pyIter (.ref it)) Q E s:=by
 refine Lg a.typeIs vd (IT vd a.typeIs Du ?_ (EO _));show wpAny _ _ (ret (.ref it)) _ _ s;exact GV ⟨_,R, "set_iterator",_,a.typeIs,slot_next.lookup,h⟩
theorem Gn{a:Array (Int×Value)}{t:SetTable}{ep:Nat}{o:Obj}{Q:Value->Shared->Prop}(b:s.heap.get? p=some o)(g:o.ExactSet)(c:o.data=.set a ep t)(T:Ts a t (!w.params.followText "set-order") ent)
  (e:Q (.ref s.heap.objs.size) { s with heap:=s.heap.push { cls:=.type "set_iterator",data:=.fields #[.int 0 0,.int 0 0,.ref p,.int (a.size:Int) 0,.int (ep:Int) 0] } }):wpAny (model prog w) A (pyIter (.ref p)) Q E s:=by
 have d:s.TypeIs (.ref p) "set" := ⟨o,b,g.1⟩
 refine Lg d PySem.F.slot_set_iter (IT PySem.F.slot_set_iter d DQ ?_ (PySem.F.args_set_iter_1 _));unfold Builtin.«frozenset.__iter__» Builtin.Frozenset.slot0;refine GD (GD (GV (GV ?_)));unfold Builtin.Frozenset.sizeOf;refine GD (GD (KU b c T.fits (GV ?_)));unfold setDrawn;refine GD (GD (KA b c T.fits ?_));dsimp only;unfold setsByText;refine GD (GD (J5 (GV (GV ?_))));have h:t.plain=true:=by
  obtain⟨m,j,i,rfl,_⟩:=T.ex
  rfl
 have f:(!(w.params.followText "set-order")&&(!t.plain&&decide (a.size>1)))=false:=by
  rw[h];simp
 show wpAny _ _ (if (!(w.params.followText "set-order")&&(!t.plain&&decide (a.size>1)))=true then _ else _) _ _ _;rw[f,GY (by simp)];refine GD (GV ?_);refine GD (wpAny_setEpoch_of b c T.fits ?_);refine GD (IY (GV ⟨_,R, "set_iterator",_,⟨_,Hk _ rfl,R⟩,slot_next.lookup,?_⟩))
 simpa [rawInt] using e
theorem Gp{Q:Bool->Shared->Prop}(a:s.TypeIs (.ref p) "set")(h:Q false s):wpAny (model prog w) A (Builtin.List.listLengthHint (.ref p)) Q E s:=by
 unfold Builtin.List.listLengthHint;refine GD (wpAny_specialOf a PySem.F.slot_set_len.lookup ?_);generalize c:("set.__len__" : String)=d
 wp_delta
 rw[show splitId d=some ("set", "__len__") from by subst c;decide +kernel];subst c;refine GD (Lv (T := "set") (b:=true) a (by rw[isSubtype_type];kernel_rfl) ?_);refine wpAny_ite_split (λz=>absurd z (by decide)) λ_=>?_;refine wpAny_ite_split (λ_=>?_) λz=>absurd (by decide +kernel) z;exact GD (wpAny_typeOf a (GV h))
end
def sW(h:Heap)(p:Addr)(a:Array (Int×Value))(ep:Nat)(t:SetTable):Prop:=∃o,h.get? p=some o/\o.ExactSet/\o.data=.set a ep t
theorem EZ{prog:Program}{w:World}{A:Around}(y:A.handled=none)(I p:Addr)(q:p≠I){a:Array (Int×Value)}{ep:Nat}{t:SetTable}{ent:List (Nat×Tok)}(T:Ts a t (!w.params.followText "set-order") ent):
  Walks prog w A I [I,p] [I] a.size (λi v=>∃e,(wk w p ep a)[i]?=some e/\v=e.2) (λi h=>IsSI h I p w t i a.size ep/\sW h p a ep t) where
 sub:=λb g=>by
  rw[GE.mp g];exact GM
 frame:=λi h h' st n=>by
  obtain⟨⟨o,h1,x⟩,o',d,j⟩:=st;exact⟨⟨o,n I GM o h1,x⟩,o',n p (GP _ GM) o' d,j⟩
 item:=λi s Q E hi st f=>by
  obtain⟨c,o',d,j,k⟩:=st;have B:i<(wk w p ep a).size:=by
   have z:=(mn w p ep a).length_eq;simp at z;omega
  have m:=Ig B;refine Fo c d k T q m hi λh' r l=>?_;exact f _ h' s.toks ⟨_,m,R⟩ ⟨r,o',l.extBut p o' q d,j,k⟩ λb o g e=>l.extBut b o (λz=>g (by rw[z];exact GM)) e
 done:=λs Q E st f=>by
  obtain⟨c,o',d,j,k⟩:=st;exact yo y c d k T λh' u=>f h' s.toks λb o g e=>u b o (λz=>g (by rw[z];exact GM)) e
 self:=λi s Q E st f=>Gh st.1 f
theorem yR{prog:Program}{w:World}{p:Addr}{c:Array (Int×Value)}{ep:Nat}{t:SetTable}{ent:List (Nat×Tok)}(T:Ts c t (!w.params.followText "set-order") ent):PySem.W.KdlSrc prog w "set" p p c.size (λi v=>∃e,(wk w p ep c)[i]?=some e/\v=e.2) (λh=>sW h p c ep t) where
 type:=λ_ a=>by
  obtain⟨o,h1,b,_⟩:=a;exact⟨o,h1,b.1⟩
 there:=λ_ a=>by
  obtain⟨o,h1,_⟩:=a;exact⟨GS h1,GS h1⟩
 keep:=λh h' a j=>by
  obtain⟨o,h1,b⟩:=a;exact⟨o,j p (.inl rfl) o h1,b⟩
 notList:=rfl
 notTuple:=rfl
 hint:=λ_ _ s _ a d=>by
  obtain⟨o,h1,b,_⟩:=a;exact Gp ⟨o,h1,b.1⟩ d
 iter:=λA s g a=>by
  obtain⟨o,h1,b,f⟩:=a;have k:p≠s.heap.objs.size:=Hq (GS h1);refine⟨_,_,λ_ _ d=>Gn h1 b f T d,EZ g _ p k T,⟨_,Hk _ rfl,R,?_⟩,o,GR _ h1,b,f⟩;have z:sa w t 0=0:=by
   unfold sa
   split<;>rfl
  rw[z]
  rfl
end Sx
namespace Sx
open PySem PyProof.Rows PySem.Spec
section
variable{prog:Program}{w:World}{A:Around}{E:Value -> Shared -> Prop}{s:Shared}{p:Addr}
theorem wC:∀(l:List (Int×Value)),(∀e∈l,∃(n:Nat)(t:Tok),e.2=.int (n:Int) t/\e.1=(n:Int))->IntsAre (l.map (·.2)) (l.map (·.1))
 |[],_=>.nil
 |e::l,h=>by
  obtain⟨n,t,h1,a⟩:=h e GM;rw[HD,HD,h1,a];exact .cons _ _ (wC l λx b=>h x (GP _ b))
theorem yz{c:List Int}(h:c.Pairwise (·<=·))(d:c.Nodup):c.Pairwise (·<·):=(h.and d).imp λ⟨a,b⟩=>Int.lt_iff_le_and_ne.mpr ⟨a,b⟩
theorem sorted_set{ent:List (Nat×Tok)}{Q:Value->Shared->Prop}(P:A.handled=none)(S:SetS s.heap p (!w.params.followText "set-order") ent)
  (h:∀(g h':Heap)(tk:Nat)(out:Array Value)(e:Nat)(i:List Int),IntsAre out.toList i->i.Pairwise (·<·)->i.Perm (ent.map λe=>(e.1:Int))->i.length<=10 ->
   (∀b o,s.heap.get? b=some o->g.get? b=some o)->(∀b o,g.get? b=some o->h'.get? b=some o)->h'.get? g.objs.size=some (seqObj "list" out e)->Q (.ref g.objs.size) { s with heap:=h',toks:=tk }):
  wpAny (model prog w) A (call (.builtin "sorted") [.ref p]) Q E s:=by
 obtain⟨o,d,c,t,X,Y,O,T⟩:=S;obtain⟨z1,z2⟩:=T.size;refine Calls.call_function_entry kind_sorted plain_sorted entry_sorted (args_sorted1 _) (GD (m:=checkCount "sorted" 1 1 _) (GV (GD (PySem.W.kdu_collect (yR (ep:=c) T) P ⟨o,X,Y,O⟩ (by rw[HF];omega) λh' tk f U k=>?_))));have L:f.toList=(wk w p c d).toList.map (·.2):=by
  have zl:=(mn w p c d).length_eq;rw[HH,HH] at zl;refine List.ext_getElem? λj=>?_;rw[GQ,JE,JE];by_cases y:j<f.size
  ·rw[Ig y];obtain⟨e,I,J⟩:=k.2 j _ (Ig y);rw[I,J]
   rfl
  ·have:=k.1;rw[Jg (by omega),Jg (by omega)]
   rfl
 have M:IntsAre f.toList ((wk w p c d).toList.map (·.1)):=by
  rw[L];refine wC _ λe l=>?_;have x:=(mn w p c d).mem_iff.mp l;rw[T.es] at x;obtain⟨q,hq,rfl⟩:=Hc.mp x;exact⟨q.1,q.2,R,R⟩
 have N:((wk w p c d).toList.map (·.1)).Perm (ent.map λe=>(e.1:Int)):=by
  have z:=(mn w p c d).map (·.1);rw[show d.toList.map (·.1)=ent.map λe=>(e.1:Int) from by rw[T.es,List.toList_toArray,HN];rfl] at z;exact z
 have H:f.toList.length<64:=by
  rw[HH,k.1];omega
 have r:(h'.push (seqObj "list" f.toList.toArray 0)).get? h'.objs.size=some (seqObj "list" f.toList.toArray 0):=Hk _ rfl;refine GD (wpAny_newList ?_);refine GD (Jc (IT slot_list_sort ⟨_,r,R⟩ entry_list_sort (list_sort_tree r M H λout i C D F=>⟨_,R,?_⟩) (args_list_sort _)));obtain⟨e,l⟩:=sortedHeap_at (out:=out) r;have Z:(ent.map λe=>(e.1:Int)).Nodup:=by
  have z:=T.nd;rw[show(ent.map λe=>(e.1:Int))=(ent.map (·.1)).map (λn:Nat=>(n:Int)) from by rw[HN];rfl];exact List.Pairwise.map _ (λa b G z=>G (by exact_mod_cast z)) z
 have u:=D.trans N;refine GV ⟨_,R,h h' _ tk out e i C (yz F (u.nodup_iff.mpr Z)) u ?_ U (λb ob v=>?_) l⟩
 ·rw[u.length_eq,Gz];omega
 ·have B:=GS v;rw[sortedHeap_old (Hq B) (by rw[size_push'];exact IL B)];exact GR _ v
end
end Sx
namespace L2
open PySem PySem.Spec PyProof.Rows
def sN(w:World)(p:Addr)(ns:List Nat):HO:=.ext λh=>∃a,Sx.SetS h p (!w.params.followText "set-order") a/\∀v,v∈a.map (·.1)↔v∈ns
section
variable{X:Cx}{w:World}
theorem Eg(n:X.calm=true)(z:X.w=w:=by rfl):eM X (.type "set") (λg H Q=>∃(l:Addr)(a:List Nat),g=[.ref l]/\SqL X.K H l (a.map λv:Nat=>V.int (v:Int))/\(∀v∈a,v<10)/\a.length<=1000/\∀p,H p=none->Q (.ref p) (upd H p (sN w p a))):=by
 subst z;intro f s M H g L Q I r h;obtain⟨l,a,rfl,e,i,x,q⟩:=h;obtain⟨u,rfl,D⟩:=fD r
 cases D
 rw[show(a.map λv:Nat=>V.int (v:Int))=(a.map λv:Nat=>(v:Int)).map V.int from by rw[HN];rfl] at e;obtain⟨F,C,B,_⟩:=I.list e;refine Sx.call_set (I.ok.hd n) B.isList (ns:=a) (by simpa using nG C) i x λm E c S t k=>?_;have A:∃o,m.get? s.heap.objs.size=some o:=by
  obtain⟨o,_,_,_,y,_⟩:=S;exact⟨o,y⟩
 exact⟨.ref s.heap.objs.size,_,I.laid (o:=sN X.w s.heap.objs.size a) (t':=E) (λb o d=>k b o (GS d) d) (GW _) ⟨⟨c,S,t⟩,A,λG J ⟨j,S',m'⟩ kk=>⟨j,S'.keep kk,m'⟩⟩,R,q _ (I.hok.fresh (GW _))⟩
theorem CW(C:X.calm=true)(F:X.w=w:=by rfl):eM X (.builtin "sorted") (λo H Q=>∃(p:Addr)(f:List Nat),o=[.ref p]/\H p=some (sN w p f)/\∀a:List Int,a.Pairwise (·<·)->(∀v,v∈a↔∃n∈f,v=((n:Nat):Int))->∀l,H l=none->Q (.ref l) (upd H l (.lst (a.map V.int)))):=by
 subst F;intro b s M H o P Q I r h;obtain⟨p,f,rfl,E,q⟩:=h;obtain⟨u,rfl,L⟩:=fD r
 cases L
 obtain⟨⟨z,S,k⟩,_⟩:=I.hok p _ E;refine Sx.sorted_set (I.ok.hd C) S λg O m i e a t x y N G J D=>?_;have j:Inv X b M H { s with heap:=g,toks:=m }:=I.kept G;refine⟨.ref g.objs.size,_,j.laid (t':=m) J (GW _) (show ObjOk X.prog X.w _ _ _ (.lst (a.map V.int)) from⟨by rw[Gz,HF];omega,i.toList,e,nN t,D⟩),R,q a x (λv=>?_) _ (j.hok.fresh (GW _))⟩;rw[y.mem_iff,Hc]
 constructor
 ·rintro⟨c,d,rfl⟩;exact⟨c.1,(k _).mp (Iq d),R⟩
 ·rintro⟨n,d,rfl⟩;obtain⟨c,A,B⟩:=Hc.mp ((k n).mpr d);exact⟨c,A,by rw[B]⟩
end
end L2
namespace Sx
open PySem PyProof.Rows PySem.Spec
section
variable{prog:Program}{w:World}{p:Addr}
abbrev kS(prog:Program)(w:World):KeyKind prog w Str:=PySem.strKind prog w
theorem setOf_keep{h h':Heap}{S:Str->Bool}{n:Nat}(x:h.SetOf (kS prog w) p S n)(k:∀o,h.get? p=some o->h'.get? p=some o):h'.SetOf (kS prog w) p S n:=by
 obtain⟨o,c,b,t,d,a⟩:=x;exact⟨o,c,b,t,k o d,a⟩
theorem adds_str:mQ prog w (λ(k:Str) x=>∃t,x=.str k t) (λ_=>True) p (λh i M=>∃ks:List Str,ks.Nodup/\ks.length<=i/\(∀k,k∈ks↔M k)/\h.SetOf (kS prog w) p (λk=>decide (k∈ks)) ks.length) where
 add:=by
  rintro A E s k _ i M Q l _ ⟨t,rfl⟩ ⟨ks,f,n,m,S⟩ h;unfold setAdd;refine Jc (GD ((kS prog w).pyHash (k:=k) (strKind_is _ _ _ _) ?_));refine wpAny_setAddHashed_of (knd:=kS prog w) (s:={ s with toks:=s.toks+1 }) (strKind_is _ _ _ _) rfl S (by unfold scanBound;omega) λg j d=>h _ g j ?_;by_cases c:k∈ks
  ·refine⟨ks,f,by omega,λv=>by rw[m];exact⟨.inr,λz=>z.elim (λe=>e▸(m k).mp c) id⟩,SetOf_congr d (λv=>?_) (by simp[c])⟩;by_cases e:v=k
   ·subst e;simp[c]
   ·simp[e]
  ·refine⟨k::ks,Jk.mpr ⟨c,f⟩,by rw[GN];omega,λv=>by rw[GI,m],SetOf_congr d (λv=>?_) (by simp[c])⟩;simp[GI,Bool.or_comm]
 keep:=λ⟨ks,a,b,c,S⟩ k=>⟨ks,a,b,c,setOf_keep S k⟩
 same:=λ⟨ks,a,b,c,S⟩ e=>⟨ks,a,b,λv=>(c v).trans (e v),S⟩
end
end Sx
namespace L2
open PySem PySem.Spec PyProof.Rows
def sS(P:Program)(w:World)(p:Addr)(ks:List Str):HO:=.ext λh=>h.SetOf (Sx.kS P w) p (λk=>decide (k∈ks)) ks.length
section
variable{X:Cx}{P:Program}{w:World}
theorem Ev(J:X.calm=true)(G:X.prog=P:=by rfl)(O:X.w=w:=by rfl):eM X (.type "set") (λC H Q=>∃(l:Addr)(c:List Str),C=[.ref l]/\SqL X.K H l (c.map V.str)/\c.length<=1000/\∀(d:List Str),d.Nodup->(∀k,k∈d↔k∈c)->d.length<=c.length->∀p,H p=none->Q (.ref p) (upd H p (sS P w p d))):=by
 subst O G;intro A s σ H C us Q I r h;obtain⟨l,c,rfl,N,hn,q⟩:=h;obtain⟨u,rfl,Y⟩:=fD r
 cases Y
 obtain⟨aa,B,W,_⟩:=I.list N;obtain⟨n,rfl,e⟩:=qT B;have zl:n.length=c.length:=by rw[<-e,Gz]
 have sz:(strValues n).toArray.size=c.length:=by
  have:=B.length;rw[Gz] at this;rw[Hb];omega
 have E:∀i,c.getD i default=((n[i]?).map (·.1)).getD default:=λi=>by rw[<-e,He,GQ]
 refine Sx.call_setG Sx.adds_str (val:=λi=>c.getD i default) (I.ok.hd J) W.isList (λi v a=>?_) (λ_ _=>True.intro) (by omega) (λg L=>⟨[],LF,GW _,λv=>by simp,SetOf_congr ((setObjOf_fresh (knd:=Sx.kS X.prog X.w) _).setOf L (by unfold scanBound;omega)) (λ_=>by simp) rfl⟩) λF Z ⟨d,nd,le,m,S⟩ k=>?_
 ·rw[Im] at a;rw[E];unfold strValues at a;rw[GQ] at a
  cases t:n[i]? with
  |none=>
   rw[t] at a
   cases a
  |some z=>
   rw[t] at a
   cases a
   exact⟨_,R⟩
 ·have U:∃o,F.get? s.heap.objs.size=some o:=by
   obtain⟨o,_,_,_,M,_⟩:=S;exact⟨o,M⟩
  refine⟨.ref s.heap.objs.size,_,I.laid (o:=sS X.prog X.w s.heap.objs.size d) (t':=Z) (λb o x=>k b o (GS x) x) (GW _) ⟨S,U,λg1 g2 D T=>Sx.setOf_keep D T⟩,R,q d nd (λv=>(m v).trans ?_) (by omega) _ (I.hok.fresh (GW _))⟩
  constructor
  ·rintro⟨j,y,f⟩;rw[He,GG (by omega)] at f;rw[<-f];exact IH _
  ·intro a;obtain⟨j,y,f⟩:=KQ a;exact⟨j,by omega,by rw[He,GG y,f];rfl⟩
theorem D1(e:X.prog=P:=by rfl)(m:X.w=w:=by rfl):eM X (.builtin "len") (λc H Q=>∃(p:Addr)(a:List Str),c=[.ref p]/\H p=some (sS P w p a)/\Q (.int a.length) H):=by
 subst m e;intro b s B H c A Q I r h;obtain⟨p,a,rfl,l,q⟩:=h;obtain⟨u,rfl,n⟩:=fD r
 cases n
 obtain⟨o,z,y,t,k,d,g,x,v,f,i,j⟩:=(I.hok p _ l).1;refine call_len_set k d g i (by unfold scanBound at f;omega) ⟨.int a.length,H,I.tok _,⟨_,by rw[j]⟩,q⟩
end
def sK:Value->Option Str
 |.str s _=>some s
 |_=>none
def xL(o:Obj)(ks:List Str):Bool:=match o.cls,o.data with
 |.type "tuple",.seq its _=>its.toList.map sK==ks.map some&&decide (its.size<=100)
 |_,_=>false
def mP(K:PySem.W.Frag)(a:Addr)(ks:List Str):Bool:=match K.lookup a with
 |some o=>xL o ks
 |none=>false
theorem ut:∀{a:List Value} {ks:List Str},a.map sK=ks.map some->Vals (ks.map V.str) a
 |[],[],_=>.nil
 |[],_::_,h=>by cases h
 |_::_,[],h=>by cases h
 |u::a,k::ks,h=>by
  rw[HD,HD] at h;injection h with h1 b;refine .cons ?_ (ut b)
  cases u with
  |str s t=>
   have e:s=k:=by injection h1
   exact⟨t,by rw[e]⟩
  |_=>cases h1
theorem y9{K:PySem.W.Frag}{a:Addr}{ks:List Str}(h:mP K a ks=true)(H:Hp):SqT K H a (ks.map V.str):=by
 unfold mP at h
 split at h
 ·rename_i o e
  unfold xL at h
  split at h
  ·rename_i b n c d
   rw[Ha] at h;refine .inr ⟨o,b,n,e,c,d,?_,ut (by simpa using h.1)⟩;have:=GJ h.2;rw[HF];omega
  ·cases h
 ·cases h
end L2
namespace Ow
open PySem L2 Wd
def jw(c:Nat)(y:Str):Bool:=!(Builtin.Str.occurrences y ⟨#[c]⟩ 0 y.length 1).isEmpty
def fR(z y:Str):Bool:=z.cps.toList.all λc=>jw c y
def dm(z:Str):Prop:=z.cps.all (·<128)=true/\z.cps.size<=1000
def AA:Sp:=λb H Q _=>∃z y:Str,b=[.str z,.str y]/\dm z/\∀a,Same H a->Q (.bl (fR z y)) a
def kN:Str := "abcdefghijklmnopqrstuvwxyz"
def gW:Str := "0123456789"
def noNames:List Str:=["must", "may", "one", "from", "needs", "bans", "most"]
def dA(z:Str):Bool:=decide (1<=z.length/\z.length<=8)&&(fR z kN&&!noNames.contains z)
def zR:Sp:=λb H Q _=>∃z:Str,b=[.str z]/\dm z/\∀a,Same H a->Q (.bl (dA z)) a
def bF(ws:List Str):List V:=ws.map V.str
theorem lO(ws:List Str):(bF ws).all iF=true:=by
 rw[Hv];intro v a;obtain⟨z,_,rfl⟩:=Hc.mp a
 rfl
theorem lQ(z:Str)(ws:List Str):jx (.str z) (bF ws)=ws.contains z:=by
 unfold jx bF;rw[List.any_map]
 induction ws with
 |nil=>rfl
 |cons w ws ih=>
  rw[LL,ih,Kn];congr 1;show ib (.str w) (.str z)=(z==w)
  exact BEq.comm
theorem rJ{z:Str}:∀{ns:List Str},z∈ns->ns[ns.idxOf z]?=some z
 |[],h=>by cases h
 |n::ns,h=>by
  rw[List.idxOf_cons];by_cases e:n=z
  ·rw[show(n==z)=true from Ko.mpr e];simp[e]
  ·rw[show(n==z)=false from IV.mpr e];exact rJ ((GI.mp h).resolve_left λq=>e q.symm)
theorem xj{z:Str}:∀{ns:List Str} {i:Nat} {y:Str},i<ns.idxOf z->ns[i]?=some y->y≠z
 |[],i,y,h,a=>by cases a
 |n::ns,i,y,h,a=>by
  rw[List.idxOf_cons] at h;by_cases e:n=z
  ·rw[show(n==z)=true from Ko.mpr e] at h;exact absurd h (LB _)
  ·rw[show(n==z)=false from IV.mpr e] at h
   cases i with
   |zero=>
    injection a with a;rw[<-a];exact e
   |succ i=>exact xj (Nat.lt_of_succ_lt_succ h) a
def dq(ws:List Str):Bool:=(ws.head?==some ("most" : Str))||(decide (ws.length=3)&&(["needs", "bans"]:List Str).contains (ws.getD 1 ""))
def Dj:Sp:=λc H Q _=>∃(l:Addr)(a:List Str),c=[.ref l]/\H l=some (.lst (bF a))/\a≠[]/\∀b,Same H b->Q (.bl (dq a)) b
end Ow
namespace L2
open PySem PySem.Spec PyProof.Rows
section
variable{prog:Program}{w:World}{A:Around}{E:Value -> Shared -> Prop}{s:Shared}
theorem EW{a:Addr}{Q:Option Obj->Shared->Prop}(q:Q (s.heap.get? a) s):wpAny (model prog w) A (loadIfAlive a) Q E s:=by
 intro Γ p _;unfold loadIfAlive;rw[Sem.wp_loadIfAlive,Sem.wp_pure];exact q
end
section
variable{X:Cx}{pins:List (Addr × Obj)}{σ:List (Option V)}{H H':Hp}{s:Shared}{h':Heap}
theorem Inv.many{t':Nat}(I:Inv X pins σ H s)(k:∀b u,s.heap.get? b=some u->h'.get? b=some u)(a:∀b,b<s.heap.objs.size->H' b=H b)(new:∀b o,s.heap.objs.size<=b->H' b=some o->ObjOk X.prog X.w H' h' b o):
  Inv X pins σ H' { s with heap:=h',toks:=t' }:=by
 have d:∀b o,H b=some o->H' b=some o:=λb o q=>by
  rw[a b (I.hok.lt q)];exact q
 refine I.un ⟨λb u q _ _ _=>k b u q,λb u q _ _ _=>⟨u.slots,k b u q⟩,λb u q n _=>by rw[a b (GS q)];exact n,λb u q _=>⟨u,k b u q⟩,λb f q=>d _ _ q,λb o u q=>d _ _ q,λb g q=>⟨#[],by rw[d _ _ q];simp⟩⟩ λb o e=>?_;by_cases z:b<s.heap.objs.size
 ·rw[a b z] at e;exact(I.hok b o e).stay (λc v _ q=>k c v q) (λc q=>d _ _ q) λc f q=>d _ _ q
 ·exact new b o (Nat.le_of_not_lt z) e
end
open Classical in
def cJ{a:Type}:List a->List a
 |[]=>[]
 |[x]=>[x]
 |x::_::r=>x::cJ r
theorem uf{a:Type}:∀(l:List a),(List.range ((l.length+1)/2)).filterMap (λj=>l[2*j]?)=cJ l
 |[]=>by simp[cJ]
 |[x]=>by simp[cJ]
 |x::y::r=>by
  have e:((x::y::r).length+1)/2=(r.length+1)/2+1:=by
   rw[GN,GN];omega
  rw[e,List.range_succ_eq_map,Iz,K4];show x::_=x::cJ r;rw[<-uf r]
  rfl
theorem Dx(a:List Value)(k:Nat):slicePick a.toArray (some (k:Int)) none (some 2)=(cJ (a.drop k)).toArray:=by
 have h:sliceBounds (some (k:Int)) none (some 2) a.toArray.size=(((min k a.length:Nat):Int),(a.length:Int),(2:Int)):=by
  unfold sliceBounds;simp;omega
 unfold slicePick;rw[h];show((sliceRange ((min k a.length:Nat):Int) (a.length:Int) 2).filterMap λi=>a.toArray[i]?).toArray=_;congr 1;have d:sliceRange ((min k a.length:Nat):Int) (a.length:Int) 2=(List.range (((a.drop k).length+1)/2)).map λj=>k+2*j:=by
  unfold sliceRange;rw[Hd];have b:(if (2:Int)>0 then (if ((min k a.length:Nat):Int)<a.length then ((a.length:Int)-((min k a.length:Nat):Int)+2-1)/2 else 0) else (if ((min k a.length:Nat):Int)>a.length then (((min k a.length:Nat):Int)-a.length-2-1)/(-2) else 0)).toNat=(a.length-k+1)/2:=by
   rw[Hl (by decide)]
   split<;>omega
  simp only[b];refine JI λj c=>?_;have:=Ih.mp c;omega
 rw[d,K4,<-uf];congr 1
 funext j
 show a.toArray[k+2*j]?=(a.drop k)[2*j]?;rw[Im,K5]
theorem ub:∀{xs:List V} {a:List Value},Vals xs a->Vals (cJ xs) (cJ a)
 |_,_,.nil=>.nil
 |_,_,.cons h .nil=>.cons h .nil
 |_,_,.cons h (.cons _ t)=>.cons h (ub t)
theorem uR:∀{xs:List V} {a:List Value} (k:Nat),Vals xs a->Vals (xs.drop k) (a.drop k)
 |_,_,0,h=>h
 |_,_,k+1,.nil=>.nil
 |_,_,k+1,.cons _ t=>uR k t
theorem vi{a:Type}:∀(l:List a),(cJ l).length<=l.length
 |[]=>GW _
 |[x]=>GW _
 |x::y::r=>by
  have:=vi r;show(cJ r).length+1<=r.length+1+1;omega
section
variable{X:Cx}{e lo st:Expr}{te tl tst:TE}{pos p2:Pos}
def zB(te tl tst:TE):TE:=λc H Q=>te c H λx f=>tl c f λz g=>tst c g λy b=>∃a d,∃k:Nat,y=.int 2/\z=.int (k:Int)/\x=.ref a/\b a=some (.lst d)/\∀p,b p=none->Q (.ref p) (upd b p (.lst (cJ (d.drop k))))
theorem wc(u:PE X e te)(B:PE X lo tl)(i:PE X st tst):PE X (.Subscript e (.Slice (some lo) none (some st) p2) pos) (zB te tl tst):=by
 intro c s f H Q I h;refine Subscript_ (bZ (u c s f H _ I h) λv F ⟨x,H1,I1,r1,q1⟩=>?_);refine wpAny_Slice ?_;rw[evalPart_some];refine bZ (B c F f H1 _ I1 q1) λM G ⟨z,H2,I2,r2,q2⟩=>?_;rw[evalPart_none];refine GV ?_;rw[evalPart_some];refine bZ (i c G f H2 _ I2 q2) λN d ⟨y,H3,I3,r3,q3⟩=>?_;obtain⟨a,m,k,rfl,rfl,rfl,C,q⟩:=q3
 cases r1
 obtain⟨t,rfl⟩:=r3;obtain⟨j,rfl⟩:=r2;have g:Inv X c f H3 { d with heap:=d.heap.push { cls:=.type "slice",data:=.fields #[.int (k:Int) j,.none,.int 2 t] } }:=I3.kept (t':=d.toks) λb D q=>GR _ q;obtain⟨n,r,l,L⟩:=g.list (SqL.of C);have J:=r.length;show wpAny (model X.prog X.w) X.A (subscriptTail e (.Slice (some lo) none (some st) p2) (.ref a) (.ref d.heap.objs.size)) (EP X c f Q) X.xe { d with heap:=d.heap.push { cls:=.type "slice",data:=.fields #[.int (k:Int) j,.none,.int 2 t] } };refine tail_any (ops:=[.ref a,.ref d.heap.objs.size]) l.isList.typeIs Lf.lookup ?_ (by with_unfolding_all rfl);refine wpAny_getItem_list_slice l.isList (Heap.IsSliceOf.new ..) (.int (k:Int) j) .none (.int 2 t) (by simp) ?_ (by rw[Hb];omega);rw[Dx];have E:=ub (uR k r);refine⟨.ref _,_,g.laid (t':=d.toks) (o:=.lst (cJ (m.drop k))) (λb D q=>GR _ q) (GW _) ?_,R,q _ (g.hok.fresh (GW _))⟩;refine⟨?_,cJ (n.drop k),0,E,Hk _ rfl⟩;have p:=vi (m.drop k);rw[Hd] at p;omega
end
end L2
namespace Ow
open PySem L2 Wd
def rn(z:Str):Bool:=decide (0+(1:Nat)<=z.length)&&Builtin.Str.subAt z "-" 0
def ff(z:Str):Str:=if rn z=true then StrLaws.sliceText z (some 1) none else z
def gM(z:Str):Bool:=decide (1<=(ff z).length/\(ff z).length<=60)&&fR (ff z) gW&&(decide (z = "0")||!decide ((ff z).cps.toList.head?=some 48))
def Gs:Sp:=λb H Q _=>∃z:Str,b=[.str z]/\dm z/\dm (ff z)/\∀a,Same H a->Q (.bl (gM z)) a
def bX(n:Int):Str:=Str.ofString (toString n)
def cU(lo hi m:Nat):List Str:=if lo=m/\hi=m then ["must"] else if lo=0/\hi=m then ["may"] else if lo=1/\hi=1 then ["one"] else ["from",bX lo, "to",bX hi]
def FF:Sp:=λb H Q _=>∃lo a m:Nat,b=[.int (lo:Int),.int (a:Int),.int (m:Int)]/\lo<=1000/\a<=1000/\∀p,H p=none->Q (.ref p) (upd H p (.lst (bF (cU lo a m))))
theorem rY(a b:Nat):decide (V.int (a:Int)=V.int (b:Int))=decide (a=b):=by
 rw[IA,HK,HK]
 constructor
 ·intro h;injection h with h;omega
 ·intro h;rw[h]
theorem nJ{n:Nat}(h:n<=1000):((n:Int)).natAbs.log2<1920:=by
 rw[K3];rcases K8 n with z|z
 ·rw[z];decide
 ·exact(Nat.log2_lt (by omega)).mpr (HJ h (Hj (by decide:1000<2^10) (J1 (by decide) (by decide))))
theorem k7{a b2:Bool}{A B C:Prop}(b:(if b2=true then A else B)->C)(h:if (a&&b2)=true then A else B):if a=true then C else (if false=true then A else B):=by
 cases a with
 |false=>exact h
 |true=>exact b h
theorem kT(a b x y:Nat):(decide (V.int (a:Int)=V.int (b:Int))&&decide (V.int (x:Int)=V.int (y:Int)))=decide (a=b/\x=y):=by
 rw[rY,rY,IA,Ha,HK,HK,HK]
def iX(ws:List Str):PyData:=.list (ws.map PyData.str)
def fS(ws:List Str):Prop:=∀w∈ws,PyData.strOk w=true
theorem wx(H:Hp):∀ws:List Str,DnL H (ws.map PyData.str) (bF ws)
 |[]=>rfl
 |w::ws=>⟨_,_,rfl,rfl,wx H ws⟩
theorem mj{H:Hp}{l:Addr}{ws:List Str}(h:H l=some (.lst (bF ws))):Dn H (iX ws) (.ref l):=⟨l,_,R,h,wx H ws⟩
theorem vc:∀{ws:List Str},fS ws->(ws.map PyData.str).all (cI 1)=true
 |[],_=>rfl
 |w::ws,h=>by
  rw[HD,Jw,vc (ws:=ws) λx a=>h x (GP _ a),LJ];exact h w GM
theorem m6{ws:List Str}(h:fS ws):SeqAt.shaped (iX ws)=true:=CU (vc h) (by decide)
theorem wy:∀ws a:List Str,PyData.eqv (iX ws) (iX a)=decide (ws=a):=by
 have z:∀ws a:List Str,PyData.eqvAll (ws.map PyData.str) (a.map PyData.str)=decide (ws=a):=by
  intro ws
  induction ws with
  |nil=>
   intro a
   cases a with
   |nil=>simp[PyData.eqvAll]
   |cons v a=>simp[PyData.eqvAll]
  |cons w ws ih=>
   intro a
   cases a with
   |nil=>simp[PyData.eqvAll]
   |cons v a=>
    have b:(w==v)=decide (w=v):=by
     rw[IA,Ko,HK]
    simp only[HD,PyData.eqvAll,ih,PyData.eqv,b,List.cons.injEq];exact(Bool.decide_and _ _).symm
 intro ws a;simp only[iX,PyData.eqv];exact z ws a
section
variable{X:Cx}
theorem nF(g:X.A.units+64<cLine):dG X (compareOp .Eq) (λx y H Q=>∃(a b:Addr)(ws d:List Str),x=.ref a/\y=.ref b/\H a=some (.lst (bF ws))/\H b=some (.lst (bF d))/\fS ws/\fS d/\Q (.bl (decide (ws=d))) H):=by
 intro c s m H x y v u Q I k l h;obtain⟨a,b,ws,d,rfl,rfl,e,f,i,j,q⟩:=h;exact uH g c s m H _ _ v u Q I k l ⟨iX ws,iX d,mj e,mj f,m6 i,m6 j,by rw[wy];exact q⟩
theorem DB(g:X.A.units+64<cLine):dG X (compareOp .NotEq) (λx y H Q=>∃(a b:Addr)(ws d:List Str),x=.ref a/\y=.ref b/\H a=some (.lst (bF ws))/\H b=some (.lst (bF d))/\fS ws/\fS d/\Q (.bl (!decide (ws=d))) H):=by
 intro c s m H x y v u Q I k l h;obtain⟨a,b,ws,d,rfl,rfl,e,f,i,j,q⟩:=h;exact uG g c s m H _ _ v u Q I k l ⟨iX ws,iX d,mj e,mj f,m6 i,m6 j,by rw[wy];exact q⟩
end
structure Names(ns:List Str):Prop where
 ne:ns≠[]
 few:ns.length<=9
 nd:ns.Nodup
 plain:∀z∈ns,dm z
 name:∀z∈ns,dA z=true
def ve:Sp:=λc H Q _=>∃(l:Addr)(b:List Str),c=[.ref l]/\H l=some (.lst (bF ("ware" :: b)))/\Names b/\∀(p:Addr)(a:Hp),Same H a->H p=none->a p=some (.lst (bF b))->Q (.ref p) a
def bK(ns:List Str)(k:Nat):Str:=ns.getD k ""
theorem gG{ns:List Str}(b:ns.Nodup){k:Nat}(h:k<ns.length):bK ns k∈ns/\ns.idxOf (bK ns k)=k:=by
 have e:bK ns k=ns[k]:=by
  unfold bK;rw[He,GG h]
  rfl
 have m:bK ns k∈ns:=by
  rw[e];exact IH h
 refine⟨m,?_⟩;have g:=rJ m;obtain⟨c,a⟩:=GU.mp g;exact(List.getElem_inj b).mp (a.trans e)
theorem yS:∀{c:List Int} {ks:List Nat},c.Pairwise (·<·)->ks.Pairwise (·<·)->(∀v,v∈c↔∃n∈ks,v=((n:Nat):Int))->c=ks.map λk:Nat=>(k:Int):=by
 intro c ks e j h;have f:(ks.map λk:Nat=>(k:Int)).Pairwise (·<·):=List.Pairwise.map _ (λa b d=>by exact_mod_cast d) j;have i:c.Nodup:=e.imp λd=>Int.ne_of_lt d;have g:(ks.map λk:Nat=>(k:Int)).Nodup:=f.imp λd=>Int.ne_of_lt d;have l:c.Perm (ks.map λk:Nat=>(k:Int)):=(J0 i g).mpr λv=>by
  rw[h,Hc];exact⟨λ⟨n,a,b⟩=>⟨n,a,b.symm⟩,λ⟨n,a,b⟩=>⟨n,a,b.symm⟩⟩
 exact l.eq_of_pairwise (λa b _ _ x y=>absurd (Int.lt_trans x y) (Int.lt_irrefl _)) e f
end Ow
namespace Ow
open PySem L2 Wd PySem.W.KIN PySem.NumText PyProof.Rows PySem.Calls PySem.W
theorem D9{m:Nat}(h:10<=m):Nat.toDigits 10 m=Nat.toDigits 10 (m/10)++[Nat.digitChar (m%10)]:=by
 have a:m%10<10:=Nat.mod_lt m (by decide);have t:Nat.toDigits 10 (m/10)++Nat.toDigits 10 (m%10)=Nat.toDigits 10 (10*(m/10)+m%10):=Nat.toDigits_append_toDigits (by decide) (by omega) a;rw[Nat.div_add_mod,Lq a] at t;exact t.symm
theorem nW:∀(k m:Nat),m<10^(k+1)->(Nat.toDigits 10 m).length<=k+1/\Nat.toDigits 10 m≠[]/\(m≠0->(Nat.toDigits 10 m).head?≠some '0')
 |0,m,h=>by
  have h':m<10:=by simpa using h
  rw[Lq h'];refine⟨GW _,by simp,λn=>?_⟩;have z:∀d:Fin 10,d.val≠0->([Nat.digitChar d.val].head?≠some '0'):=by decide
  exact z ⟨m,h'⟩ n
 |k+1,m,h=>by
  by_cases h':m<10
  ·obtain⟨a,b,c⟩:=nW 0 m (by simpa using h');exact⟨by omega,b,c⟩
  ·have f:m/10<10^(k+1):=by
    rw[Nat.div_lt_iff_lt_mul (by decide)];rw[Nat.pow_succ] at h;exact h
   obtain⟨a,b,c⟩:=nW k (m/10) f;rw[D9 (by omega)];refine⟨by rw[GC];show _+1<=_;omega,by simp,λ_=>?_⟩;rw[List.head?_append]
   cases e:(Nat.toDigits 10 (m/10)).head? with
   |none=>exact absurd (List.head?_eq_none_iff.mp e) b
   |some x=>
    have:=c (by omega);rw[e] at this;exact this
theorem uN{m:Nat}{c:Nat}(h:c∈(Nat.toDigits 10 m).map Char.toNat):48<=c/\c<=57:=by
 obtain⟨b,a,e⟩:=Hc.mp h;have r:=digit_range (Nat.isDigit_of_mem_toDigits (by decide) (by decide) a);rw[<-e];exact r
theorem Ao{c:Nat}(h:48<=c/\c<=57):jw c gW=true:=by
 have z:∀d:Fin 10,jw (48+d.val) gW=true:=by decide +kernel
 have:=z ⟨c-48,by omega⟩
 rwa [show 48+(c-48)=c by omega] at this
theorem rl(m:Nat):(bX (m:Int)).cps.toList=(Nat.toDigits 10 m).map Char.toNat:=signs_num m
theorem vE(m:Nat):(bX (-((m+1:Nat):Int))).cps.toList=45::(Nat.toDigits 10 (m+1)).map Char.toNat:=by
 unfold bX;rw[signs_ofString];show(("-" ++ Nat.repr (m+1)).toList).map Char.toNat=_;rw[String.toList_append,Nat.toList_repr]
 rfl
def dH(cs:List Nat):Str:=⟨cs.toArray⟩
theorem kf{z:Str}{cs:List Nat}(h:z.cps.toList=cs):z=dH cs:=by
 obtain⟨c⟩:=z;unfold dH;rw[<-h]
theorem fT(cs:List Nat):(dH cs).cps.toList=cs:=by
 unfold dH;rw[List.toList_toArray]
theorem iA(cs:List Nat):(dH cs).length=cs.length:=by
 show(dH cs).cps.size=_;rw[<-HH,fT]
theorem nO{cs:List Nat}(h:∀c∈cs,c<128)(b:cs.length<=1000):dm (dH cs):=by
 refine⟨?_,by have:=iA cs;show(dH cs).length<=1000;omega⟩;rw[Jx];intro c a;have:c∈(dH cs).cps.toList:=JH.mpr a;rw[fT] at this;exact GF (h c this)
theorem uv(c:Nat)(cs:List Nat):rn (dH (c::cs))=decide (c=45):=by
 unfold rn;rw[GF (show 0+1<=(dH (c::cs)).length by rw[iA,GN];omega),HV];unfold Builtin.Str.subAt;rw[show("-" : Str).cps=#[45] from rfl,show("-" : Str).length=1 from rfl,show(dH (c::cs)).cps.extract 0 (0+1)=#[c] from by
  apply Lk.mp;rw[Array.toList_extract,fT];simp]
 rw[IA,Ko,HK]
 constructor
 ·intro h
  simpa using h
 ·intro h;rw[h]
theorem tT{cs:List Nat}(h:∀c∈cs,48<=c/\c<=57):fR (dH cs) gW=true:=by
 unfold fR;rw[fT,Hv];exact λc a=>Ao (h c a)
theorem rk(cs:List Nat):ff (dH (45::cs))=dH cs:=by
 unfold ff;rw[uv,Hl (GF rfl),StrLaws.sliceText_from (i:=1) ⟨by decide,by rw[fT,GN];omega⟩,fT];show dH (cs.take _)=dH cs;rw[HC];rw[GN];omega
theorem lU{c:Nat}{cs:List Nat}(h:c≠45):ff (dH (c::cs))=dH (c::cs):=by
 unfold ff;rw[uv,GZ h]
 rfl
theorem F7{m:Nat}(h:m≠0)(d:m<10^60):∃c cs,(Nat.toDigits 10 m).map Char.toNat=c::cs/\c≠48:=by
 obtain⟨_,a,b⟩:=nW 59 m d
 cases e:Nat.toDigits 10 m with
 |nil=>exact absurd e a
 |cons x r=>
  refine⟨x.toNat,r.map Char.toNat,R,λz=>b h ?_⟩;rw[e,Kh];congr 1;apply Char.ext;apply UInt32.toNat_inj.mp;exact z
theorem gH{n:Int}(h:n.natAbs<10^60):dm (bX n)/\dm (ff (bX n))/\gM (bX n)=true/\PySem.intText? (bX n)=some n/\(bX n).length<=61:=by
 by_cases z:n=0
 ·subst z;have j:bX 0=dH [48]:=kf (rl 0);have p:dm (dH [48]):=nO (by decide) (by decide);have d:∀c∈[48],48<=c/\c<=57:=by decide
  refine⟨by rw[j];exact p,by rw[j,lU (by decide)];exact p,?_,?_,by rw[j,iA];decide⟩
  ·unfold gM;rw[j,lU (by decide),tT d,iA];decide
  ·exact num_reads (n:=0) (by decide) (by decide)
 ·obtain⟨m,u⟩:∃m,m=n.natAbs:=⟨_,rfl⟩
  have w:m≠0:=by omega
  rw[<-u] at h;obtain⟨r,A,_⟩:=nW 59 m h;obtain⟨c,a,f,t⟩:=F7 w h;have e:∀x∈c::a,48<=x/\x<=57:=λx g=>uN (m:=m) (by rw[f];exact g);have v:(c::a).length<=60:=by
   rw[<-f,Gz];exact r
  have l:c≠45:=by
   have:=e c GM;omega
  have o:digitsVal (c::a)=m:=by
   rw[<-f];exact val_back m
  have k:dm (dH (c::a)):=nO (λx g=>by have:=e x g;omega) (by omega);have i:(decide (1<=(dH (c::a)).length/\(dH (c::a)).length<=60)&&fR (dH (c::a)) gW)=true/\decide ((dH (c::a)).cps.toList.head?=some 48)=false:=by
   refine⟨?_,?_⟩
   ·rw[tT e,iA,LJ];exact GF ⟨by rw[GN];omega,v⟩
   ·rw[fT,Kh];exact GZ λz=>t (by injection z)
  rcases Int.lt_or_le n 0 with s|s
  ·have b:bX n=dH (45::c::a):=by
    apply kf;rw[show n = -(((m-1)+1:Nat):Int) by omega,vE,show m-1+1=m by omega,f]
   have y:dm (dH (45::c::a)):=nO (λx g=>by
    rcases GI.mp g with q|q
    ·omega
    ·have:=e x q;omega) (by rw[GN];omega)
   refine⟨by rw[b];exact y,by rw[b,rk];exact k,?_,?_,by rw[b,iA,GN];omega⟩
   ·unfold gM;rw[b,rk,i.1,i.2];simp
   ·rw[b,intText_neg (fT _) e (by simp) (by rw[iA,GN];omega),o];congr 1;omega
  ·have b:bX n=dH (c::a):=by
    apply kf;rw[show n=((m:Nat):Int) by omega,rl,f]
   refine⟨by rw[b];exact k,by rw[b,lU l];exact k,?_,?_,by rw[b,iA];omega⟩
   ·unfold gM;rw[b,lU l,i.1,i.2];simp
   ·rw[b,intText_digits (x:=dH (c::a)) (by rw[fT];exact e) (by rw[fT];simp) (by rw[iA];omega),fT,o];congr 1;omega
theorem w1(x:V):([x]:List V).length<=sizeLine:=by
 rw[HF];show 1<=_;decide
theorem w2(x y:V):([x,y]:List V).length<=sizeLine:=by
 rw[HF];show 2<=_;decide
theorem kC{z:Str}(h:dm z):PyData.strOk z=true:=by
 unfold PyData.strOk;rw[Jx];intro c a;have:=Jx.mp h.1 c a;have:=GJ this;exact GF (by omega)
theorem jF(xs:List V)(k:Nat):dS xs (some (k:Int)) none=xs.drop k:=by
 unfold dS;rw[HT.sIx_nat];show(xs.drop (min k xs.length)).take (xs.length-min k xs.length)=_;rw[HC (by rw[Hd];omega)];by_cases z:k<=xs.length
 ·rw[Jr z]
 ·rw[JN (by omega),Jt (GW _),Jt (by omega)]
theorem EM(ks:List Nat):cq ks=(ks.map λk:Nat=>(k:Int)).map V.int:=by
 unfold cq;rw[HN]
 rfl
theorem DV{lo hi m:Nat}(h:cU lo hi m=(["must"]:List Str)):lo=m/\hi=m:=by
 unfold cU at h
 split at h
 ·assumption
 split at h
 ·exact absurd h (by decide)
 split at h
 ·exact absurd h (by decide)
 ·cases h
theorem Do{lo hi m:Nat}(d:cU lo hi m≠(["must"]:List Str)):(cU lo hi m=(["may"]:List Str)/\lo=0/\hi=m)\/(cU lo hi m≠(["may"]:List Str)/\((cU lo hi m=(["one"]:List Str)/\lo=1/\hi=1)\/(cU lo hi m≠(["one"]:List Str)/\cU lo hi m=(["from",bX lo, "to",bX hi]:List Str)))):=by
 unfold cU at d |-;by_cases a:lo=m/\hi=m
 ·rw[Hl a] at d;exact absurd rfl d
 rw[GY a];by_cases b:lo=0/\hi=m
 ·rw[Hl b];exact .inl ⟨R,b⟩
 rw[GY b];by_cases c:lo=1/\hi=1
 ·rw[Hl c];exact .inr ⟨by decide,.inl ⟨R,c⟩⟩
 rw[GY c];exact .inr ⟨(by intro z;cases z),.inr ⟨(by intro z;cases z),R⟩⟩
theorem iz{n:Nat}(h:n<=1000):((n:Int)).natAbs<10^60:=HJ (show((n:Int)).natAbs<=1000 by omega) (by decide)
theorem wu{a:Type}{l:List a}{n:Nat}(h:l≠[])(e:n=l.length):decide (V.int (n:Int)=V.int 0)=false:=by
 refine GZ λz=>?_;injection z with z;have:l.length≠0:=λy=>h (Jp.mp y);omega
theorem E9{ks ns:List Str}(h1:ks.Nodup)(a:ns.Nodup)(h:∀k,k∈ks↔k∈ns):ks.length=ns.length:=((J0 h1 a).mpr h).length_eq
end Ow
namespace L2
open PySem
theorem fK{X:Cx}{K:PySem.W.Frag}(a:X.K=K:=by rfl):ko X "str.join" (oE K):=a▸yD
end L2
namespace Ow
open PySem L2 Wd
theorem fI{ns:List Str}{k:Nat}(h:k<ns.length):(bF ns)[k]?=some (.str (bK ns k)):=by
 unfold bF bK;rw[GQ,GG h,He,GG h]
 rfl
theorem gD{b:Nat}:∀{ws:List Str},(∀z∈ws,z.length<=b)->(ws.map (·.length)).sum<=ws.length*b
 |[],_=>by simp
 |w::ws,h=>by
  have c:=h w GM;have d:=gD (ws:=ws) λz a=>h z (GP _ a);rw[HD,List.sum_cons,GN,Nat.succ_mul];omega
theorem ie{ns:List Str}{b:Nat}(h:∀z∈ns,z.length<=b)(k:Nat):(bK ns k).length<=b:=by
 unfold bK;rw[He]
 cases e:ns[k]? with
 |none=>exact Iv _
 |some z=>exact h z (GO e)
def cy(ns:List Str):Tie->List Str
 |.needs a b=>[bK ns a, "needs",bK ns b]
 |.bans a b=>[bK ns a, "bans",bK ns b]
 |.most top ps=>(["most",bX top, "of"]:List Str)++ps.flatMap λp=>[bX p.2,bK ns p.1]
 |.bough _ _ _ _=>[]
def iO:Tie->Bool
 |.bough _ _ _ _=>false
 |_=>true
def Tie.Small(m:Nat):Tie->Prop
 |.needs a b=>a<m/\b<m
 |.bans a b=>a<m/\b<m
 |.most top ps=>top.natAbs<10^60/\ps.length<=9/\∀p∈ps,p.1<m/\p.2.natAbs<10^60
 |.bough _ _ _ _=>True
def zW:Sp:=λc H Q _=>∃(l:Addr)(b:List Str)(v:V)(t:Tie),c=[.ref l,v]/\H l=some (.lst (bF b))/\Dn H t.toD v/\iO t=true/\Tie.Small b.length t/\∀(p:Addr)(a:Hp),Same H a->H p=none->a p=some (.lst (bF (cy b t)))->Q (.ref p) a
theorem og{n:Int}(h:n.natAbs<10^60):n.natAbs.log2<1920:=by
 rcases K8 n.natAbs with z|z
 ·rw[z];decide
 ·refine(Nat.log2_lt (by omega)).mpr (Nat.lt_trans h ?_);exact Hj (by decide +kernel:10^60<2^200) (J1 (by decide) (by decide))
theorem uS{a:Type}{f g:a->Str}{n:Nat}:∀(l:List a),l.length<=n->(l.flatMap λp=>[f p,g p]).length<=2*n
 |l,h=>by
  have e:(l.flatMap λp=>[f p,g p]).length=2*l.length:=by
   clear h
   induction l with
   |nil=>rfl
   |cons x r ih=>
    rw[IW,GC,ih];simp only[GN,Ly];omega
  omega
theorem ed(a b:List Str):bF (a++b)=bF a++bF b:=GX ..
def cE(ns:List Str)(u lo hi:Nat)(ks:List Nat):List Str:=bK ns u::(cU lo hi ks.length++ks.map (bK ns))
def vo:Sp:=λf H Q _=>∃(l e:Addr)(b:List Str)(u lo d:Nat)(a:List Nat),f=[.ref l,.ref e]/\H l=some (.lst (bF b))/\H e=some (.lst (bF (cE b u lo d a)))/\Names b/\u<b.length/\lo<=1000/\d<=1000/\a≠[]/\a.Pairwise (·<·)/\(∀k∈a,k<b.length) /\
 ∀(v:V)(c:Hp),Same H c->Dn c (Tie.bough u lo d a).toD v->Q v c
theorem u8(lo hi m:Nat):(∃w,cU lo hi m=[w]/\w ≠ "from")\/cU lo hi m=(["from",bX lo, "to",bX hi]:List Str):=by
 unfold cU
 split
 ·exact .inl ⟨_,R,by decide⟩
 split
 ·exact .inl ⟨_,R,by decide⟩
 split
 ·exact .inl ⟨_,R,by decide⟩
 exact .inr rfl
theorem zn{c:Bool}{A:V->Prop}{x y z:V}(h:(if c=true then x else y)=z)(k:A z):if c=true then A x else A y:=by
 cases c with
 |false=>
  rw[GY (by simp)] at h |-;rw[h];exact k
 |true=>
  rw[Hl rfl] at h |-;rw[h];exact k
theorem nA(lo hi m:Nat):∃a b,cU lo hi m=a::b/\((a = "from" /\ b.length=3)\/(a ≠ "from" /\ b.length=0)):=by
 rcases u8 lo hi m with⟨c,e,n⟩|e
 ·exact⟨c,[],e,.inr ⟨n,R⟩⟩
 ·exact⟨_,_,e,.inl ⟨R,R⟩⟩
def LinesAt(H:Hp)(c:Addr)(d:List (List Str)):Prop:=∃b:List V,H c=some (.lst b)/\b.length=d.length/\∀(j:Nat) ws,d[j]?=some ws->∃a,b[j]?=some (.ref a)/\a≠c/\H a=some (.lst (bF ws))
theorem LinesAt.same{H b:Hp}{c:Addr}{d:List (List Str)}(s:Same H b)(h:LinesAt H c d):LinesAt b c d:=by
 obtain⟨r,f,g,i⟩:=h;exact⟨r,s _ _ f,g,λj k e=>(i j k e).imp λa ⟨x,y,z⟩=>⟨x,y,s _ _ z⟩⟩
theorem LinesAt.snoc{H:Hp}{d a:Addr}{f:List (List Str)}{c:List V}{ws:List Str}(h:LinesAt H d f)(p:H d=some (.lst c))(n:H a=some (.lst (bF ws)))(k:a≠d):LinesAt (upd H d (.lst (c++[.ref a]))) d (f++[ws]):=by
 obtain⟨r,g,i,m⟩:=h;rw[p] at g
 cases g
 refine⟨_,bI,by rw[GC,GC,i];rfl,λj w e=>?_⟩;by_cases o:j<f.length
 ·rw[HX o] at e;obtain⟨b,x,y,z⟩:=m j w e;exact⟨b,by rw[HX (by omega)];exact x,y,by rw[bR y];exact z⟩
 ·have l:j=f.length:=by
   rcases KY j (f.length+1) with q|q
   ·omega
   ·rw[Ja (by rw[GC];exact q)] at e
    cases e
  subst l;rw[HP (GW _),KZ] at e
  cases e
  refine⟨a,?_,k,by rw[bR k];exact n⟩;rw[<-i,HP (GW _),KZ]
  rfl
def dF(ns:List Str)(L:List Bg):List (List Str):=((["ware"]:List Str)++ns)::L.map λb=>cE ns b.u b.lo.toNat b.hi.toNat b.ks
def bU(ns:List Str)(L:List Bg)(C:List Tie):List (List Str):=dF ns L++C.map (cy ns)
def fV(ns:List Str)(L:List Bg)(C:List Tie):Str:=Str.join "\n" ((bU ns L C).map (Str.join " "))
def yp:Sp:=λf H Q _=>∃(l d tb e:Addr)(a:List Str)(L:List Bg)(C:List Tie),f=[.ref l,.ref d]/\H l=some (.lst (bF a))/\WoodP H d tb e a.length L C/\(∀b∈L,b.hi<=1000)/\(∀z∈a,z.length<=8)/\(∀t∈C,Tie.Small a.length t)/\∀c,Same H c->Q (.str (fV a L C)) c
def k8(ws:List Str):Prop:=ws.length<=30/\∀z∈ws,z.length<=61
theorem nB{ws:List Str}(h:k8 ws):(ws.map (·.length)).sum+ws.length*((" " : Str)).length<=1000000/\(Str.join " " ws).length<=2000:=by
 have c:=gD h.2;have a:=h.1;have d:ws.length*61<=30*61:=Nat.mul_le_mul_right _ a;have e:((" " : Str)).length=1:=rfl;have b:=Ic (" " : Str) ws;rw[e] at b |-;omega
theorem uA{ns:List Str}(c:ns.length<=9)(b:∀z∈ns,z.length<=8):k8 ((["ware"]:List Str)++ns):=by
 refine⟨by rw[GC];show 1+_<=30;omega,λz a=>?_⟩;rcases GL.mp a with y|y
 ·rw[GE.mp y];decide
 ·have:=b z y;omega
theorem me{n:Nat}(h:n<=1000):(bX (n:Int)).length<=61:=(gH (iz h)).2.2.2.2
theorem t8{lo hi m:Nat}(c:lo<=1000)(d:hi<=1000):(cU lo hi m).length<=4/\∀z∈cU lo hi m,z.length<=61:=by
 unfold cU
 split
 ·exact⟨by decide,λz a=>by rw[GE.mp a];decide⟩
 split
 ·exact⟨by decide,λz a=>by rw[GE.mp a];decide⟩
 split
 ·exact⟨by decide,λz a=>by rw[GE.mp a];decide⟩
 refine⟨by show 4<=4;decide,λx b=>?_⟩;simp only[GI,Hs,Iw] at b;rcases b with rfl|rfl|rfl|rfl
 ·decide
 ·exact me c
 ·decide
 ·exact me d
theorem tY{ns:List Str}{u lo hi:Nat}{ks:List Nat}(a:∀z∈ns,z.length<=8)(d:lo<=1000)(e:hi<=1000)(g:ks.length<=9):k8 (cE ns u lo hi ks):=by
 obtain⟨f,b⟩:=t8 (m:=ks.length) d e;refine⟨?_,λz c=>?_⟩
 ·unfold cE;rw[GN,GC,Gz];omega
 ·rcases GI.mp c with y|y
  ·rw[y];exact Hm (ie a u) (by decide)
  rcases GL.mp y with y|y
  ·exact b z y
  ·obtain⟨k,_,rfl⟩:=Hc.mp y;exact Hm (ie a k) (by decide)
theorem qJ{ns:List Str}{m:Nat}{t:Tie}(q:∀z∈ns,z.length<=8)(h:Tie.Small m t):k8 (cy ns t):=by
 have d:∀k,(bK ns k).length<=61:=λk=>Hm (ie q k) (by decide)
 cases t with
 |bough u lo hi ks=>exact⟨Iv _,λz l=>by cases l⟩
 |needs a b=>
  refine⟨by show 3<=30;decide,λx c=>?_⟩;simp only[cy,GI,Hs,Iw] at c;rcases c with rfl|rfl|rfl
  ·exact d a
  ·decide
  ·exact d b
 |bans a b=>
  refine⟨by show 3<=30;decide,λx c=>?_⟩;simp only[cy,GI,Hs,Iw] at c;rcases c with rfl|rfl|rfl
  ·exact d a
  ·decide
  ·exact d b
 |most top ps=>
  obtain⟨i,o,e⟩:=h;have r:=uS (f:=λp:Nat×Int=>bX p.2) (g:=λp=>bK ns p.1) (n:=9) ps o;refine⟨by show((["most",bX top, "of"]:List Str)++_).length<=30;rw[GC];show 3+_<=30;omega,λx c=>?_⟩;rcases GL.mp c with y|y
  ·simp only[GI,Hs,Iw] at y;rcases y with rfl|rfl|rfl
   ·decide
   ·exact(gH i).2.2.2.2
   ·decide
  ·obtain⟨p,j,y⟩:=J3.mp y;simp only[GI,Hs,Iw] at y;rcases y with rfl|rfl
   ·exact(gH (e p j).2).2.2.2.2
   ·exact d p.1
theorem n6{H:Hp}:∀{l:List Nat} {xs:List V},DnL H (l.map λk:Nat=>PyData.int (k:Int)) xs->xs=cq l
 |[],_,q=>q
 |k::l,_,⟨x,r,e,q,z⟩=>by
  rw[e,n6 z,show x=V.int (k:Int) from q]
  rfl
def xY(m:Nat):List Nat:=(Nat.toDigits 10 m).map Char.toNat
theorem Gq(n:Int):bX n=dH ((if n<0 then [45] else [])++xY n.natAbs):=by
 apply kf;by_cases h:n<0
 ·rw[Hl h];have e:n = -(((n.natAbs-1)+1:Nat):Int):=by omega
  have:=vE (n.natAbs-1);rw[<-e,show n.natAbs-1+1=n.natAbs by omega] at this;exact this
 ·rw[GY h];have e:n=((n.natAbs:Nat):Int):=by omega
  have:=rl n.natAbs;rw[<-e] at this;exact this
theorem vn{ns:List Str}(h:ns≠[]):("ware " : Str)++Str.join " " ns=Str.join " " ((["ware"]:List Str)++ns):=by
 cases ns with
 |nil=>exact absurd rfl h
 |cons x r=>
  show _=("ware" : Str)++(" " : Str)++Str.join " " (x::r);rw[show(("ware" : Str)++(" " : Str))=("ware " : Str) from by decide +kernel]
end Ow
namespace L2
open PySem PySem.Spec PyProof.Rows
section
variable{prog:Program}{w:World}{A:Around}{E:Value -> Shared -> Prop}{s:Shared}
def gp(h:Heap)(z TI TO:Addr)(f0:Value)(a:Bool):Prop:=h.get? z=some { cls:=.type "zip",dict:=none,data:=.fields #[f0,.bool a,.bool false,.ref TI,.ref TO],slots:=#[] }
def jR(f0:Value):Prop:=f0=.none\/∃c:Nat,f0=rawInt c
theorem uL{z TI TO:Addr}{f0:Value}{e:Bool}{Q:Bool->Shared->Prop}(i:jR f0)(hz:gp s.heap z TI TO f0 e)
  (q:∀b f h',gp h' z TI TO f0 f->Heap.SameBut z s.heap h'->Q b { s with heap:=h' }):wpAny (model prog w) A (Builtin.SmallTypes.ownedTupleIsFree (.ref z)) Q E s:=by
 obtain⟨a,g,d,m,os⟩:=s;have same:Heap.SameBut z a a:=⟨R,λ_ _=>rfl⟩
 unfold Builtin.SmallTypes.ownedTupleIsFree;rcases i with rfl|⟨c,rfl⟩
 ·refine GD (IJ hz rfl (x:=.none) rfl (GV ?_));exact q true e a hz same
 ·refine GD (IJ hz rfl (x:=rawInt (c:Nat)) rfl ?_);refine GD (EW ?_);rw[show((c:Nat):Int).toNat=c from Iu c]
  cases l:a.get? c with
  |none=>exact GV (q true e a hz same)
  |some oc=>
   show wpAny _ _ (if (some oc).isNone=true then _ else _) _ _ _;rw[GY (show ¬((some oc).isNone=true) from Hh)];refine GD (IJ hz rfl (x:=.bool e) rfl ?_)
   cases e with
   |true=>
    refine GD (GV (GV ?_));exact q false true a hz same
   |false=>
    refine GD (JD hz (by simp) λj h k=>GV ?_);exact q false true j h k
theorem CH{z TI TO m n O P:Addr}{k1 k2:Nat}{xs ys:Array Value}{x y a b f0:Value}{f1:Bool}{Q:Value->Shared->Prop}(D:ZipApart z TI TO m n O P)
  (hf:jR f0) (I:gp s.heap z TI TO f0 f1) (ni:IsPair s.heap TI (.ref m) (.ref n)) (t:IsPair s.heap TO a b)
  (h1:s.heap.IsListIter m O k1) (X:s.heap.IsListIter n P k2) (u:s.heap.IsList O xs) (B:s.heap.IsList P ys) (hx:xs[k1]?=some x) (hy:ys[k2]?=some y)
  (hQ:∀h' f0 f1 a b,jR f0->gp h' z TI TO f0 f1->IsPair h' TO a b->h'.IsListIter m O (k1+1)->h'.IsListIter n P (k2+1)->IsPair h' s.heap.objs.size x y->h'.objs.size=s.heap.objs.size+1 ->
   (∀c o,c≠z->c≠TO->c≠m->c≠n->s.heap.get? c=some o->h'.get? c=some o)->Q (.ref s.heap.objs.size) { s with heap:=h' }):
  wpAny (model prog w) A (Builtin.«zip.__next__» ⟨[.ref z],[]⟩) (λaB s'=>∃v,aB=.done (.ret v)/\Q v s') E s:=by
 show wpAny _ _ (field (.ref z) 2>>=_) _ _ _;refine GD (IJ I rfl (x:=.bool false) rfl ?_);show wpAny _ _ (field (.ref z) 3>>=_) _ _ _;refine GD (IJ I rfl (x:=.ref TI) rfl ?_);refine GD (JO ni rfl ?_);show wpAny _ _ (Builtin.SmallTypes.ownedTupleIsFree (.ref z)>>=_) _ _ _;refine GD (uL hf I λbo U W hz F=>?_);have aD:W.objs.size=s.heap.objs.size:=F.1
 replace t:IsPair W TO a b:=F.extBut _ _ D.TOz t
 replace h1:=h1.extBut F.extBut D.i1z
 replace X:=X.extBut F.extBut D.i2z
 replace u:=u.extBut F.extBut D.l1z
 replace B:=B.extBut F.extBut D.l2z
 cases bo with
 |true=>
  simp only[Ky];refine GD (Lw ?_);refine GD (IJ hz rfl (x:=.ref TO) rfl ?_);refine GD (JD hz (by simp) λk av r=>?_)
  replace av:gp k z TI TO .ellipsis U:=av
  replace r:Heap.SameBut z W k:=r
  refine GD ?_;simp only[List.zipIdx_cons,List.zipIdx_nil,Kg,Ku];refine GD (GD (wpAny_onRaise ?_));show wpAny _ _ (Builtin.SmallTypes.nextOf (.ref m)>>=_) _ _ _;refine GD (JR (h1.extBut r.extBut D.i1z) (u.extBut r.extBut D.l1z) hx λg ax h=>GV ?_)
  replace h:Heap.SameBut m k g:=h
  have am:IsPair g TO a b:=h.extBut _ _ D.TOi1 (r.extBut _ _ D.TOz t);refine GD (JO am rfl ?_);refine GD (wpAny_updateSeq_pair am λl Y G=>?_)
  replace Y:IsPair l TO x b:=Y
  replace G:Heap.SameBut TO g l:=G
  refine GD (wpAny_letGo (GV ?_));refine GD (GD (wpAny_onRaise ?_));show wpAny _ _ (Builtin.SmallTypes.nextOf (.ref n)>>=_) _ _ _;refine GD (JR (((X.extBut r.extBut D.i2z).extBut h.extBut D.i12.symm).extBut G.extBut D.TOi2.symm)
   (((B.extBut r.extBut D.l2z).extBut h.extBut D.l2i1).extBut G.extBut D.l2TO) hy λf ay j=>GV ?_)
  replace j:Heap.SameBut n l f:=j
  have ao:IsPair f TO x b:=j.extBut _ _ D.TOi2 Y;refine GD (JO ao rfl ?_);refine GD (wpAny_updateSeq_pair ao λd S H=>?_)
  replace S:IsPair d TO x y:=S
  replace H:Heap.SameBut TO f d:=H
  refine GD (wpAny_letGo (GV (GV ?_)));refine GD (JO S rfl ?_);refine GD (wpAny_newTuple ?_);have C:d.objs.size=s.heap.objs.size:=by rw[H.1,j.1,G.1,h.1,r.1,aD]
  have aA:gp d z TI TO .ellipsis U:=H.extBut _ _ D.TOz.symm (j.extBut _ _ D.i2z.symm (G.extBut _ _ D.TOz.symm (h.extBut _ _ D.i1z.symm av)));have aG:∀c o,c≠z->c≠TO->c≠m->c≠n->s.heap.get? c=some o->d.get? c=some o:=λc o p J L M e=>
   H.extBut _ _ J (j.extBut _ _ M (G.extBut _ _ J (h.extBut _ _ L (r.extBut _ _ p (F.extBut _ _ p e)))))
  have aF:d.IsListIter m O (k1+1):=((ax.extBut G.extBut D.TOi1.symm).extBut j.extBut D.i12).extBut H.extBut D.TOi1.symm;have aI:d.IsListIter n P (k2+1):=ay.extBut H.extBut D.TOi2.symm;have aq:z<d.objs.size:=GS aA;show wpAny _ _ (Builtin.SmallTypes.ownedTupleHandOut (.ref z) (.ref d.objs.size)>>=_) _ _ _;refine GD ?_;unfold Builtin.SmallTypes.ownedTupleHandOut;have aH:gp (d.push { cls:=.type "tuple",data:=.seq #[x,y] }) z TI TO .ellipsis U:=GR _ aA;refine GD (JD aH (by simp) λN aw Z=>?_)
  replace aw:gp N z TI TO (rawInt d.objs.size) U:=aw
  refine JD aw (by simp) λi T az=>?_
  replace T:gp i z TI TO (rawInt d.objs.size) false:=T
  have q:∀c o,c≠z->d.get? c=some o->i.get? c=some o:=λc o p e=>az.extBut _ _ p (Z.extBut _ _ p (GR _ e));have aC:IsPair i d.objs.size x y:=az.extBut _ _ (Io aq) (Z.extBut _ _ (Io aq) (Hk _ rfl));have aE:i.objs.size=d.objs.size+1:=by rw[az.1,Z.1,Jo]
  rw[C] at T aC aE;refine GV ⟨_,R,?_⟩;show Q (.ref d.objs.size) _;rw[C];exact hQ i _ _ _ _ (.inr ⟨_,R⟩) T (q _ _ D.TOz S) (aF.at λo e=>q _ o D.i1z e) (aI.at λo e=>q _ o D.i2z e) aC aE λc o p J L M e=>q c o p (aG c o p J L M e)
 |false=>
  rw[GY Hh];refine GD ?_;rw[<-Array.forIn_toList];simp only[Kg,Ku];refine GD (GD (Jc ?_));show wpAny _ _ (Builtin.SmallTypes.nextOf (.ref m)>>=_) _ _ _;refine GD (JR h1 u hx λg ax h=>GV ?_)
  replace h:Heap.SameBut m W g:=h
  refine GV ?_;refine GD (GD (Jc ?_));show wpAny _ _ (Builtin.SmallTypes.nextOf (.ref n)>>=_) _ _ _;refine GD (JR (X.extBut h.extBut D.i12.symm) (B.extBut h.extBut D.l2i1) hy λf ay j=>GV ?_)
  replace j:Heap.SameBut n g f:=j
  refine GV (GV ?_);show wpAny _ _ (newTuple [x,y]>>=_) _ _ _;refine GD (wpAny_newTuple ?_);have C:f.objs.size=s.heap.objs.size:=by rw[j.1,h.1,aD]
  refine GV ⟨_,R,?_⟩;show Q (.ref f.objs.size) { s with heap:=f.push { cls:=.type "tuple",data:=.seq #[x,y] } };have hT:IsPair (f.push { cls:=.type "tuple",data:=.seq #[x,y] }) f.objs.size x y:=Hk _ rfl;have q:∀c o,f.get? c=some o->(f.push { cls:=.type "tuple",data:=.seq #[x,y] }).get? c=some o:=λc o e=>GR _ e;have z4:(f.push { cls:=.type "tuple",data:=.seq #[x,y] }).objs.size=f.objs.size+1:=Jo ..;rw[C] at hT z4 |-;refine hQ _ _ _ _ _ hf (q _ _ (j.extBut _ _ D.i2z.symm (h.extBut _ _ D.i1z.symm hz))) (q _ _ (j.extBut _ _ D.TOi2 (h.extBut _ _ D.TOi1 t))) ((ax.extBut j.extBut D.i12).at λo e=>q _ o e) (ay.at λo e=>q _ o e) hT z4 λc o p J L M e=>q c o (j.extBut _ _ M (h.extBut _ _ L (F.extBut _ _ p e)))
theorem Dg{z TI TO j y B T:Addr}{k1 k2:Nat}{xs ys:Array Value}{a b f0:Value}{O:Bool}{Q:Fin->Shared->Prop}(J:A.handled=none)(D:ZipApart z TI TO j y B T)
  (S:jR f0) (i:gp s.heap z TI TO f0 O) (u:IsPair s.heap TI (.ref j) (.ref y))
  (h1:s.heap.IsListIter j B k1) (f:s.heap.IsList B xs) (g:xs[k1]?=none)
  (I:∀h' e,(∀c o,c≠z->c≠TO->c≠j->c≠y->s.heap.get? c=some o->h'.get? c=some o)->(∃o,h'.get? e=some o/\o.cls=.type "StopIteration")->E (.ref e) { s with heap:=h' }):
  wpAny (model prog w) A (Builtin.«zip.__next__» ⟨[.ref z],[]⟩) Q E s:=by
 show wpAny _ _ (field (.ref z) 2>>=_) _ _ _;refine GD (IJ i rfl (x:=.bool false) rfl ?_);show wpAny _ _ (field (.ref z) 3>>=_) _ _ _;refine GD (IJ i rfl (x:=.ref TI) rfl ?_);refine GD (JO u rfl ?_);show wpAny _ _ (Builtin.SmallTypes.ownedTupleIsFree (.ref z)>>=_) _ _ _;refine GD (uL S i λN H P L n=>?_)
 replace h1:=h1.extBut n.extBut D.i1z
 replace f:=f.extBut n.extBut D.l1z
 cases N with
 |true=>
  simp only[Ky];refine GD (Lw ?_);refine GD (IJ L rfl (x:=.ref TO) rfl ?_);refine GD (JD L (by simp) λh q k=>?_)
  replace q:gp h z TI TO .ellipsis H:=q
  replace k:Heap.SameBut z P h:=k
  refine GD ?_;simp only[List.zipIdx_cons,List.zipIdx_nil,Kg,Ku];refine GD (GD (wpAny_onRaise ?_));show wpAny _ _ (Builtin.SmallTypes.nextOf (.ref j)>>=_) _ _ _;refine GD (wpAny_nextOf_list_end J (h1.extBut k.extBut D.i1z) (f.extBut k.extBut D.l1z) g λd e p v=>?_);obtain⟨U,r,G⟩:=v;have C:gp d z TI TO .ellipsis H:=p _ _ D.i1z.symm q;have M:e≠z:=λx=>by subst x;rw[C] at r;cases r;simp at G
  refine JD C (by simp) λm _ F=>I m e (λc o l _ t _ x=>F.extBut _ _ l (p _ _ t (k.extBut _ _ l (n.extBut _ _ l x)))) ⟨U,F.extBut _ _ M r,G⟩
 |false=>
  rw[GY Hh];refine GD ?_;rw[<-Array.forIn_toList];simp only[Kg,Ku];refine GD (GD (Jc ?_));show wpAny _ _ (Builtin.SmallTypes.nextOf (.ref j)>>=_) _ _ _;refine GD (wpAny_nextOf_list_end J h1 f g λd e p v=>?_);exact I d e (λc o l _ t _ x=>p _ _ t (n.extBut _ _ l x)) v
theorem Dq{z TI TO f g h i:Addr}{k1 k2:Nat}{xs ys:Array Value}{x y a b f0:Value}{d:Bool}{Q:Option Value->Shared->Prop}(D:ZipApart z TI TO f g h i)
  (I:jR f0) (e:gp s.heap z TI TO f0 d) (j:IsPair s.heap TI (.ref f) (.ref g)) (k:IsPair s.heap TO a b)
  (h1:s.heap.IsListIter f h k1) (G:s.heap.IsListIter g i k2) (l:s.heap.IsList h xs) (m:s.heap.IsList i ys) (J:xs[k1]?=some x) (L:ys[k2]?=some y)
  (H:∀h' f0 d a b,jR f0->gp h' z TI TO f0 d->IsPair h' TO a b->h'.IsListIter f h (k1+1)->h'.IsListIter g i (k2+1)->IsPair h' s.heap.objs.size x y->h'.objs.size=s.heap.objs.size+1 ->
   (∀c o,c≠z->c≠TO->c≠f->c≠g->s.heap.get? c=some o->h'.get? c=some o)->Q (some (.ref s.heap.objs.size)) { s with heap:=h' }):
  wpAny (model prog w) A (pyNext (.ref z)) Q E s:=by
 have n:s.TypeIs (.ref z) "zip" := ⟨_,e,R⟩
 unfold pyNext;exact GD (Lj (Jf (name:=Str.ofString "__next__") n KL
  (IT KL n F.entry_zip_next
   (CH D I e j k h1 G l m J L λh' f0 d a b p q r t u v B C=>GV (H h' f0 d a b p q r t u v B C)) (F.args_zip_next_1 _))))
theorem Cj{z TI TO g j k x:Addr}{k1:Nat}{xs:Array Value}{f0:Value}{m:Bool}{Q:Option Value->Shared->Prop}(t:A.handled=none)(D:ZipApart z TI TO g j k x)
  (r:jR f0) (f:gp s.heap z TI TO f0 m) (h:IsPair s.heap TI (.ref g) (.ref j))
  (h1:s.heap.IsListIter g k k1) (i:s.heap.IsList k xs) (d:xs[k1]?=none)
  (n:∀h',(∀c o,c≠z->c≠TO->c≠g->c≠j->s.heap.get? c=some o->h'.get? c=some o)->Q none { s with heap:=h' }):wpAny (model prog w) A (pyNext (.ref z)) Q E s:=by
 have l:s.TypeIs (.ref z) "zip" := ⟨_,f,R⟩
 unfold pyNext;refine GD (Lj (Jf (name:=Str.ofString "__next__") l KL
  (IT KL l F.entry_zip_next (Dg (ys:=#[]) (a:=.none) (b:=.none) (k2:=0) t D r f h h1 i d λh' e u q=>?_) (F.args_zip_next_1 _))))
 obtain⟨o,v,p⟩:=q;refine GD (Lv (T := "StopIteration") (b:=true) ⟨o,v,p⟩ isSubtype_stop ?_);exact GV (n _ u)
end
def lu(lo:Nat)(h:Heap)(xs ys a:Array Value)(i:Nat):Prop:=a.size=i/\∀j,j<i->a[j]?=some (.ref (lo+j))/\∃x y:Value,xs[j]?=some x/\ys[j]?=some y/\IsPair h (lo+j) x y
section
variable{prog:Program}{w:World}{A:Around}{s:Shared}{R:Result -> Shared -> Prop}
theorem FA{lo:Nat}{S z TI TO t u I J:Addr}{xs ys:Array Value}(hh:A.in1.handled=none)(ni:xs.size<=sizeLine)(aB:xs.size=ys.size)(D:ZipApart z TI TO t u I J)(lz:z<lo)(B:TO<lo)(C:t<lo)(E:u<lo)(lS:S<lo)(nS:S≠z/\S≠TI/\S≠TO/\S≠t/\S≠u/\S≠I/\S≠J)(res:Value):
  ∀(k i:Nat)(s:Shared)(f:Array Value)(c:Nat)(f0:Value)(Y:Bool)(a b:Value),xs.size-i=k->i<=xs.size->jR f0->gp s.heap z TI TO f0 Y->IsPair s.heap TI (.ref t) (.ref u)->IsPair s.heap TO a b->s.heap.IsListIter t I i->s.heap.IsListIter u J i->s.heap.IsList I xs->s.heap.IsList J ys ->
   s.heap.get? S=some { cls:=.type "list",dict:=none,data:=.seq f c,slots:=#[] }->s.heap.objs.size=lo+i->lu lo s.heap xs ys f i ->
   (∀h' g T,h'.get? S=some { cls:=.type "list",dict:=none,data:=.seq g T,slots:=#[] }->lu lo h' xs ys g xs.size->(∀b o,b≠S->b≠z->b≠TO->b≠t->b≠u->s.heap.get? b=some o->h'.get? b=some o)->R (.ok (.ret res)) { s with heap:=h' }) ->
   codeAny (model prog w) A (.builtin "list.extend.loop" ⟨[.ref S,.ref z,res],[]⟩) R s:=by
 obtain⟨nz,ay,P,n1,n2,au,aA⟩:=nS;have m:∀j {c:Nat},c<lo->lo+j≠c:=λj c h=>Io (Hj h (JM _ _));intro k
 induction k with
 |zero=>
  intro i s f c f0 Y a b hk hi hf hz H aq Z h2 G Q hS r d q;obtain rfl:i=xs.size:=by omega
  refine Jl F.entry_extend_loop ?_;rw[Je J7 _];show wpAny _ A.in1 (pyNext (.ref z)>>=_) _ _ s;refine GD (Cj hh D hf hz H Z G (Jg (GW _)) λh' p=>GV ?_);refine q h' f c (p S _ nz P n1 n2 hS) ⟨d.1,λj hj=>?_⟩ λb o _ L M N O v=>p b o L M N O v;obtain⟨e,x,y,U,W,X⟩:=d.2 j hj;exact⟨e,x,y,U,W,p _ _ (m j lz) (m j B) (m j C) (m j E) X⟩
 |succ k ih=>
  intro i s f c f0 Y a b hk hi hf hz H aq Z h2 G Q hS r d q;have ao:i<xs.size:=by omega
  have ak:i<ys.size:=by omega
  have hx:xs[i]?=some xs[i]:=Ig ao;have hy:ys[i]?=some ys[i]:=Ig ak;refine Jl F.entry_extend_loop ?_;rw[Je J7 _];show wpAny _ A.in1 (pyNext (.ref z)>>=_) _ _ s;refine GD (Dq D hf hz H aq Z h2 G Q hx hy λh' g0 g1 a' b' aw aD ah az ax hT av p=>?_);have ar:=p S _ nz P n1 n2 hS;show wpAny _ A.in1 (updateSeq S (·.push (.ref s.heap.objs.size))>>=_) _ _ _;refine GD ?_;have l:∀b o,b≠S->h'.get? b=some o->(h'.update S (Obj.mapSeq (·.push (.ref s.heap.objs.size)))).get? b=some o:=λb o n v=>(IS _ _ (Ij n)).trans v;refine KO ar rfl (GV ⟨KF J7 _,ih (i+1) _ (f.push (.ref s.heap.objs.size)) _ g0 g1 a' b' (by omega) ao aw (l _ _ (Ij nz) aD) (l _ _ (Ij ay) (p _ _ D.TIz D.TITO D.TIi1 D.TIi2 H)) (l _ _ (Ij P) ah) (az.at λo e=>l _ o (Ij n1) e) (ax.at λo e=>l _ o (Ij n2) e) (G.at λo e=>l _ o (Ij au) (p _ o D.l1z D.l1TO D.l1i1 D.l1i2 e)) (Q.at λo e=>l _ o (Ij aA) (p _ o D.l2z D.l2TO D.l2i1 D.l2i2 e)) (Ik _ ar rfl) (by show(h'.update S _).objs.size=_;rw[(Iy ..).1,av,r];omega) ?_ λaC g T am ai k'=>?_⟩) (by rw[d.1];omega) (by show(f.push _).size<=sizeLine+1;rw[Array.size_push,d.1];omega)
  ·refine⟨by rw[Array.size_push,d.1],λj hj=>?_⟩;by_cases zj:j<i
   ·obtain⟨e,x,y,U,W,X⟩:=d.2 j zj;refine⟨?_,x,y,U,W,l _ _ (m j lS) (p _ _ (m j lz) (m j B) (m j C) (m j E) X)⟩;rw[Array.getElem?_push_lt (by rw[d.1];exact zj)];rw[Ig (by rw[d.1];exact zj)] at e;exact e
   ·obtain rfl:j=i:=by omega
    refine⟨?_,xs[j],ys[j],hx,hy,l _ _ (m j lS) (by rw[<-r];exact hT)⟩;rw[<-r,<-d.1,Array.getElem?_push_size]
  ·exact q aC g T am ai λb o m0 L M N O v=>k' b o m0 L M N O (l b o m0 (p b o L M N O v))
theorem EC:typeLookup (.type "zip") "__len__" = pure none:=by rw[KN,JW];kernel_rfl
theorem DX:typeLookup (.type "zip") "__length_hint__" = pure none:=by rw[KN,JW];kernel_rfl
end
section
variable{prog:Program}{w:World}{A:Around}{E:Value -> Shared -> Prop}{s:Shared}
theorem C3{Q:List Value->Shared->Prop}{z TI TO m n p r:Addr}{xs ys:Array Value}{a b:Value}(X:A.in1.handled=none)(t:xs.size<=sizeLine)(k:xs.size=ys.size)(D:ZipApart z TI TO m n p r)
  (hz:IsZip s.heap z TI TO .none) (f:IsPair s.heap TI (.ref m) (.ref n)) (g:IsPair s.heap TO a b) (h1:s.heap.IsListIter m p 0) (J:s.heap.IsListIter n r 0) (h:s.heap.IsList p xs) (i:s.heap.IsList r ys)
  (q:∀h' d,s.heap.objs.size<h'.objs.size->lu (s.heap.objs.size+1) h' xs ys d xs.size->(∀b o,b≠z->b≠TO->b≠m->b≠n->s.heap.get? b=some o->h'.get? b=some o)->Q d.toList { s with heap:=h' }):
  wpAny (model prog w) A (collect (.ref z)) Q E s:=by
 have u:z<s.heap.objs.size:=GS hz;have S:TI<s.heap.objs.size:=GS f;have B:TO<s.heap.objs.size:=GS g;have G:m<s.heap.objs.size:=by obtain⟨o,e,_⟩:=h1;exact GS e
 have I:n<s.heap.objs.size:=by obtain⟨o,e,_⟩:=J;exact GS e
 have N:p<s.heap.objs.size:=by obtain⟨o,e,_⟩:=h;exact GS e
 have M:r<s.heap.objs.size:=by obtain⟨o,e,_⟩:=i;exact GS e
 unfold collect;refine GD (wpAny_runValue (Jl F.entry_proto_collect ?_));rw[Je F.plain_proto_collect _];show wpAny _ A.in1 (newList []>>=λl=>again (.builtin "list.__iadd__" ⟨[l,.ref z],[]⟩)) _ _ s;refine GD (IY ?_);refine GV ⟨KF F.plain_list_iadd _,Jl F.entry_list_iadd ?_⟩;rw[Je F.plain_list_iadd _];have y:(s.heap.push { cls:=.type "list",data:=.seq ([]:List Value).toArray }).get? s.heap.objs.size=some { cls:=.type "list",data:=.seq ([]:List Value).toArray }:=Hk _ rfl;have x:Shared.TypeIs ({ s with heap:=s.heap.push { cls:=.type "list",data:=.seq ([]:List Value).toArray } }:Shared) (.ref z) "zip" := ⟨_,GR _ hz,R⟩
 show wpAny _ A.in1 (Builtin.List.listExtendWith (.ref s.heap.objs.size) (.ref z) (.ref s.heap.objs.size)) _ _ _;unfold Builtin.List.listExtendWith;refine GD (wpAny_typeOf x ?_);have T:Builtin.List.listSameRef (.ref s.heap.objs.size) (.ref z)=false:=by simp[Builtin.List.listSameRef,Io u]
 have U:(Value.type "zip" == Value.type "list")=false:=by decide
 have W:(Value.type "zip" == Value.type "tuple")=false:=by decide
 simp only[T,U,W,Bool.or_false,K0,LI];refine GD (wpAny_pyIter_zip (TI:=TI) (TO:=TO) (f0:=.none) (GR _ hz) ?_);refine GD (Jc ?_);unfold Builtin.List.listLengthHint;refine GD (wpAny_specialOf x EC ?_);show wpAny _ A.in1 (specialOf (Value.ref z) (Str.ofString "__length_hint__")>>=_) _ _ _;refine GD (wpAny_specialOf x DX (GV ?_));show wpAny _ A.in1 (rule "list.extend.makes-room" >>= λ_=>Builtin.List.listTouch (.ref s.heap.objs.size)>>=λ_=>
  again (.builtin "list.extend.loop" ⟨[.ref s.heap.objs.size,.ref z,.ref s.heap.objs.size],[]⟩)) _ _ _
 refine GD (Lw (GD ?_));show wpAny _ A.in1 (updateSeq s.heap.objs.size (·.push .none)>>=λ_=>updateSeq s.heap.objs.size (·.pop)) _ _ _;refine GD (KO y rfl ?_);have C:=Ik (Obj.mapSeq (·.push Value.none)) y rfl;refine KO C rfl ?_;have P:=Ik (Obj.mapSeq (·.pop)) C rfl;have c:∀b o,s.heap.get? b=some o ->
   (((s.heap.push { cls:=.type "list",data:=.seq ([]:List Value).toArray }).update s.heap.objs.size (Obj.mapSeq (·.push Value.none))).update s.heap.objs.size (Obj.mapSeq (·.pop))).get? b=some o:=
  λb o e=>(IS _ _ (Io (GS e))).trans ((IS _ _ (Io (GS e))).trans (GR _ e))
 have O:(((s.heap.push { cls:=.type "list",data:=.seq ([]:List Value).toArray }).update s.heap.objs.size (Obj.mapSeq (·.push Value.none))).update s.heap.objs.size (Obj.mapSeq (·.pop))).objs.size=s.heap.objs.size+1+0:=by
  rw[(Iy ..).1,(Iy ..).1,Jo]
 refine GV ⟨KF J7 _,FA (lo:=s.heap.objs.size+1) X t k D (IL u) (IL B) (IL G) (IL I) (KE _) ⟨Io u,Io S,Io B,Io G,Io I,Io N,Io M⟩ _ xs.size 0 _ _ _ .none false a b (by omega) (Iv _) (.inl rfl) (c _ _ hz) (c _ _ f) (c _ _ g) (h1.at λo e=>c _ o e) (J.at λo e=>c _ o e) (h.at λo e=>c _ o e) (i.at λo e=>c _ o e) P O ⟨R,λj Y=>absurd Y (LB _)⟩ λh' L c' H v Z=>?_⟩;show wpAny _ A (load s.heap.objs.size>>=_) _ _ _;refine GD (wpAny_load H ?_);exact GV (q h' L (GS H) v λb o m1 m2 m3 m4 e=>Z b o (Hq (GS e)) m1 m2 m3 m4 (c b o e))
theorem Co{z TI TO j k u x:Addr}{xs ys:Array Value}{a b:Value}(f:xs.size<=sizeLine)(i:xs.size=ys.size)(D:ZipApart z TI TO j k u x):
  Meets (Builtin.«tuple.__new__» ⟨[.type "tuple",.ref z],[]⟩)
   (λA R s=>A.handled=none/\IsZip s.heap z TI TO .none/\IsPair s.heap TI (.ref j) (.ref k)/\IsPair s.heap TO a b/\s.heap.IsListIter j u 0/\s.heap.IsListIter k x 0/\s.heap.IsList u xs/\s.heap.IsList x ys /\
    ∀h' c,s.heap.objs.size<h'.objs.size->lu (s.heap.objs.size+1) h' xs ys c xs.size->(∀b o,b≠z->b≠TO->b≠j->b≠k->s.heap.get? b=some o->h'.get? b=some o)->R (.ok (.ret (.ref h'.objs.size))) { s with heap:=h'.push { cls:=.type "tuple",data:=.seq c } }):=
 .of_wp λprog w A R s h=>by
  obtain⟨H,g,d,tk,os⟩:=s;obtain⟨F,hz,l,m,h1,B,q,r,h⟩:=h;have y:=sub_tuple_self;have p:=init_tuple_lookup;have G:=madeHere_tuple;have C:Shared.TypeIs ⟨H,g,d,tk,os⟩ (.ref z) "zip" := ⟨_,hz,rfl⟩
  have n:A.in1.in1.handled=none:=F
  wp_walk using AutoSeq1.wpAny_loadPart' hz,wpAny_typeOf C,C3 (A:=A.in1) n f i D hz l m h1 B q r
  intro h' c t out I;have J:c.size<=sizeLine:=by rw[out.1];exact f
  show wpAny _ _ (Builtin.Tuple.tupleExact c.toList.toArray>>=λv=>ret v) _ _ _;unfold Builtin.Tuple.tupleExact;refine GD (IY ?_ (by show c.toList.toArray.size<=sizeLine;simpa using J));refine GV ⟨_,rfl,?_⟩;have e:c.toList.toArray=c:=by simp
  rw[e];exact h h' c t out I
theorem Cy{Q:Value->Shared->Prop}{z TI TO e f l m:Addr}{xs ys:Array Value}{a b:Value}(r:A.in1.handled=none)(g:xs.size<=sizeLine)(d:xs.size=ys.size)(D:ZipApart z TI TO e f l m)
  (hz:IsZip s.heap z TI TO .none) (h:IsPair s.heap TI (.ref e) (.ref f)) (i:IsPair s.heap TO a b) (h1:s.heap.IsListIter e l 0) (p:s.heap.IsListIter f m 0) (j:s.heap.IsList l xs) (k:s.heap.IsList m ys)
  (q:∀h' c,s.heap.objs.size<h'.objs.size->lu (s.heap.objs.size+1) h' xs ys c xs.size->(∀b o,b≠z->b≠TO->b≠e->b≠f->s.heap.get? b=some o->h'.get? b=some o)->Q (.ref h'.objs.size) { s with heap:=h'.push { cls:=.type "tuple",data:=.seq c } }):
  wpAny (model prog w) A (call (.type "tuple") [.ref z]) Q E s:=
 callType_new F.called_tuple (by decide) (F.typeCall_tuple_1 _) (F.newCall_tuple_1 _) (λn=>F.args_object_init_2 n _) F.entry_tuple_new
  (Co g d D) ⟨r,hz,h,i,h1,p,j,k,λh' c t u v=>⟨⟨_,Hk _ rfl,R⟩,q h' c t u v⟩⟩
end
section
variable{X:Cx}{pins:List (Addr × Obj)}{σ:List (Option V)}{H:Hp}{s:Shared}
def rR(H:Hp)(xs ys a:List V):Prop:=a.length=xs.length/\∀(j:Nat)(x y:V),xs[j]?=some x->ys[j]?=some y->∃T:Addr,a[j]?=some (.ref T)/\H T=some (.tup [x,y])
def yW(K:PySem.W.Frag)(h:TA):TE:=λσ H Q=>h σ H λi b=>∃(e f:Addr)(c d:List V),i=[.ref e,.ref f]/\SqL K b e c/\SqL K b f d/\c.length=d.length/\∀(t:Addr)(g:List V)(a:Hp),Same b a->b t=none->a t=some (.tup g)->rR a c d g->Q (.ref t) a
def mx(H:Hp)(a lo c:Nat)(xs ys d:List V):Hp:=λb=>if b<a then H b else if b=c then some (.tup d) else if lo<=b/\b<lo+xs.length then some (.tup [xs.getD (b-lo) .non,ys.getD (b-lo) .non]) else none
theorem vL(lo:Nat):∀(L:List Value)(k:Nat),(∀j,j<L.length->L[j]?=some (Value.ref (lo+(k+j))))->Vals ((List.range' k L.length).map λj=>V.ref (lo+j)) L
 |[],_,_=>.nil
 |v::r,k,h=>by
  have a:=h 0 (by simp);injection a with a;rw[a,GN,Lo];refine .cons rfl (vL lo r (k+1) λj b=>?_);have:=h (j+1) (by rw[GN];omega);rw[List.getElem?_cons_succ] at this;rw[this,show k+(j+1)=k+1+j by omega]
theorem EE{K:PySem.W.Frag}{p Z aB d:Pos}{a b:Expr}{ta:TA}(hc:X.calm=true)(S:Gl X "tuple")(T:X.mg "tuple" = none)(hg:Gl X "zip")(hm:X.mg "zip" = none)(ha:PA X [a,b] ta)(hK:X.K=K:=by rfl)
  (hs:starEach [a,b] X.env=(false,eval a X.env)::starEach [b] X.env:=by rfl) (U:(backTo d (starEach [b] X.env)).any (·.1)=false:=by rfl) (C:starEach [.Call (.Name "zip" Z) [a,b] [] d] X.env=[(false,eval (.Call (.Name "zip" Z) [a,b] [] d) X.env)]:=by rfl):
  PE X (.Call (.Name "tuple" p) [.Call (.Name "zip" Z) [a,b] [] d] [] aB) (yW K ta):=by
 subst hK;intro pins s σ H Q I h;refine JC (jK I S T HM ?_ (by decide) (by decide));refine IM ?_ C rfl;rw[C];show wpAny _ _ (spliced ((false,eval _ X.env)::[])) _ _ s;refine Calls.spliced_cons (JC (jK I hg hm PyProof.Rows.boot_zip (IM (bZ (ha d pins s σ H _ I h) λus k ⟨vs,H1,I1,r1,q1⟩=>?_) hs U) (by decide) (by decide)));obtain⟨ca,cb,w,L,rfl,hx,hy,ay,q⟩:=q1
 cases r1 with
 |cons ra rb=>
 cases rb with
 |cons rb r0=>
 cases r0
 cases ra
 cases rb
 obtain⟨v,rx,px,fx⟩:=I1.list hx;obtain⟨iy,ry,py,_⟩:=I1.list hy;have la:ca<k.heap.objs.size:=by obtain⟨o,e,_⟩:=px.isList;exact GS e
 have lb:cb<k.heap.objs.size:=by obtain⟨o,e,_⟩:=py.isList;exact GS e
 have nx:=rx.length;have ny:=ry.length;refine call_zip_2 px.isList py.isList λg z1 t1 t2 k1 k2 gz Y=>Calls.spliced_nil ?_;have D:=Fd k.heap.objs.size ca cb la lb;refine Cy (xs:=v.toArray) (ys:=iy.toArray) (show X.A.in1.handled=none from I.ok.hd hc) (by rw[Hb];omega) (by rw[Hb,Hb];omega) D z1 t1 t2 k1 k2 (px.isList.at λo e=>Y _ o e) (py.isList.at λo e=>Y _ o e) λl t aw f E=>?_;have ar:k.heap.objs.size<g.objs.size:=by
  show _<(_:Nat);rw[gz];exact Nat.lt_add_of_pos_right (by decide)
 have ai:g.objs.size<l.objs.size:=aw;rw[Hb] at f;change lu (g.objs.size+1) l v.toArray iy.toArray t v.length at f;obtain⟨lo,aq⟩:∃lo:Nat,lo=g.objs.size+1:=⟨_,rfl⟩
 rw[<-aq] at f;have av:k.heap.objs.size<=lo:=by
  rw[aq];exact Ju (IL ar)
 have ao:k.heap.objs.size<=l.objs.size:=Ju (Nat.lt_trans ar ai);obtain⟨n,M⟩:∃n:List V,n=(List.range' 0 v.length).map λj=>V.ref (lo+j):=⟨_,rfl⟩
 have ag:t.toList.length=v.length:=by rw[HH];exact f.1
 have vz:Vals n t.toList:=by
  have:=vL lo t.toList 0 λj m=>by
   rw[JE,(f.2 j (by omega)).1,Nat.zero_add]
  rw[ag] at this;rw[M];exact this
 have aA:n.length=w.length:=by rw[M,Gz,IN];exact nx.symm
 have az:∀j,j<w.length->n[j]?=some (.ref (lo+j)):=λj m=>by
  rw[M,GQ,List.getElem?_range' (by omega)];simp
 have au:∀j,j<v.length->lo+j<l.objs.size:=λj m=>by
  obtain⟨_,x,y,_,_,e⟩:=f.2 j m;exact GS e
 obtain⟨r,F⟩:∃r,r=mx H1 k.heap.objs.size lo l.objs.size w L n:=⟨_,rfl⟩
 have aj:∀b,b<k.heap.objs.size->r b=H1 b:=λb P=>by
  rw[F];unfold mx;rw[Hl P]
 have HS:r l.objs.size=some (.tup n):=by
  rw[F];unfold mx;rw[GY (Lp ao),Hl rfl]
 have HT:∀j x y,w[j]?=some x->L[j]?=some y->r (lo+j)=some (.tup [x,y]):=λj x y B N=>by
  have m:=(GU.mp B).1;have:=au j (by omega);rw[F];unfold mx;rw[GY (Lp (Hm av (JM _ _))),GY (Hq this),Hl ⟨JM _ _,Nat.add_lt_add_left m _⟩,show lo+j-lo=j from Ks _ _,He,He,B,N]
  rfl
 have sl:(1000:Nat)<=sizeLine:=by decide
 have I2:Inv X pins σ r { k with heap:=l.push { cls:=.type "tuple",data:=.seq t },toks:=k.toks }:=by
  refine I1.many (λb u e=>GR _ (E b u ?_ ?_ ?_ ?_ (Y b u e))) aj λb o P e=>?_
  ·exact Hq (Hj (GS e) (JM _ _))
  ·exact Hq (Hj (GS e) (JM _ _))
  ·exact Hq (GS e)
  ·exact Hq (Hj (GS e) (JM _ _))
  ·by_cases O:b=l.objs.size
   ·rw[O,HS] at e;injection e with e;rw[<-e,O];exact⟨by omega,t.toList,vz,by rw[Array.toArray_toList];exact⟨_,Hk _ rfl,R,_,R⟩⟩
   ·have z:=e;rw[F] at z;unfold mx at z;rw[GY (Lp P),GY O] at z
    split at z
    ·rename_i c
     obtain⟨j,m⟩:∃j,b=lo+j:=⟨b-lo,by omega⟩
     have ak:j<w.length:=Nat.lt_of_add_lt_add_left (m▸c.2);have am:j<L.length:=by omega
     rw[m,HT j _ _ (GG ak) (GG am)] at e;injection e with e;rw[<-e,m];obtain⟨_,x,y,b1,b2,c1⟩:=f.2 j (by omega);rw[Im] at b1 b2;obtain⟨u,J,ru⟩:=rx.get (i:=j) (GG ak);obtain⟨u2,G,ax⟩:=ry.get (i:=j) (GG am);rw[b1] at J;rw[b2] at G;injection J with J;injection G with G;refine⟨by show 2<=sizeLine;omega,[x,y],.cons (by rw[J];exact ru) (.cons (by rw[G];exact ax) .nil),?_⟩;exact⟨_,GR _ c1,R,_,R⟩
    ·cases z
 refine⟨.ref l.objs.size,_,I2,R,q _ n _ (rM λb o e=>by rw[aj b (I1.hok.lt e)];exact e) (I1.hok.fresh ao) HS ⟨aA,λj x y B N=>?_⟩⟩;exact⟨_,az j (GU.mp B).1,HT j x y B N⟩
end
end L2
namespace Ow
open PySem L2 Wd
theorem mZ{a:Type}(x:a)(l:List a):cJ (x::l)=x::cJ (l.drop 1):=by
 cases l with
 |nil=>rfl
 |cons y r=>rfl
theorem ur{a b:Type}(f:a->b):∀l:List a,cJ (l.map f)=(cJ l).map f
 |[]=>rfl
 |[x]=>rfl
 |x::y::r=>by
  show f x::cJ (r.map f)=f x::(cJ r).map f;rw[ur f r]
theorem qc{a c:Type}(f g:a->c):∀l:List a,cJ (l.flatMap λp=>[f p,g p])=l.map f/\cJ ((l.flatMap λp=>[f p,g p]).drop 1)=l.map g
 |[]=>⟨rfl,rfl⟩
 |x::r=>by
  obtain⟨h1,b⟩:=qc f g r
  constructor
  ·show f x::cJ (r.flatMap λp=>[f p,g p])=f x::r.map f;rw[h1]
  ·show cJ (g x::r.flatMap λp=>[f p,g p])=g x::r.map g;rw[mZ,b]
theorem Gb(ns:List Str)(top:Int)(a:List (Nat×Int)):(bF (cy ns (.most top a))).length=3+2*a.length:=by
 unfold bF;rw[Gz];show((["most",bX top, "of"]:List Str)++a.flatMap λp=>[bX p.2,bK ns p.1]).length=_;rw[GC];have e:∀l:List (Nat×Int),(l.flatMap λp=>[bX p.2,bK ns p.1]).length=2*l.length:=by
  intro l
  induction l with
  |nil=>rfl
  |cons x r ih=>
   rw[IW,GC,ih,GN (as:=r)];show 2+_=_;omega
 rw[e]
 rfl
def Tie.Rise:Tie->Prop
 |.most _ ps=>ps≠[]/\(ps.map (·.1)).Pairwise (·<·)
 |_=>True
def xb:Sp:=λd H Q _=>∃(l c:Addr)(a:List Str)(t:Tie),d=[.ref l,.ref c]/\H l=some (.lst (bF a))/\H c=some (.lst (bF (cy a t)))/\Names a/\iO t=true/\Tie.Small a.length t/\Tie.Rise t /\
 ∀(v:V)(b:Hp),Same H b->Dn b t.toD v->Q v b
theorem wg{H:Hp}:∀{c:List (Nat×Int)} {a:List V},rR H (cq (c.map (·.1))) (c.map λp=>V.int p.2) a->DnL H (c.map pairD) a
 |[],a,h=>by
  have:=h.1;exact Jp.mp this
 |p::r,a,h=>by
  obtain⟨d,f⟩:=h;obtain⟨T,e,k⟩:=f 0 (.int (p.1:Nat)) (.int p.2) rfl rfl
  cases a with
  |nil=>cases e
  |cons z a=>
   injection e with e;refine⟨z,a,R,⟨T,_,e,k,_,_,R,R,_,_,R,R,R⟩,wg ⟨?_,λj x y l m=>?_⟩⟩
   ·rw[GN] at d;exact Nat.succ.inj d
   ·obtain⟨g,i,b⟩:=f (j+1) x y l m;exact⟨g,i,b⟩
end Ow
namespace Ow
open PySem L2 Wd PySem.Spec PyProof.Rows
def jp(c:Nat)(z:Str):Prop:=c∉z.cps.toList
theorem F8(x y:Str):Txt.split x y≠[]:=by
 unfold Txt.split
 split
 ·simp
 ·split
  ·simp
  ·intro z;obtain⟨p,r,e⟩:=StrLaws.partsFrom_ne x y.length 0 (Builtin.Str.occurrences x y 0 x.length (x.length+1));rw[StrLaws.partsBetween_eq,e] at z
   cases z
theorem wQ{c:Nat}:∀{a b x y:List Nat},c∉a->c∉b->a++c::x=b++c::y->a=b/\x=y
 |[],[],x,y,_,_,h=>⟨rfl,(Jn h).2⟩
 |[],b::bs,x,y,_,h2,h=>absurd (Jn h).1 λz=>h2 (z▸GM)
 |a::as,[],x,y,h1,_,h=>absurd (Jn h).1 λz=>h1 (z▸GM)
 |a::as,b::bs,x,y,h1,h2,h=>by
  obtain⟨d,e⟩:=Jn h;obtain⟨f,g⟩:=wQ (λz=>h1 (GP _ z)) (λz=>h2 (GP _ z)) e;exact⟨by rw[d,f],g⟩
theorem nU(c:Nat)(u v:Str)(r:List Str):(Str.join ⟨#[c]⟩ (u::v::r)).cps.toList=u.cps.toList++c::(Str.join ⟨#[c]⟩ (v::r)).cps.toList:=by
 show(u++(⟨#[c]⟩:Str)++Str.join ⟨#[c]⟩ (v::r)).cps.toList=_;rw[GB,GB,GH]
 rfl
theorem iB{u v:Str}(h:u.cps.toList=v.cps.toList):u=v:=by
 exact(kf h).trans (kf (z:=v) rfl).symm
theorem vO{c:Nat}:∀(a b:List Str),(∀z∈a,jp c z)->(∀z∈b,jp c z)->a≠[]->b≠[]->Str.join ⟨#[c]⟩ a=Str.join ⟨#[c]⟩ b->a=b
 |[],_,_,_,h,_,_=>absurd rfl h
 |_,[],_,_,_,h,_=>absurd rfl h
 |[u],[v],_,_,_,_,h=>ID (λz=>[z]) (show u=v from h)
 |[u],v::v2::r,h1,_,_,_,h=>by
  have e:=ID (λz:Str=>z.cps.toList) h;simp only[nU] at e;refine absurd ?_ (h1 u GM);show c∈u.cps.toList;rw[show u.cps.toList=_ from e];exact GL.mpr (.inr GM)
 |u::u2::r,[v],_,h2,_,_,h=>by
  have e:=ID (λz:Str=>z.cps.toList) h;simp only[nU] at e;refine absurd ?_ (h2 v GM);show c∈v.cps.toList;rw[show v.cps.toList=_ from e.symm];exact GL.mpr (.inr GM)
 |u::u2::r,v::v2::r',h1,h2,_,_,h=>by
  have e:=ID (λz:Str=>z.cps.toList) h;simp only[nU] at e;obtain⟨f,g⟩:=wQ (h1 u GM) (h2 v GM) e;rw[iB f,vO (u2::r) (v2::r') (λz d=>h1 z (GP _ d)) (λz d=>h2 z (GP _ d)) (by simp) (by simp) (iB g)]
theorem ku{c:Nat}{ws:List Str}(b:ws≠[])(a:∀z∈ws,jp c z):Txt.split (Str.join ⟨#[c]⟩ ws) ⟨#[c]⟩=ws:=vO _ _ (StrLaws.split_free _ c) a (F8 _ _) b (StrLaws.join_split _ _)
theorem qL{c e:Nat}(a:c≠e):∀{ws:List Str},(∀z∈ws,jp c z)->jp c (Str.join ⟨#[e]⟩ ws)
 |[],_=>by
  show c∉(Str.join ⟨#[e]⟩ []).cps.toList;simp[Str.join,Str.empty]
 |[u],h=>h u GM
 |u::v::r,h=>by
  show c∉(Str.join ⟨#[e]⟩ (u::v::r)).cps.toList;rw[nU];intro z;rcases GL.mp z with y|y
  ·exact h u GM y
  ·rcases GI.mp y with y|y
   ·exact a y
   ·exact qL a (ws:=v::r) (λz b=>h z (GP _ b)) y
theorem vA{z y:Str}{c:Nat}(h:fR z y=true)(n:jw c y=false):jp c z:=λm=>by
 have:=Hv.mp h c m;rw[n] at this
 cases this
def jO(z:Str):Prop:=jp 10 z/\jp 32 z
theorem qH{z:Str}(h:dA z=true):jO z:=by
 unfold dA at h;rw[Ha,Ha] at h;exact⟨vA h.2.1 (by decide +kernel),vA h.2.1 (by decide +kernel)⟩
theorem kH(n:Int):jO (bX n):=by
 have k:∀c∈(bX n).cps.toList,45<=c/\c≠32:=λc a=>by
  rw[Gq,fT] at a;rcases GL.mp a with z|z
  ·split at z
   ·rw[GE.mp z];decide
   ·cases z
  ·have:=uN z;omega
 exact⟨λz=>by have:=k 10 z;omega,λz=>by have:=k 32 z;omega⟩
theorem lX{ns:List Str}(N:Names ns)(k:Nat):jO (bK ns k):=by
 unfold bK;rw[He]
 cases e:ns[k]? with
 |none=>exact⟨(λz=>nomatch z),(λz=>nomatch z)⟩
 |some z=>exact qH (N.name z (GO e))
theorem iK{z:Str}(h:z∈(["ware", "must", "may", "one", "from", "to", "of", "most", "needs", "bans"]:List Str)):jO z:=by
 have k:∀z∈(["ware", "must", "may", "one", "from", "to", "of", "most", "needs", "bans"]:List Str),(z.cps.toList.all λc=>decide (c≠10)&&decide (c≠32))=true:=by decide +kernel
 have j:=Hv.mp (k z h);exact⟨λm=>by have:=j 10 m;simp at this,λm=>by have:=j 32 m;simp at this⟩
theorem C8(lo hi m:Nat):∀z∈cU lo hi m,jO z:=by
 intro z a;unfold cU at a
 split at a
 ·rw[GE.mp a];exact iK (by decide)
 split at a
 ·rw[GE.mp a];exact iK (by decide)
 split at a
 ·rw[GE.mp a];exact iK (by decide)
 simp only[GI,Hs,Iw] at a;rcases a with rfl|rfl|rfl|rfl
 ·exact iK (by decide)
 ·exact kH _
 ·exact iK (by decide)
 ·exact kH _
structure Lined(ns:List Str)(L:List Bg)(C:List Tie):Prop where
 nm:Names ns
 gb:hV ns.length ((L.map Bg.tie).map Tie.toD)
 okb:∀b∈L,Tie.BoughOk ns.length b.u b.lo b.hi b.ks
 okc:∀t∈C,t.Ok ns.length
 nb:∀t∈C,∀u lo hi ks,t≠.bough u lo hi ks
 sm:∀t∈C,Tie.Small ns.length t
 fewb:L.length<=9
 fewc:C.length<=8
theorem fH{z:Str}(h:dA z=true):z.length<=8:=by
 unfold dA at h;rw[Ha] at h;exact(GJ h.1).2
section
variable{ns:List Str}{L:List Bg}{C:List Tie}
theorem Lined.cross(h:Lined ns L C){t:Tie}(a:t∈C):iO t=true:=by
 cases t with
 |bough u lo hi ks=>exact absurd rfl (h.nb _ a u lo hi ks)
 |needs x y=>rfl
 |bans x y=>rfl
 |most top ps=>rfl
theorem Lined.rise(h:Lined ns L C){t:Tie}(b:t∈C):Tie.Rise t:=by
 have a:=h.okc t b
 cases t with
 |bough u lo hi ks=>trivial
 |needs x y=>trivial
 |bans x y=>trivial
 |most top ps=>exact⟨a.1,a.2.2.1⟩
theorem Lined.whole(h:Lined ns L C){ws:List Str}(e:ws∈bU ns L C):ws≠[]/\∀z∈ws,jO z:=by
 rcases GL.mp e with y|y
 ·rcases GI.mp y with y|y
  ·rw[y];refine⟨by simp,λz a=>?_⟩;rcases GL.mp a with x|x
   ·rw[GE.mp x];exact iK (by decide)
   ·exact qH (h.nm.name z x)
  ·obtain⟨b,f,rfl⟩:=Hc.mp y;refine⟨by simp[cE],λz a=>?_⟩;rcases GI.mp a with x|x
   ·rw[x];exact lX h.nm _
   ·rcases GL.mp x with x|x
    ·exact C8 _ _ _ z x
    ·obtain⟨k,_,rfl⟩:=Hc.mp x;exact lX h.nm _
 ·obtain⟨t,d,rfl⟩:=Hc.mp y;have c:=lX h.nm
  cases t with
  |bough u lo hi ks=>exact absurd rfl (h.nb _ d u lo hi ks)
  |needs x y=>
   refine⟨by simp[cy],λz a=>?_⟩;simp only[cy,GI,Hs,Iw] at a;rcases a with rfl|rfl|rfl
   ·exact c _
   ·exact iK (by decide)
   ·exact c _
  |bans x y=>
   refine⟨by simp[cy],λz a=>?_⟩;simp only[cy,GI,Hs,Iw] at a;rcases a with rfl|rfl|rfl
   ·exact c _
   ·exact iK (by decide)
   ·exact c _
  |most top ps=>
   refine⟨by simp[cy],λz a=>?_⟩;rcases GL.mp a with x|x
   ·simp only[GI,Hs,Iw] at x;rcases x with rfl|rfl|rfl
    ·exact iK (by decide)
    ·exact kH _
    ·exact iK (by decide)
   ·obtain⟨p,g,x⟩:=J3.mp x;simp only[GI,Hs,Iw] at x;rcases x with rfl|rfl
    ·exact kH _
    ·exact c _
theorem Lined.n8(h:Lined ns L C):∀z∈ns,z.length<=8:=λz a=>fH (h.nm.name z a)
theorem Lined.short(h:Lined ns L C){ws:List Str}(f:ws∈bU ns L C):k8 ws:=by
 have g:=h.nm.few;rcases GL.mp f with y|y
 ·rcases GI.mp y with y|y
  ·rw[y];exact uA g h.n8
  ·obtain⟨b,d,rfl⟩:=Hc.mp y;have a:=h.okb b d;have i:=a.few;have:=a.hik;have:=a.lohi;exact tY h.n8 (by omega) (by omega) (by omega)
 ·obtain⟨c,e,rfl⟩:=Hc.mp y;exact qJ h.n8 (h.sm c e)
theorem fQ:(bU ns L C).length=1+L.length+C.length:=by
 rw[bU,dF,GC,GN,Gz,Gz];omega
theorem Lined.text(h:Lined ns L C):(fV ns L C).length<=1000000/\Txt.split (fV ns L C) "\n" = (bU ns L C).map (Str.join " "):=by
 have i:=h.fewb;have j:=h.fewc
 constructor
 ·have g:=gD (b:=2000) (ws:=(bU ns L C).map (Str.join " ")) λz a=>by
   obtain⟨f,d,rfl⟩:=Hc.mp a;exact(nB (h.short d)).2
  have:=Ic ("\n" : Str) ((bU ns L C).map (Str.join " "));rw[Gz,fQ] at g this;rw[show(("\n"):Str).length=1 from rfl] at this;unfold fV;omega
 ·refine ku (c:=10) (λz=>?_) λz a=>?_
  ·rw[JJ] at z;have:=fQ (ns:=ns) (L:=L) (C:=C);rw[z] at this;simp at this;omega
  ·obtain⟨f,d,rfl⟩:=Hc.mp a;exact qL (e:=32) (by decide) λz a=>((h.whole d).2 z a).1
theorem Lined.words(h:Lined ns L C){ws:List Str}(a:ws∈bU ns L C):(Str.join " " ws).length<=1000000/\Txt.split (Str.join " " ws) " " = ws:=by
 refine⟨Hm (nB (h.short a)).2 (by decide),ku (c:=32) (h.whole a).1 λz b=>((h.whole a).2 z b).2⟩
end
theorem j2{ns:List Str}{u lo hi:Nat}{ks:List Nat}(h:dA (bK ns u)=true):dq (cE ns u lo hi ks)=false:=by
 obtain⟨a,c,e,f⟩:=nA lo hi ks.length;have b:a∈(["must", "may", "one", "from"]:List Str):=by
  unfold cU at e
  split at e
  ·cases e
   decide
  split at e
  ·cases e
   decide
  split at e
  ·cases e
   decide
  ·cases e
   decide
 have d:cE ns u lo hi ks=bK ns u::a::(c++ks.map (bK ns)):=by
  unfold cE;rw[e]
  rfl
 rw[d];unfold dq;rw[Bool.or_eq_false_iff]
 constructor
 ·show(some (bK ns u)==some ("most" : Str))=false;refine IV.mpr λz=>?_;injection z with z;rw[z] at h;exact absurd h (by decide +kernel)
 ·rw[Bool.and_eq_false_iff];refine .inr ?_;show(["needs", "bans"]:List Str).contains a=false;have k:∀z∈(["must", "may", "one", "from"]:List Str),(["needs", "bans"]:List Str).contains z=false:=by decide +kernel
  exact k a b
theorem qC{ns:List Str}{t:Tie}(h:iO t=true):dq (cy ns t)=true:=by
 cases t with
 |bough u lo hi ks=>cases h
 |needs x y=>
  unfold dq;rw[JG];refine .inr ?_;show(true&&(["needs", "bans"]:List Str).contains "needs")=true;decide +kernel
 |bans x y=>
  unfold dq;rw[JG];refine .inr ?_;show(true&&(["needs", "bans"]:List Str).contains "bans")=true;decide +kernel
 |most top ps=>
  unfold dq;rw[JG];refine .inl ?_;show(some ("most" : Str)==some ("most" : Str))=true;decide +kernel
def RefsAt(H:Hp)(b:List (List Str))(ys:List V):Prop:=ys.length=b.length/\∀(j:Nat)(c:List Str),b[j]?=some c->∃a:Addr,ys[j]?=some (.ref a)/\H a=some (.lst (bF c))
theorem RefsAt.same{H b:Hp}{c:List (List Str)}{ys:List V}(s:Same H b)(h:RefsAt H c ys):RefsAt b c ys:=⟨h.1,λj d e=>(h.2 j d e).imp λa ⟨x,y⟩=>⟨x,s _ _ y⟩⟩
theorem RefsAt.snoc{H:Hp}{c:List (List Str)}{ys:List V}{a:Addr}{ws:List Str}(h:RefsAt H c ys)(i:H a=some (.lst (bF ws))):RefsAt H (c++[ws]) (ys++[.ref a]):=by
 obtain⟨d,g⟩:=h;refine⟨by rw[GC,GC,d];rfl,λj v e=>?_⟩;by_cases k:j<c.length
 ·rw[HX k] at e;obtain⟨b,x,y⟩:=g j v e;exact⟨b,by rw[HX (by omega)];exact x,y⟩
 ·have f:j=c.length:=by
   rcases KY j (c.length+1) with q|q
   ·omega
   ·rw[Ja (by rw[GC];exact q)] at e
    cases e
  subst f;rw[HP (GW _),KZ] at e
  cases e
  refine⟨a,?_,i⟩;rw[<-d,HP (GW _),KZ]
  rfl
theorem RefsAt.drop{H:Hp}{a:List (List Str)}{ys:List V}(h:RefsAt H a ys):RefsAt H (a.drop 1) (ys.drop 1):=by
 refine⟨by rw[Hd,Hd,h.1],λj b e=>?_⟩;rw[K5] at e |-;exact h.2 _ _ e
theorem Fj{ns:List Str}{L:List Bg}{C:List Tie}{i:Nat}{b:Bg}(h:L[i]?=some b):((bU ns L C).drop 1)[i]?=some (cE ns b.u b.lo.toNat b.hi.toNat b.ks):=by
 have a:=(GU.mp h).1;show(L.map (λb=>cE ns b.u b.lo.toNat b.hi.toNat b.ks)++C.map (cy ns))[i]?=_;rw[HX (by rw[Gz];exact a),GQ,h]
 rfl
theorem Ed{ns:List Str}{L:List Bg}{C:List Tie}{i:Nat}{t:Tie}(hi:L.length<=i)(h:C[i-L.length]?=some t):((bU ns L C).drop 1)[i]?=some (cy ns t):=by
 show(L.map (λb=>cE ns b.u b.lo.toNat b.hi.toNat b.ks)++C.map (cy ns))[i]?=_;rw[HP (by rw[Gz];exact hi),Gz,GQ,h]
 rfl
def zp:Sp:=λf H Q _=>∃(b:List Str)(L:List Bg)(C:List Tie),f=[.str (fV b L C)]/\Lined b L C /\
 ∀(p c d tb e:Addr)(a:Hp),Same H a->H c=none->a p=some (.tup [.ref c,.ref d])->a c=some (.lst (bF b))->WoodP a d tb e b.length L C->Q (.ref p) a
end Ow
namespace Ow
open PySem L2 Wd
def oo:PyData->Prop
 |.tuple [_,.int n]=>n.natAbs<10^60
 |_=>True
def lc:PyData->Prop
 |.tuple [_,.int top,.tuple ps]=>top.natAbs<10^60/\∀p∈ps,oo p
 |_=>True
theorem qP{c y:Int}(f0:0<=c)(d:c<=10^58)(e : -50<=y)(f:y<=50):(c*y).natAbs<10^60:=by
 rw[Int.natAbs_mul];have a:c.natAbs<=10^58:=by omega
 have b:y.natAbs<=50:=by omega
 exact HJ (Nat.mul_le_mul a b) (by decide +kernel)
def uU(K:PySem.W.Frag):Sp:=λg H Q _=>∃(a e:Addr)(f:List Int)(m:Nat)(k:Int),g=[.ref a,.int (m:Int)]/\Pen K H a e f k/\0<=k/\k<=900000/\1<=m/\m<=9 /\
 ∀(c:PyData)(v:V)(d:Int)(b:Hp),SameX a H b->b a=some (.lst [.ref e,.int d])->k<=d->d<=k+30->Dn b c v->fm m c=true->cI 3 c=true->lc c->Q v b
def Fa(K:PySem.W.Frag):Sp:=λg H Q _=>∃(a e:Addr)(f:List Int)(m:Nat)(k:Int),g=[.ref a,.int (m:Int)]/\Pen K H a e f k/\0<=k/\k<=800000/\1<=m/\m<=9 /\
 ∀(c:PyData)(v:V)(d:Int)(b:Hp),SameX a H b->b a=some (.lst [.ref e,.int d])->k<=d->d<=k+31->Dn b c v->fm m c=true->cI 3 c=true->lc c->Q v b
def yq(K:PySem.W.Frag):Sp:=λj H Q _=>∃(a f:Addr)(i:List Int)(k:Int),j=[.ref a]/\Pen K H a f i k/\0<=k/\k<=700000 /\
 ∀(g:Addr)(m:Nat)(h d:List PyData)(e:Int)(b:Hp),SameX a H b->b a=some (.lst [.ref f,.int e])->k<=e->e<=k+400->1<=m->m<=9->WoodX b g m h d->d.length<=8->(∀c∈d,lc c)->Q (.ref g) b
theorem PairsTo.first{H:Hp}{i:Nat}{b:List PyData}{xs:List V}(h:PairsTo H i b xs):PairsTo H i (b.take 1) (xs.take 1):=by
 obtain⟨c,d,f,a,g⟩:=h
 cases b with
 |nil=>
  cases c
  exact⟨R,R,R,R,Iv _⟩
 |cons p r=>
  obtain⟨x,k,rfl,j,_⟩:=c;rw[Jw,Ha] at d f;refine⟨⟨x,[],R,j,R⟩,?_,?_,?_,by rw[GN] at g;show 1<=i;omega⟩
  ·show(gI p&&true)=true;rw[d.1]
   rfl
  ·show(cI 1 p&&true)=true;rw[f.1]
   rfl
  ·show cZ (i:Int) [fX p] (-1)=true;change cZ (i:Int) (fX p::r.map fX) (-1)=true at a
   cases e:fX p with
   |int n=>
    rw[e] at a;have z:(decide ((-1:Int)+1<=n)&&decide (n<=(i:Int)-1)&&cZ i (r.map fX) n)=true:=a;rw[Ha] at z;show(decide ((-1:Int)+1<=n)&&decide (n<=(i:Int)-1)&&cZ i [] n)=true;rw[z.1]
    rfl
   |_=>
    rw[e] at a
    cases a
end Ow
namespace L2
open PySem PySem.Spec PyProof.Rows
theorem D8{X:Cx}{e:Expr}{b:TE}{lo hi:Option Expr}{d c:TO}{a j:Pos}{r:V->Option Int->Option Int->Hp->VK->Prop}(h:mG X r)(f:PEi X e b)(g:PO X lo d)(i:PO X hi c):PEi X (.Subscript e (.Slice lo hi none j) a) (iI r b d c):=.of (dX h f.pe g i)
theorem Aa{X:Cx}{c:Expr}{a b:List Stmt}{e:TT}{t u:TS}{d:Pos}(h:PT X c e)(f:PLi X a t)(g:PSs X b u):PSi X (.If c a b d) (sZ e t u):=.of (cg h f.pss g)
end L2
namespace Ow
open PySem L2 Wd
def barred:List Str:=["may", "one", "must", "from", "bans", "most", "nothing"]
def io(z:Str):Str:=if barred.contains z then z ++ "s" else z
def ph(z:Str):Str:=if z = "needs" then "seen" else z
def iZ:List Str:=["may", "one", "must", "from", "bans", "most", "nothing", "needs"]
def fW(z:Str):Str:=ph (io z)
theorem rG:∀z∈iZ,dA (fW z)=true/\(fW z).length≠z.length/\(fW z).cps.all (·<128)=true:=by decide +kernel
theorem yN:∀y∈iZ,∀z∈iZ,fW y=fW z->y=z:=by decide +kernel
theorem zD:∀z∈noNames,z∈iZ:=by decide +kernel
theorem lP{z:Str}(h:z∉iZ):fW z=z:=by
 have b:barred.contains z=false:=by
  rw[<-KB];intro q;have a:z∈barred:=by simpa using q
  refine h ?_;unfold barred at a;unfold iZ;simp only[GI,Hs,Iw] at a |-;rcases a with a|a|a|a|a|a|a<;>simp[a]
 have c:z ≠ "needs" := λq=>h (by rw[q];decide);unfold fW io ph;rw[b];show(if z = "needs" then ("seen" : Str) else z)=z;rw[GY c]
def ip(z:Str):Prop:=∀c∈z.cps.toList,97<=c/\c<=122
theorem Fz{z:Str}(h:ip z):fR z kN=true:=by
 have k:∀d:Fin 26,jw (97+d.val) kN=true:=by decide +kernel
 refine Hv.mpr λc e=>?_;obtain⟨a,b⟩:=h c e;have:=k ⟨c-97,by omega⟩
 rwa [show 97+(c-97)=c by omega] at this
theorem D4{z:Str}(h:ip z)(b:z.length<=1000):dm z:=by
 refine⟨?_,b⟩;rw[Jx];intro c a;have:=h c (JH.mpr a);exact GF (by omega)
theorem D3{bs:List Str}{n:Nat}(u:1<=n)(v:n<=8)(d:∀z∈bs,z.length=n)(g:∀z∈bs,ip z)(p:bs.Nodup)(r:bs≠[])(j:bs.length<=9):Names (bs.map fW):=by
 have m:∀z∈bs,dA (fW z)=true/\dm (fW z):=λz b=>by
  by_cases o:z∈iZ
  ·obtain⟨a,_,c⟩:=rG z o;exact⟨a,c,Hm (fH a) (by decide)⟩
  ·rw[lP o];have l:=d z b;refine⟨?_,D4 (g z b) (by omega)⟩;unfold dA;rw[Fz (g z b),GF ⟨by omega,by omega⟩];show(!noNames.contains z)=true;rw[Jh,<-KB];intro q;exact o (zD z (by simpa using q))
 refine⟨λz=>r (JJ.mp z),by rw[Gz];exact j,?_,λz b=>?_,λz b=>?_⟩
 ·refine Lc.mpr (Lh ?_ p);intro y z f b k e;have s:=d y f;have t:=d z b;by_cases i:y∈iZ
  ·by_cases h:z∈iZ
   ·exact k (yN y i z h e)
   ·rw[lP h] at e;have:=(rG y i).2.1;rw[e] at this;omega
  ·by_cases h:z∈iZ
   ·rw[lP i] at e;have:=(rG z h).2.1;rw[<-e] at this;omega
   ·rw[lP i,lP h] at e;exact k e
 ·obtain⟨y,f,rfl⟩:=Hc.mp b;exact(m y f).2
 ·obtain⟨y,f,rfl⟩:=Hc.mp b;exact(m y f).1
def sP(ns:List Str):Bool:=ns.all (λz=>dA z&&z.cps.all (·<128))&&decide ns.Nodup
theorem Gu{ns:List Str}(h:sP ns=true){m:Nat}(c:1<=m)(d:m<=9)(b:ns≠[]):Names (ns.take m):=by
 unfold sP at h;rw[Ha,Hv] at h;have k:∀z∈ns,dA z=true/\dm z:=λz a=>by
  have:=h.1 z a;rw[Ha] at this;exact⟨this.1,this.2,Hm (fH this.1) (by decide)⟩
 refine⟨λz=>?_,by rw[G8];omega,(GJ h.2).sublist (List.take_sublist _ _),λz a=>(k z (HG a)).2,λz a=>(k z (HG a)).1⟩;rcases List.take_eq_nil_iff.mp z with z|z
 ·omega
 ·exact b z
def mU(i:Int):Str:=⟨#[97+(i%26).toNat]⟩
theorem xv{i:Int}(a : -26<=i)(h1:i<26):eJ (("abcdefghijklmnopqrstuvwxyz" : Str)).cps.toList i=some (97+(i%26).toNat):=by
 have z:∀d:Fin 52,eJ (("abcdefghijklmnopqrstuvwxyz" : Str)).cps.toList ((d.val:Int)-26)=some (97+(((d.val:Int)-26)%26).toNat):=by decide +kernel
 have:=z ⟨(i+26).toNat,by omega⟩
 rwa [show(((i+26).toNat:Nat):Int)-26=i by omega] at this
def base1:List Str:=["to", "of", "ware", "w", "wares", "tos", "o", "t", "yes"]
def ij(t:Int)(tail:Str)(m:Nat):List Str:=(List.range m).map λk:Nat=>mU ((t+3*(k:Int))%26)++tail
theorem FL{m:Nat}(a:1<=m)(b:m<=9):Names ((base1.take m).map fW)/\(base1.take m).length=m:=by
 refine⟨?_,?_⟩
 ·rw[II];exact Gu (by decide +kernel) a b (by simp[base1])
 ·rw[G8];have:base1.length=9:=rfl;omega
theorem vG(i:Int):(mU i).length=1:=rfl
theorem gU(y z:Str):(y++z).length=y.length+z.length:=by
 show(y++z).cps.size=y.cps.size+z.cps.size;rw[<-HH,GB,GC,HH,HH]
theorem Fl{t:Int}(r:0<=t)(h1:t<26){tail:Str}(i:ip tail)(s:tail.length<=7){m:Nat}(u:1<=m)(v:m<=9):Names ((ij t tail m).map fW)/\(ij t tail m).length=m:=by
 have b:(ij t tail m).length=m:=by
  unfold ij;rw[Gz,IE]
 refine⟨D3 (n:=1+tail.length) (by omega) (by omega) (λz a=>?_) (λz a=>?_) ?_ (λz=>?_) (by omega),b⟩
 ·obtain⟨k,_,rfl⟩:=Hc.mp a;rw[gU,vG]
 ·obtain⟨k,_,rfl⟩:=Hc.mp a;intro c d;rw[GB] at d;rcases GL.mp d with q|q
  ·have e:c=97+(((t+3*(k:Int))%26)%26).toNat:=GE.mp q;omega
  ·exact i c q
 ·refine Lc.mpr (Lh ?_ List.nodup_range);intro j k g h p e;have o:=Ih.mp g;have l:=Ih.mp h;have q:=ID (λz:Str=>z.cps.toList.head?) e;simp only[GB] at q;have f:some (97+(((t+3*(j:Int))%26)%26).toNat)=some (97+(((t+3*(k:Int))%26)%26).toNat):=q;injection f with f;omega
 ·rw[z] at b;simp at b;omega
theorem Gf(i:Int):ip (mU i):=λc a=>by
 have e:c=97+(i%26).toNat:=GE.mp a;omega
theorem wB{y z:Str}(h1:ip y)(b:ip z):ip (y++z):=λc a=>by
 rw[GB] at a;rcases GL.mp a with q|q
 ·exact h1 c q
 ·exact b c q
theorem vJ:∀{ws:List Str},(∀z∈ws,ip z/\z.length=1)->ip (Str.join "" ws)/\(Str.join "" ws).length=ws.length
 |[],_=>⟨(λc e=>nomatch e),rfl⟩
 |[z],h=>⟨(h z GM).1,(h z GM).2⟩
 |y::z::r,h=>by
  obtain⟨a,b⟩:=vJ (ws:=z::r) λx f=>h x (GP _ f);obtain⟨c,d⟩:=h y GM;refine⟨wB (wB c λ_ e=>nomatch e) a,?_⟩;show(y++("" : Str)++Str.join "" (z::r)).length=_;rw[gU,gU,b,d,GN (a:=y)];show 1+0+_=_;omega
def FS(K:PySem.W.Frag):Sp:=λg H Q _=>∃(a e:Addr)(f:List Int)(m:Nat)(k:Int),g=[.ref a,.int (m:Int)]/\Pen K H a e f k/\0<=k/\k<=800000/\1<=m/\m<=9 /\
 ∀(l:Addr)(d:List Str)(c:Int)(b:Hp),SameX a H b->b a=some (.lst [.ref e,.int c])->k<=c->c<=k+30->H l=none->b l=some (.lst (bF d))->Names d->d.length=m->Q (.ref l) b
theorem CI{ns:List Str}(N:Names ns):fS ns:=λz a=>kC (N.plain z a)
theorem AL{m:Nat}{b:Bg}(h:gF m b.tie.toD=true):1<=b.hi/\b.hi<=b.ks.length:=by
 have z:(dI (.int (b.u:Int)) 0 ((m:Int)-1)&&(gE (.tuple (b.ks.map λk:Nat=>PyData.int (k:Int)))&&(lD m (.int (b.u:Int)) (.tuple (b.ks.map λk:Nat=>PyData.int (k:Int)))&&((decide (1<=b.hi)&&decide (b.hi<=((b.ks.map λk:Nat=>PyData.int (k:Int)).length:Int)))&&mO (.int b.lo) (.int b.hi)))))=true:=h;simp only[Ha,HK,Gz] at z;exact z.2.2.2.1
theorem FC{m:Nat}{t:Tie}(c:t.Ok m)(i:m<=9)(h:lc t.toD):Tie.Small m t:=by
 cases t with
 |bough u lo hi ks=>trivial
 |needs a b=>exact⟨c.1,c.2.1⟩
 |bans a b=>exact⟨c.1,c.2.1⟩
 |most top ps=>
  obtain⟨f,g⟩:=h;obtain⟨j,e,k,l⟩:=c;exact⟨f,by omega,λp d=>⟨e p d,g (pairD p) (Iq d)⟩⟩
theorem Fy{H:Hp}{i:Addr}{ns:List Str}{bs cs:List PyData}(W:WoodX H i ns.length bs cs)(f:cs.length<=8)(m:∀c∈cs,lc c)(N:Names ns):∃(tb d:Addr)(L:List Bg)(C:List Tie),WoodP H i tb d ns.length L C/\Lined ns L C:=by
 obtain⟨tb,d,L,C,P,k,l⟩:=W.parts;subst k;subst l;have e:=W.b8;rw[Gz,Gz] at e;rw[Gz] at f;refine⟨tb,d,L,C,P,⟨N,W.gb,λb g=>?_,P.okc,P.nb,λt h=>FC (P.okc t h) P.m9 (m _ (Iq h)),e,f⟩⟩;obtain⟨a,j⟩:=AL (W.gb.each _ (Iq (Iq g)));exact⟨P.okb b g,a,j⟩
end Ow
namespace L2
open PySem PySem.Spec PyProof.Rows
def yG(X:Cx)(C:Addr):Value->Shared->Prop:=λx b=>∃m,b.heap.Ns C m/\∀c,Heap.SameBut C b.heap c->∀a:Env,a.locals=C->wpAny (model X.prog X.w) X.A (passOn "comprehension.variables-let-go" x a:Sem Value) (λ_ _=>False) X.xe { b with heap:=c }
def oK(X:Cx)(C:Addr)(fp:List Addr)(a:List (Addr×Obj))(s:Shared)(H:Hp):Prop:=∃c,Inv X a c H s/\(∀b∈fp,gJ X a H b)/\s.heap.objs.size<=C
def km(X:Cx)(N':List Str)(b:Scope)(C:Addr)(fp:List Addr)(a:List (Addr×Obj))(s:Shared)(H:Hp):Cx:=(dM X N' b C fp a s H).wish (notedBy (model X.prog X.w) X.A (compEnvC b (iY b X.env) C X.env) (yG X C))
theorem Fx{prog:Program}{w:World}{A:Around}{R:Result->Shared->Prop}{d k b:Expr}{cs:List Expr}{D:Scope}{i:Pos}{it c:Value}{env:Env}(J:Nat->Shared->Prop)
  (j:∀n s,J n s->wpAny (model prog w) A (pyNext it) (λr o=>match r with
   |none=>R (.ok .next) o
   |some v=>wpAny (model prog w) A (letOwnedTupleGo k it v) (λ_ u=>wpAny (model prog w) A (assign k env v) (λ_ y=>wpAny (model prog w) A (so cs env) (λl p=>
     if l=true then wpAny (model prog w) A (eval d env) (λx B=>wpAny (model prog w) A (call (.builtin "list.append") [c,x]) (λ_ C=>∃m,m<n/\J m C) (notedBy (model prog w) A env λx a=>R (.error x) a) B) (notedBy (model prog w) A env λx a=>R (.error x) a) p
     else ∃m,m<n/\J m p) (notedBy (model prog w) A env λx a=>R (.error x) a) y) (notedBy (model prog w) A env λx a=>R (.error x) a) u) (notedBy (model prog w) A env λx a=>R (.error x) a) o) (notedBy (model prog w) A env λx a=>R (.error x) a) s)
  (n:Nat) (s:Shared) (h:J n s):codeAny (model prog w) A (.compLoop (.ListComp d [⟨k,b,cs,0⟩] D i) 0 it c env) R s:=by
 refine codeAny_loop rfl J (λn s L=>?_) n h;show wpAny _ A ((compTurn (.ListComp d [⟨k,b,cs,0⟩] D i) 0 it c env).onRaise (λx=>do noteFrame x env;theTreesLotGoes x)) _ _ s;refine wpAny_noted ?_;rw[compTurn_list];have g:∀{E:Value->Shared->Prop} (e:Value) (z:Shared),E e z->E e z:=λ_ _ f=>f;refine GD (KG (GD (IR (j n s L) (λr o q=>?_) g)))
 cases r with
 |none=>exact GV q
 |some v=>
  refine GD (IR q (λ_ u F=>?_) g);refine GD (IR F (λ_ y G=>?_) g);refine GD (IR G (λl p t=>?_) g)
  cases l with
  |false=>exact GV ⟨rfl,t⟩
  |true=>
   exact GD (GD (IR t (λx B H=>GD (IR H (λ_ C I=>GV (GV ⟨rfl,I⟩)) g)) g))
section
variable{X:Cx}{tg iter elt:Expr}{cs:List Expr}{sc sc0:Scope}{pos:Pos}{wi:TI}{g:TG}{tc:TT}{te:TE}{XN N':List Str}{n:Nat}{kp:List Nat}
theorem yE{d:List (Addr×Obj)}{s:Shared}{σ:St}{H:Hp}{Q:VK}{use:Option (Value->Sem Unit)}{Qf:Value->Shared->Prop}(hc:X.calm=true)(hi:PI X tg iter wi)(h0:X.env.scope=sc0)(hN:X.N=XN)(ok:jQ sc0 sc XN N' n kp=true)
  (hg:∀C fp d s H,PG (km X N' sc C fp d s H) tg g) (ht:∀C fp d s H,jV (km X N' sc C fp d s H) cs tc) (he:∀C fp d s H,oK X C fp d s H->PE (km X N' sc C fp d s H) elt te) (hs:∀x,foldedSetIterable iter X.env x=pure x)
  (I:Inv X d σ H s) (h:kq n kp wi g tc te σ H Q)
  (ni:∀D C ys j F,Inv X d σ (upd j D (.lst ys)) F->(∃m,F.heap.Ns C m)->gJ X d (upd j D (.lst ys)) C->Q (.ref D) (upd j D (.lst ys))->compPost (model X.prog X.w) X.A X.xe use Qf (.ref D) C (.ok .next) F) {aB:Pos}:
  wpAny (model X.prog X.w) X.A (comprehension (.ListComp elt [⟨tg,iter,cs,0⟩] sc pos) sc X.env aB (newList []) false (firstIter [⟨tg,iter,cs,0⟩] X.env) use) Qf X.xe s:=by
 obtain⟨o1,o2,o3,o4,o5,o6⟩:=qD ok;have aC:∀y∈sc.names,y.2=.free->∃c,X.env.cells.lookup y.1=some c:=λy hy e=>I.ok.has y.1 (.inl (by rw[Env.kindOf,h0];exact o4 y hy e));refine wpAny_comprehension_free (use:=use) rfl hs (wN aC) o1 o3 (bZ (hi d s σ H _ I h) λv s1 Z=>bZ Z λaR f h2=>?_);obtain⟨it,fp,tn,J,B,rfl,M,T,az,U,W,⟨m0,w0⟩,ax⟩:=h2;have hl:∀b∈fp,b<f.heap.objs.size:=λb l=>by
  obtain⟨o,e,_⟩:=T.obj 0 _ az b l;exact GS e
 refine IY (wpAny_newFunctionEnv o2 (by intro y hy;simp at hy) (λZ ay am=>?_) o1);dsimp only at ay am |-;generalize hG:f.heap.push { cls:=.type "list",dict:=none,data:=.seq ([]:List Value).toArray }=G at ay am |-;have aP:G.objs.size=f.heap.objs.size+1:=by rw[<-hG,Jo]
 have af:f.heap.objs.size<=G.objs.size:=by omega
 have aj:f.heap.objs.size≠G.objs.size:=by omega
 have ao:∀b o,f.heap.get? b=some o->Z.get? b=some o:=λb o e=>by
  have Y:=GS e;exact am.extBut b o (Hq (Hj Y af)) (GR _ (hG▸GR _ e))
 have aO:Z.get? f.heap.objs.size=some { cls:=.type "list",data:=.seq ([]:List Value).toArray 0 }:=
  am.extBut _ _ aj (GR _ (hG▸Hk _ rfl))
 have ak:B f.heap.objs.size=none:=M.hok.fresh (GW _);have aQ:B G.objs.size=none:=M.hok.fresh af;have ah:∀s3:Shared,s3={ f with heap:=Z,toks:=f.toks+([]:List (Str×Value)).length } ->
   codeAny (model X.prog X.w) X.A (.compLoop (.ListComp elt [⟨tg,iter,cs,0⟩] sc pos) 0 (.ref it) (.ref f.heap.objs.size) (compEnvC sc (iY sc X.env) G.objs.size X.env))
    (compPost (model X.prog X.w) X.A X.xe use Qf (.ref f.heap.objs.size) G.objs.size) s3:=by
  rintro s3 rfl;have I3:=uO (fp:=fp) (C:=G.objs.size) (h1:=Z) (tk:=f.toks+([]:List (Str×Value)).length) M h0 hN ok U hl af ao ay;have ae:∀{j:Hp} {o:Obj},(∀b∈fp,j b=none)->∀b∈fp,gJ (dM X N' sc G.objs.size fp d f B) [(f.heap.objs.size,o)] j b:=λhn b l=>by
   have Y:=hl b l;refine⟨hn b l,Hq (Hj Y af),I3.ok.exfs b l,.inl l,(I3.ok.exf b l).2,λp S=>?_⟩;rcases GL.mp S with z|z
   ·exact(U b l).2.2.2.2.2 p z
   ·have e:p.1=f.heap.objs.size:=by rw[GE.mp z]
    rw[e];exact Io Y
  have au:∀{t:St} {j:Hp} {F:Shared} {o:Obj},Inv (dM X N' sc G.objs.size fp d f B) [] t j F->F.heap.get? f.heap.objs.size=some o->(∀v,o.data≠.cell v)->j f.heap.objs.size=none ->
    Inv (dM X N' sc G.objs.size fp d f B) [(f.heap.objs.size,o)] t j F:=λ{t j F o} J' e hd hn=>J'.pins_of λp S=>by
   rw[GE.mp S];exact⟨e,hn,aj,λz=>by
    rcases GI.mp (M.stkSub _ z) with r|r
    ·exact absurd M.lt (by rw[<-r];exact HW _)
    ·exact M.nofs (GW _) r,hd⟩
  refine Fx (λk F=>∃(i:Nat)(ys:List V)(P:List Value)(c:Nat)(t:St)(j:Hp),Inv (dM X N' sc G.objs.size fp d f B) [] t j F/\tn i F.heap/\(∀b∈fp,j b=none) /\
   F.heap.get? f.heap.objs.size=some { cls:=.type "list",data:=.seq P.toArray c }/\Vals ys P/\j f.heap.objs.size=none/\W i k ys t j) ?_ m0 _
   ⟨0,[],[],0,_,B,I3,T.keep _ _ _ az λb _ o e=>ao b o e,λb l=>(U b l).1,aO,.nil,ak,w0⟩
  rintro k F ⟨i,ys,P,c,t,j,I',aG,aF,aK,hv,nD,w'⟩;obtain⟨hz,cases⟩:=ax i k ys t j w';have aD:=au I' aK (λv=>by intro z;cases z) nD;rcases cases with⟨av,q⟩|⟨go,N,aE,step⟩
  ·refine bZ (T.done (dM X N' sc G.objs.size fp d f B) rfl rfl rfl hc i _ F t j _ aD (ae aF) aG av) λr s4 ⟨hr,I4⟩=>?_;subst hr;obtain⟨e4,n4,_⟩:=I4.pin (f.heap.objs.size,{ cls:=.type "list",data:=.seq P.toArray c }) (Hw _ (GE.mpr rfl));have u4:Un (dh X.stack) fp B j f.heap s4.heap:=I4.base;have aI:j G.objs.size=none:=I4.free;obtain⟨m4,aL,_⟩:=I4.loc;have aJ:∀b o,f.heap.get? b=some o->b≠f.heap.objs.size:=λb o e=>Hq (GS e);have u5:Un (dh X.stack) fp B (upd j f.heap.objs.size (.lst ys)) f.heap s4.heap:=
    ⟨u4.keep,u4.slot,λb o e nb hx=>by rw[bR (aJ b o e)];exact u4.free b o e nb hx,u4.there,λb xs e=>by rw[bR (cY e ak)];exact u4.tups b xs e,
     λb o u e=>by rw[bR (cY e ak)];exact u4.frzs b o u e,λb ps e=>by rw[bR (cY e ak)];exact u4.tbls b ps e⟩
   have aw:HOk X.prog X.w (upd j f.heap.objs.size (.lst ys)) s4.heap:=λa o e=>by
    by_cases ea:a=f.heap.objs.size
    ·subst ea;rw[bI] at e
     cases e
     exact⟨hz,P,c,hv,e4⟩
    ·rw[bR ea] at e;exact(I4.hok a o e).stay (λ_ _ _ q=>q) (λb q=>by rw[bR (cY q nD)];exact q) λb xs q=>by rw[bR (cY q nD)];exact q
   have I5:Inv X d σ (upd j f.heap.objs.size (.lst ys)) s4:=M.call' I4.os u5 aw I4.bare λb l=>⟨(U b l).2.2.2.1,(U b l).2.1,(U b l).2.2.2.2.1,(U b l).2.2.2.2.2⟩
   refine ni _ _ ys j s4 I5 ⟨m4,aL⟩ (M.fpOk af ?_) (q _ nD);rw[bR (Ij aj)];exact aI
  ·refine bZ (T.item (dM X N' sc G.objs.size fp d f B) rfl rfl rfl hc i _ F t j _ aD (ae aF) aG go) λr s4 ⟨u,hr,h4⟩=>?_;subst hr;refine bZ h4 λ_ s5 ⟨x,H5,I5,r5,y5,aq,aN⟩=>?_;have aM:=I5.pinned (ae aN) (T.obj _ _ aq);refine bZ (hg G.objs.size fp d f B _ s5 t H5 x u _ (aM.wish _) r5 (step x H5 y5)) λ_ s6 ⟨E,H6,I6,q6⟩=>?_;refine bZ (ht G.objs.size fp d f B _ s6 E H6 _ I6 q6) λb s7 ⟨H7,I7,q7⟩=>?_;have ag:∀{O:Shared} {L:Hp} (m':Nat),Inv (dM X N' sc G.objs.size fp d f B) ([(f.heap.objs.size,{ cls:=.type "list",data:=.seq P.toArray c })]++jL fp s5.heap) E L O ->
     tn (i+1) O.heap/\(∀b∈fp,L b=none)/\O.heap.get? f.heap.objs.size=some { cls:=.type "list",data:=.seq P.toArray c }/\L f.heap.objs.size=none:=λ{O L} m' I8=>by
    have pn:∀p∈[(f.heap.objs.size,({ cls:=.type "list",data:=.seq P.toArray c }:Obj))]++jL fp s5.heap,O.heap.get? p.1=some p.2/\L p.1=none:=λp S=>
     let ⟨a,b,_⟩:=I8.pin p (Hw _ S);⟨a,b⟩
    refine⟨T.keep _ _ _ aq λb l o e=>(pn (b,o) (Hw _ (kz l e))).1,λb l=>?_,pn _ (IP _ (GE.mpr rfl))⟩;obtain⟨o,e,_⟩:=T.obj _ _ aq b l;exact(pn (b,o) (Hw _ (kz l e))).2
   have ai:∀{O:Shared} {L:Hp} {pl:List (Addr×Obj)},Inv (dM X N' sc G.objs.size fp d f B) pl E L O->Inv (dM X N' sc G.objs.size fp d f B) [] E L O:=λI8=>I8.pins_of λp S=>nomatch S
   cases b with
   |false=>
    rw[GY Hh] at q7 |-;obtain⟨m',Y,w7⟩:=aE _ _ _ q7;obtain⟨b1,b2,b3,b4⟩:=ag m' I7.unwish;exact⟨m',Y,i+1,ys,P,c,E,H7,ai I7.unwish,b1,b2,b3,hv,b4,w7⟩
   |true=>
    rw[Hl rfl] at q7 |-;refine bZ (he G.objs.size fp d f B ⟨_,M,U,af⟩ _ s7 E H7 _ I7 q7) λy O ⟨yv,L,I8,r8,q8⟩=>?_;obtain⟨m',Y,w8⟩:=aE _ _ _ q8;obtain⟨b1,b2,b3,b4⟩:=ag m' I8.unwish;have ar:=hv.length;refine append_at (hsz:=by rw[Hb,<-ar];exact hz) b3 λh9 aA e9=>?_;have I9:Inv (dM X N' sc G.objs.size fp d f B) [] E L { O with heap:=h9 }:=(ai I8.unwish).turned (t':=O.toks) (it:=f.heap.objs.size) (λb o l e=>aA.extBut b o l e) b4 aj (.inr (GW _))
     (λx c e z=>by
      obtain⟨v,hv⟩:=M.cell x c (jB aC e);exact absurd hv.lt (by rw[z];exact HW _))
     λp S z=>by
      have aH:p∈X.pn++d:=by
       have:p∈(X.pn++d)++([]:List (Addr×Obj)):=S;rw[HZ] at this;exact this
      exact absurd (GS (M.pin p aH).1) (by rw[z];exact HW _)
    refine⟨m',Y,i+1,ys++[yv],P++[y],c+1,E,L,I9,T.keep _ _ _ b1 λb l o e=>aA.extBut b o (Hq (hl b l)) e,b2,?_,hv.append (.cons r8 .nil),b4,w8⟩;rw[e9];simp
 exact codeAny_compStart_list (ah _ rfl) (T.self _ 0 _ _ _ (T.keep _ _ _ az λb _ o e=>ao b o e) (ah _ rfl))
theorem uW{i:Nat}{y:Str}{k d:Pos}(l:X.N.Nodup)(r:X.N[i]?=some y)(J:X.env.scope.names.lookup y=some .local)(t:swapsWith (.ListComp elt [⟨tg,iter,cs,0⟩] sc pos) (some (.Name y k)) d.line X.env=pure true)
  (hc:X.calm=true) (hi:PI X tg iter wi) (h0:X.env.scope=sc0) (hN:X.N=XN) (ok:jQ sc0 sc XN N' n kp=true)
  (hg:∀C fp a s H,PG (km X N' sc C fp a s H) tg g) (ht:∀C fp a s H,jV (km X N' sc C fp a s H) cs tc) (he:∀C fp a s H,oK X C fp a s H->PE (km X N' sc C fp a s H) elt te)
  (hs:∀x,foldedSetIterable iter X.env x=pure x:=by intro _;rfl):PS X (.Assign [.Name y k] (.ListComp elt [⟨tg,iter,cs,0⟩] sc pos) d) (iW (kq n kp wi g tc te) (gn i)):=by
 intro a s B H D I h;rw[exec_Assign_Name_used _ _ _ _ t];refine GD (KG (GD ?_));have O:wpAny (model X.prog X.w) X.A (comprehension (.ListComp elt [⟨tg,iter,cs,0⟩] sc pos) sc X.env (firstIterPos [⟨tg,iter,cs,0⟩] pos) (newList []) false (firstIter [⟨tg,iter,cs,0⟩] X.env) (some (assign (.Name y k) X.env)))
   (λ_ f=>SP X a D .next f) X.xe s:=by
  refine yE (Q:=λx M=>gn i x B M D.nx) hc hi h0 hN ok hg ht he hs I h λj C ys L f F ns fp q=>?_;obtain⟨m,hm⟩:=ns;obtain⟨U,G,W,Y,Z,f6⟩:=fp;obtain⟨o,T,S,ho,c⟩:=id hm;have nc:∀v,o.data≠.cell v:=λv z=>by
   rw[c.1] at z
   cases z
  have P:Inv X (a++[(C,o)]) B (upd L j (.lst ys)) f:=F.pins_of λp hp=>by
   rcases GL.mp hp with z|z
   ·exact F.pin p (Hw _ z)
   ·rw[GE.mp z];exact⟨ho,U,G,W,nc⟩
  show wpAny (model X.prog X.w) X.A (assign (.Name y k) X.env (.ref j)) _ X.xe f;refine bZ (cG l r (.inl J) (.inr J) _ f B _ (.ref j) (.ref j) D.nx P rfl q) λ_ u ⟨E,H3,I3,q3⟩=>?_;obtain⟨p1,p2,_⟩:=I3.pin (C,o) (Hw _ (Hw _ (GE.mpr rfl)));refine⟨m,⟨o,T,S,p1,c⟩,λh' sb=>⟨E,H3,?_,q3⟩⟩;exact I3.unpinned.turned (t':=u.toks) (it:=C) (λb o hb e=>sb.extBut b o hb e) p2 G Y Z f6
 show wpAny (model X.prog X.w) X.A (comprehension _ _ _ _ _ _ _ _>>=_) _ _ s;exact GD (bZ O λ_ f q=>GV (GV q))
end
section
variable{M:Model}{A:Around}{E:Value -> Shared -> Prop}{s:Shared}
def ot(B:Heap)(l:List Env)(e:Addr)(cls a b:Value)(h:Heap):Prop:=B.StaysIn h/\B.get? e=none/\h.FunFrames B l/\h.TracedAtW B e cls a b
theorem Dr{B:Heap}{l:List Env}{e:Addr}{cls m z:Value}{i:Option Addr}{Q:Unit->Shared->Prop}(R:ot B l e cls m z s.heap)
  (q:∀g,ot B l e cls m (i.elim .none λf=>rawInt f) g->s.heap.UpToSlots g->Q () { s with heap:=g }):wpAny M A (setFlight (.ref e) i) Q E s:=by
 obtain⟨F,G,H,D,L,T,N,w,t,C,r,x,u,k,j,h,I⟩:=R;have v:3<w.size:=(Jy.mp I).1;have d:∀b,b≠T->(s.heap.update T (Obj.mapFields (·.setIfInBounds 3 (i.elim Value.none λf=>rawInt f)))).get? b=s.heap.get? b:=λb n=>IS _ _ (Ij n);have p:∀b o,s.heap.get? b=some o->(∀J,o.data≠.fields J)->b≠T:=λb o a c y=>by
  rw[y,j] at a
  cases a
  exact c w h
 unfold setFlight;refine GD (IJ t r x ?_);rw[Hl (by simp)];refine JP j h v (q _ ⟨λb o a=>?_,G,?_,?_⟩ λb o a c=>⟨o.slots,(d b (p b o a c)).trans a⟩)
 ·refine(d b λy=>?_).trans (F b o a);rw[y,u] at a
  cases a
 ·exact H.of_keeps λb o a c=>⟨o,(d b (p b o a c)).trans a,rfl⟩
 ·exact⟨D,L,T,_,_,(d e (Ij k)).trans t,C,r,x,u,k,Ik _ j (JV (JB h _)),JB h _,by simp[v]⟩
theorem E5{B:Heap}{env:Env}{outer:List Env}{L e:Addr}{cls f r:Value}{Q:Unit->Shared->Prop}(k:A.frames=some (env::outer))(j:env.frame=some L)
  (R:ot B (env::outer) e cls f r s.heap) (q:∀g,Heap.FlyingW B outer e cls f g->s.heap.UpToSlots g->Q () { s with heap:=g }):wpAny M A (leaving env (.ref e)) Q E s:=by
 by_cases same:r=rawInt L
 ·subst same;unfold leaving;refine GD (wpAny_noteFrame_againW j R.2.2.2 ?_);refine wpAny_landsW (show Heap.HeldW B (env::outer) e cls f L s.heap from R) λg l S=>?_;obtain⟨m,G,⟨_,_,H⟩,I⟩:=l;exact q g ⟨m,G,H,I⟩ S
 ·obtain⟨N,v,O,oe,vs,T,oT,x,u,⟨F,D⟩,t,z,J,C,i,h,w⟩:=R;subst F;have P:3<x.size:=(Jy.mp w).1;have d:∀b,b≠T->(s.heap.update T (Obj.mapFields (·.setIfInBounds 3 Value.none))).get? b=s.heap.get? b:=λb n=>IS _ _ (Ij n);have p:∀b o,s.heap.get? b=some o->(∀U,o.data≠.fields U)->b≠T:=λb o a c y=>by
   rw[y,i] at a
   cases a
   exact c x h
  unfold leaving noteFrame;simp only[j];refine GD (GD (IJ u t z ?_));rw[Hl (by simp)];refine GD (IJ i h w ?_);rw[GY (by simpa using same)];refine GD (JP i h P ?_);have m:B.StaysIn (s.heap.update T (Obj.mapFields (·.setIfInBounds 3 Value.none))):=λb o a=>by
   refine(d b λy=>?_).trans (N b o a);rw[y,J] at a
   cases a
  refine wpAny_newEntryW k (O.of_keeps λb o a c=>⟨o,(d b (p b o a c)).trans a,rfl⟩) j ((d e (Ij C)).trans u) m v t (Jy.mp z).1 D λg l=>?_;obtain⟨W,⟨_,_,X⟩,Y,Z⟩:=l;exact q g ⟨W,v,X,Y⟩ λb o a c=>Z b o ((d b (p b o a c)).trans a) c
end
def iS(B:Heap)(C:Addr):Heap:=⟨B.objs.setIfInBounds C { cls:=.none,data:=.freed },B.life⟩
theorem uK(B:Heap)(C:Addr):(iS B C).get? C=none:=by
 unfold Heap.get? iS;by_cases h:C<B.objs.size
 ·simp[h]
 ·simp[h]
theorem nQ{B:Heap}{C b:Addr}(h:b≠C):(iS B C).get? b=B.get? b:=by
 unfold Heap.get? iS;rw[Array.getElem?_setIfInBounds_ne (Ij h)]
theorem DO{B:Heap}{C b:Addr}{o:Obj}(h:(iS B C).get? b=some o):b≠C/\B.get? b=some o:=by
 by_cases z:b=C
 ·rw[z,uK] at h
  cases h
 ·rw[nQ z] at h;exact⟨z,h⟩
theorem qv{B:Heap}{C b:Addr}(h:B.get? b=none):(iS B C).get? b=none:=by
 by_cases z:b=C
 ·rw[z];exact uK B C
 ·rw[nQ z];exact h
theorem FunFrames.drop{B h h':Heap}{C:Addr}(a:Heap.SameBut C h h'):∀{l:List Env},(∀b∈dh l,b≠C)->h.FunFrames B l->h'.FunFrames (iS B C) l
 |[],_,_=>trivial
 |env::r,nc,⟨k,⟨L,o,f1,f2,f3,f4⟩,k2⟩=>by
  have d:L≠C:=nc L (by
   show L∈(env::r).filterMap (·.frame);rw[Iz,f1];exact GM)
  refine⟨k,⟨L,o,f1,qv f2,(a.2 L d).trans f3,f4⟩,FunFrames.drop a (λb c=>nc b ?_) k2⟩;show b∈(env::r).filterMap (·.frame);rw[Iz,f1];exact GP _ c
theorem Ep{X:Cx}{j:List (Addr×Obj)}{G:St}{h:Hp}{t:Shared}{g:Heap}(c:Inv X j G h t)(k:∀b o,t.heap.get? b=some o->b∉dh X.stack->(h b≠none\/∃u,X.s₀.heap.get? b=some u)->g.get? b=some o)
  (u:∀b o,t.heap.get? b=some o->(∀F,o.data≠.fields F)->b∈dh X.stack->∃sl,g.get? b=some { o with slots:=sl }):Un X.fs X.ex X.H₀ h X.s₀.heap g/\HOk X.prog X.w h g:=by
 have C:∀b o,X.s₀.heap.get? b=some o->b∉X.fs->b∉dh X.stack:=λb o e n z=>by
  rcases GI.mp (c.stkSub b z) with r|r
  ·have x:=GS e;have E:=c.ok.above;rw[r] at x;exact absurd (Hj x E) (HW _)
  ·exact n r
 have v:∀b,b∈X.fs->b∈dh X.stack:=λb d=>by
  rcases c.ok.stk with e|⟨e,f⟩
  ·rw[e];exact d
  ·rw[e];show b∈(X.env::X.outer).filterMap (·.frame);rw[Iz,f];exact GP _ d
 refine⟨⟨λb o e n f i=>?_,λb o e n f i=>?_,c.base.free,λb o e i=>?_,c.base.tups,c.base.frzs,c.base.tbls⟩,λa o e=>?_⟩
 ·exact k b o (c.base.keep b o e n f i) (C b o e f) (.inr ⟨_,e⟩)
 ·obtain⟨sl,l⟩:=c.base.slot b o e n f i;obtain⟨_,B,m,p⟩:=c.funs.mem f;rw[l] at m
  cases m
  obtain⟨D,s⟩:=u b _ l p (v b f);exact⟨D,s⟩
 ·obtain⟨A,l⟩:=c.base.there b o e i;by_cases d:b∈dh X.stack
  ·obtain⟨_,B,m,p⟩:=c.stack.mem d;obtain⟨sl,s⟩:=u b B m p d;exact⟨_,s⟩
  ·exact⟨A,k b A l d (.inr ⟨_,e⟩)⟩
 ·refine(c.hok a o e).stay (λb w d q=>?_) (λ_ q=>q) λ_ _ q=>q;have y:h b≠none:=by
   rcases d with rfl|d
   ·rw[e];exact J8 _
   ·rw[d];exact J8 _
  exact k b w q (λz=>y (c.stkFree b z)) (.inl y)
theorem w5{P:Program}{w:World}{K:PySem.W.Frag}{mg:Str->Option Value}{base:Heap}{N:List Str}{d:Str}{a:Scope}{f:Addr}{l:Value}{A:Around}{outer:List Env}{k:Shared}{H0:Hp}{E:XK}{N':List Str}{sc:Scope}{C:Addr}{fp:List Addr}{i:List (Addr×Obj)}{sB:Shared}{HB:Hp}
  (hB:oK (fq (eh P w) P w K mg base N d a f l A outer k H0 E) C fp i sB HB):mr (eh P w) (km (fq (eh P w) P w K mg base N d a f l A outer k H0 E) N' sc C fp i sB HB) E:=λqq σ H s e t I h=>by
 obtain⟨p,D,a0,O,B,rfl,os,S,un,aB,fl,kB,hn,hW⟩:=h;obtain⟨σB,IB,X,hC⟩:=hB;have Q:=I.call' os un aB S (λb z=>by cases z);show wpAny _ _ (noteFrame (.ref p) (envOfC d a k.heap.objs.size f l)) _ _ t;refine wpAny_looks_onW I.ok.frames rfl fl λh2 Y u2=>?_;have I2:=I.upto Q (λb o e n c=>Y.1 _ _ (kB b o e n c)) u2;obtain⟨m,ns,_⟩:=I2.loc;refine⟨m,ns,λh3 M ni yy=>?_⟩;have v:Inv (fq (eh P w) P w K mg base N d a f l A outer k H0 E) i σB O t:=IB.call' Q.os Q.base Q.hok Q.bare λb c=>⟨(X b c).2.2.2.1,(X b c).2.1,(X b c).2.2.2.2.1,(X b c).2.2.2.2.2⟩
 have nc:∀b∈dh (envOfC d a k.heap.objs.size f l::outer),b≠C:=λb c z=>by
  obtain⟨_,o,ho,_⟩:=I.ok.funs.mem c;have h1:=GS ho;rw[z] at h1;exact absurd (Hj h1 hC) (HW _)
 have nH:O C=none:=I2.free;obtain⟨oC,es,ep,gC,Z⟩:=id ns;have dC:∀j,oC.data≠.fields j:=λj z=>by
  rw[Z.1] at z
  cases z
 have F:∀b o j,h2.get? b=some o->o.data=.fields j->b≠C:=λb o j c x z=>by
  rw[z] at c;rw[show h2.get? C=some oC from gC] at c
  cases c
  exact dC j x
 obtain⟨d1,d2,d3,oe,j,T,oT,ts,ge,gc,gd,v1,nT,Te,gT,dT,t3⟩:=Y;have R:ot (iS B C) (envOfC d a k.heap.objs.size f l::outer) p (.ref D) a0 (rawInt k.heap.objs.size) h3:=by
  refine⟨λb o c=>?_,qv d2,FunFrames.drop M nc d3,oe,j,T,oT,ts,(M.2 p (F p oe j ge gd)).trans ge,gc,gd,v1,qv nT,Te,(M.2 T (F T oT ts gT dT)).trans gT,dT,t3⟩;obtain⟨n,e⟩:=DO c;exact(M.2 b n).trans (d1 b o e)
 have af:h3.get? p=some oe:=(M.2 p (F p oe j ge gd)).trans ge;unfold PySem.passOn;refine GD (IJ (s:={ t with heap:=h3 }) af gd v1 ?_);rw[GY (by simp)];refine GD (Dr (s:={ t with heap:=h3 }) R λg R2 u3=>wpAny_throw ?_);refine E5 (s:={ t with heap:=g }) I.ok.frames rfl R2 λg2 ae u4=>?_;have up:∀b o,t.heap.get? b=some o->(∀j,o.data≠.fields j)->b≠C->∃sl,g2.get? b=some { o with slots:=sl }:=λb o c x am=>by
  obtain⟨s1,U⟩:=u2 b o c x;have e2:=(M.2 b am).trans U;obtain⟨s2,e3⟩:=u3 b _ e2 x;obtain⟨s3,e4⟩:=u4 b _ e3 x;exact⟨s3,e4⟩
 have kp:∀b o,t.heap.get? b=some o->b∉dh (envOfC d a k.heap.objs.size f l::outer)->(O b≠none\/∃u,k.heap.get? b=some u)->b≠C/\B.get? b=some o:=λb o c nf L=>by
  rcases L with L|⟨u,J⟩
  ·exact⟨λz=>L (by rw[z];exact nH),kB b o c nf (.inl L)⟩
  ·have ag:b<k.heap.objs.size:=GS J;obtain⟨oB,eB⟩:=IB.base.there b u J (by intro z;cases z);have nC:b≠C:=λz=>by
    have h1:=GS eB;rw[z] at h1;exact absurd (Hj h1 hC) (HW _)
   have ah:b∉fp:=λz=>by
    rcases(X b z).2.2.2.1 with y|y
    ·cases y
    ·exact absurd (Hj ag y) (HW _)
   obtain⟨G,U⟩:=I.base.there b oB eB ah;exact⟨nC,kB b o c nf (.inr ⟨G,U⟩)⟩
 obtain⟨ak,aa⟩:=Ep (g:=g2) v (λb o c nf L=>by
  obtain⟨n1,n2⟩:=kp b o c nf L;exact ae.1 b o (by rw[nQ n1];exact n2)) λb o c x hf=>up b o c x (nc b hf)
 refine⟨p,D,a0,O,iS B C,rfl,v.os,v.bare,ak,aa,ae,λb o q hf c=>?_,hn,hW⟩;have ai:b∉dh (envOfC d a k.heap.objs.size f l::outer):=λz=>by
  rcases c with c|⟨u,J⟩
  ·exact c (v.stkFree b z)
  ·rcases GI.mp (v.stkSub b z) with r|r
   ·have h1:=GS J;rw[r] at h1;exact absurd h1 (HW _)
   ·exact hf r
 have aj:∃G,t.heap.get? b=some G:=by
  rcases c with c|⟨u,J⟩
  ·cases hq:O b with
   |none=>exact absurd hq c
   |some ho=>exact rQ (v.hok b ho hq)
  ·exact v.base.there b u J (by intro z;cases z)
 obtain⟨G,U⟩:=aj;obtain⟨n1,n2⟩:=kp b G U ai c;have b1:(iS B C).get? b=some G:=by
  rw[nQ n1];exact n2
 have e2:=ae.1 b G b1;rw[q] at e2
 cases e2
 exact b1
def oQ(X:Cx)(a:List (Addr×Obj))(g:St)(W:XK):Value->Shared->Prop:=λe f=>∃(H:Hp)(s:Shared)(c:Hp)(d D:Addr)(h:Value)(B:Heap),e=.ref d/\Inv X a g H s/\Inv X a g c f/\Heap.FlyingW B X.stack d (.ref D) h f.heap /\
 (∀b o,f.heap.get? b=some o->b∉dh X.stack->(c b≠none\/∃u,s.heap.get? b=some u)->B.get? b=some o)/\c d=none/\W (.ref D) none c
abbrev Cx.tryS(X:Cx)(pins:List (Addr×Obj))(σ:St)(W:XK):Cx:=(X.tryX pins W).wish (oQ X pins σ W)
def AY(i:Nat)(W:XK)(K:PySem.W.Frag)(C:Addr)(g:TE)(h:TS):TS:=λD d H=>g d H (λ_ a=>D.nx d a)/\∀(a:Hp)(c b:Addr),W (.ref b) none a->a c=none ->
 PySem.W.excIn K b gr fY=true/\jS K b C=true/\h { nx:=λe f=>D.nx (e.set i none) f,rt:=λ_ _=>False } (d.set i (some (.ref c))) (upd a c (.ext (h7 c b)))
theorem DF{X:Cx}{l:List Stmt}{b0:Stmt}{x n:Str}{i:Nat}{C:Addr}{ts:TS}{k:Nat}{f:Addr}{fd:FuncData}{ps:List Str}{sp:Sp}{p:List V}{U:List Value}{G:Str}{e:Expr}{y:List Expr}{t:TA}{fp T d:Pos}{W:XK}{np Y LS:Pos}(Z:X.stack=X.env::X.outer)(yy:X.env.frame=some X.env.locals)(F:cC X.prog X.w X.K X.mg X.base (eh X.prog X.w) k f fd ps sp)(hr:Room k X.A)(zz:Gl X G)(LO:X.mg G=some (.ref f))(LM:PySem.W.keepIn X.K (.ref f)=true)(aB:Binds X.K fd ps U)(qq:Vals p U)(ha:∀a σ0,PA (X.tryS a σ0 W) (e::y) t)(hg:Gl X x)(hm:X.mg x=some (.ref C))(hC:PySem.W.excIn X.K C gr fY=true)
  (hN:X.N.Nodup) (hi:X.N[i]?=some n) (hk:X.env.kindOf n=some .local) (hl:kn X.env.scope n) (hs:∀c,PSs (X.markX c) (b0::l) ts) (hf:X.fn n=true\/X.env.scope.names.lookup n=some .local:=by first|exact .inl rfl|exact .inr rfl|assumption) (hd:(x==("__debug__" : Str))=false:=by decide) (LR:swapsWith (.Call (.Name G fp) (e::y) [] T) none d.line X.env=pure false:=by rfl) (ni:(G==("__debug__" : Str))=false:=by decide) (LQ:starEach (e::y) X.env=(false,eval e X.env)::starEach y X.env:=by rfl) (LP:(backTo T (starEach y X.env)).any (·.1)=false:=by rfl):
  PS X (.Try [.Expr (.Call (.Name G fp) (e::y) [] T) d] [.ExceptHandler (some (.Name x np)) (some n) (b0::l) Y] [] [] LS) (AY i W X.K C (oA sp p W t) ts):=by
 intro a s g H D I h;have az:wpAny (model X.prog X.w) X.A (exec (.Expr (.Call (.Name G fp) (e::y) [] T) d) X.env) (SP (X.tryS a g W) [] D) (oQ X a g W) s:=by
  refine wpAny_Expr_any (bZ (Q:=EP (X.tryS a g W) [] g λ_ H'=>D.nx g H') ?_ λv O ⟨x,P,j,r1,q1⟩=>⟨g,P,j,q1⟩) I.quiet LR;have S:Inv (X.tryS a g W) [] g H s:=(I.toTry W).wish _;refine JC (mh (X:=X.tryS a g W) S zz LO ?_ ni);refine PySem.W.callWith_K (h₀:=X.base) I.ok.mod.kin LM (bZ (ha a g T [] s g H _ S h.1) λus O ⟨vs,P,j,r,q⟩=>⟨j.kIn,?_⟩) LQ LP;have r2:Vals (vs++p) (us++U):=r.append qq;have ax:(us++U).length=ps.length:=by rw[<-r2.length];exact F.len _ _ _ _ q
  refine wpAny_call (J4 (F.run X.A X.stack O P ⟨us,[]⟩ (us++U) (vs++p) _ W hr j.env0 (aB O us j.kIn ax) r2 q) λr s' L=>?_)
  cases r with
  |error e=>
   obtain⟨c,D',a0,H',B,rfl,os,ah,un,au,E,kB,hn,hW⟩:=L;have J:=j.unwish.ofTry;exact⟨P,O,H',c,D',a0,B,R,J,J.call' os un au ah (λb z=>by cases z),E,kB,hn,hW⟩
  |ok E=>
   cases E with
   |ret u=>exact j.after L
   |next=>exact False.elim L
   |brk=>exact False.elim L
   |cont=>exact False.elim L
 have ag:wpAny (model X.prog X.w) X.A (execs [.Expr (.Call (.Name G fp) (e::y) [] T) d] X.env) (SP (X.tryS a g W) [] D) (oQ X a g W) s:=by
  refine Lu (bZ az λf O q=>?_)
  cases f with
  |next=>exact Ki q
  |ret v=>exact q
  |brk=>exact q
  |cont=>exact q
 refine wpAny_Try_except (IR ag (λf O q=>?_) λe O q=>?_)
 ·have q':=q.unwish
  cases f with
  |next=>exact Ki (SP.ofTry q')
  |brk=>exact SP.ofTry q'
  |cont=>exact SP.ofTry q'
  |ret u=>exact SP.ofTry q'
 obtain⟨H0,s0,P,c,Dc,a0,B,rfl,S,j,E,kB,aj,hW⟩:=q;obtain⟨r1,r2,r3⟩:=h.2 P c Dc hW aj;rw[Z] at E;have av:s0.heap.get? c=none:=by
  cases L:s0.heap.get? c with
  |none=>rfl
  |some u=>
   obtain⟨oe,vs,_,_,_,he,_,aA,_⟩:=E.2.2.2;have aw:c∉dh X.stack:=λz=>by
    obtain⟨_,o2,e2,d2⟩:=j.stack.mem z;rw[he] at e2
    cases e2
    exact d2 vs aA
   have:=kB c oe he aw (.inr ⟨u,L⟩);rw[E.2.1] at this
   cases this
 refine wpAny_looks_onW (by rw[<-Z];exact I.ok.frames) yy E λh2 ay u2=>?_;refine wpAny_landsW ay λh3 af u3=>?_;have I3:=S.upto j (λb o e n hb=>af.1 _ _ (kB b o e n hb)) (u2.trans u3);obtain⟨bC,xC⟩:=XCls.mk' I3.kIn hC;obtain⟨bD,xD⟩:=XCls.mk' I3.kIn r1;obtain⟨oe,he,ae⟩:=af.there;refine wpAny_handleBy_cons (codeAny_handlers_test (mh (I3.toMark c) hg hm ?_ hd)) (by intro q;cases q);refine CT xC xD he ae (zd I3.kIn xD r2) ?_;refine codeAny_handlers_suite_as ?_;refine lands_againW af λh4 ai u4=>?_;have I4:=S.upto j (λb o e n hb=>ai.1 _ _ (kB b o e n hb)) ((u2.trans u3).trans u4);obtain⟨am,ao,aa⟩:=ai.there;have I5:=S.track (o:=.ext (h7 c Dc)) I4 aj av ⟨⟨am,ao,aa⟩,⟨am,ao⟩,λg1 g2 ⟨ob,e1,e2⟩ k=>⟨ob,k ob e1,e2⟩⟩;refine qV I5 hN hi hl (show RelV (.ref c) (.ref c) from rfl) (λs5 I6=>?_) hf;refine IR (hs c a s5 _ _ _ (I6.toMark c) r3) (λf s6 q=>?_) λ_ _ z=>False.elim z
 cases f with
 |next=>
  obtain⟨σ7,H7,I7,M⟩:=q;obtain⟨m,ak,_⟩:=id I7.loc;exact wpAny_nameGoes_keeps hk ak (by rw[I.ok.kind];rfl) λh8 v ar aq=>⟨_,H7,(I7.ofMark I.ok.hd).gone hN hi hk ak ar aq,M⟩
 |brk=>obtain⟨_,_,_,M⟩:=q;exact False.elim M
 |cont=>obtain⟨_,_,_,M⟩:=q;exact False.elim M
 |ret u=>obtain⟨_,_,_,_,_,M⟩:=q;exact False.elim M
end L2
namespace Ow
open PySem L2 Wd PySem.W.KIN PySem.NumText PyProof.Rows PySem.Calls PySem.W
theorem wH:∀(cs:List Nat)(a k:Nat),(∀c∈cs,48<=c/\c<=57)->a<10^k->cs.foldl (λn c=>n*10+(c-48)) a<10^(k+cs.length)
 |[],a,k,_,h=>h
 |c::cs,a,k,h,ha=>by
  have d:=h c GM;rw[Lx,GN,show k+(cs.length+1)=k+1+cs.length by omega];refine wH cs _ (k+1) (λx b=>h x (GP _ b)) ?_;rw[Nat.pow_succ];omega
theorem An{c:Nat}(h:c<128)(i:jw c gW=true):48<=c/\c<=57:=by
 have z:∀d:Fin 128,jw d.val gW=true->48<=d.val/\d.val<=57:=by decide +kernel
 exact z ⟨c,h⟩ i
theorem vK{z:Str}(h:dm z):∀c∈z.cps.toList,c<128:=λc a=>GJ (Jx.mp h.1 c (JH.mp a))
theorem Eh{z:Str}(h:dm z):z.cps.toList.length<=1000:=by
 rw[HH];exact h.2
theorem ue{z:Str}(h:dm z):(ff z=z/\(∀cs,z≠dH (45::cs)))\/∃cs,z=dH (45::cs)/\ff z=dH cs:=by
 have e:=kf (z:=z) rfl
 cases q:z.cps.toList with
 |nil=>
  rw[q] at e
  left
  rw[e];refine⟨by decide +kernel,λcs y=>?_⟩;have:=ID (λz:Str=>z.cps.toList) y;simp only[fT] at this
  cases this
 |cons c cs=>
  rw[q] at e;by_cases a:c=45
  ·right
   subst a;exact⟨cs,e,by rw[e];exact rk cs⟩
  ·left
   rw[e];refine⟨lU a,λb y=>?_⟩;have:=ID (λz:Str=>z.cps.toList) y;simp only[fT] at this;injection this with t _;exact a t
theorem uj{z:Str}(h:dm z):dm (ff z):=by
 rcases ue h with⟨e,_⟩|⟨g,e,d⟩
 ·rw[e];exact h
 ·rw[d];have a:=vK h;have b:=Eh h;rw[e,fT] at a b;rw[GN] at b;exact nO (λc f=>a c (GP _ f)) (by omega)
theorem wU{z:Str}(p:dm z)(h:gM z=true):∃n:Int,PySem.intText? z=some n/\n.natAbs<10^60/\z.length<=61:=by
 have o:=uj p;unfold gM at h;rw[Ha,Ha] at h;obtain⟨⟨l,m⟩,_⟩:=h;obtain⟨q,f⟩:=GJ l;have a:∀c∈(ff z).cps.toList,48<=c/\c<=57:=λc i=>An (vK o c i) (Hv.mp m c i);have j:(ff z).cps.toList.length=(ff z).length:=HH;have b:(ff z).cps.toList≠[]:=λy=>by
  rw[y] at j;simp at j;omega
 have k:=wH (ff z).cps.toList 0 0 a (by decide);have dU:(ff z).cps.toList.foldl (λn c=>n*10+(c-48)) 0<10^60:=Hj k (J1 (by decide) (by omega));rcases ue p with⟨e,_⟩|⟨d,e,g⟩
 ·rw[e] at a b dU f;exact⟨_,intText_digits a b (by omega),by rw[K3];exact dU,by omega⟩
 ·rw[g,fT] at a b dU;rw[g,iA] at f;have r:z.length=d.length+1:=by rw[e,iA,GN]
  refine⟨_,intText_neg (x:=z) (cs:=d) (by rw[e,fT]) a b (by omega),?_,by omega⟩;rw[Int.natAbs_neg,K3];exact dU
def dw(ns:List Str)(w:Str):Option Nat:=if ns.contains w=true then some (ns.idxOf w) else none
def cN(w:Str):Option Int:=if gM w=true then PySem.intText? w else none
def c9(ns ws:List Str):Option (List Nat):=if ws≠[]/\(∀w∈ws,w∈ns)/\(ws.map ns.idxOf).Pairwise (·<·) then some (ws.map ns.idxOf) else none
def ef(lo hi:Int)(m:Nat):List Str:=if lo=m/\hi=m then ["must"] else if lo=0/\hi=m then ["may"] else if lo=1/\hi=1 then ["one"] else ["from",bX lo, "to",bX hi]
def du(ws:List Str)(m:Nat):Option (Int×Int):=
 if ws=(["must"]:List Str) then some (m,m) else if ws=(["may"]:List Str) then some (0,m) else if ws=(["one"]:List Str) then some (1,1)
 else if ws.getD 0 "" = "from" /\ ws.getD 2 "" = "to" then (cN (ws.getD 1 "")).bind λa=>(cN (ws.getD 3 "")).map λb=>(a,b) else none
def cV(ws:List Str):Nat:=if (ws.drop 1).take 1=(["from"]:List Str) then 5 else 2
def dQ(ns ws:List Str):Option Bg:=
 (dw ns (ws.getD 0 "")).bind λu=>(c9 ns (ws.drop (cV ws))).bind λa=>(du ((ws.drop 1).take (cV ws-1)) a.length).bind λb=>
  if ef b.1 b.2 a.length=(ws.drop 1).take (cV ws-1) then some ⟨u,b.1,b.2,a⟩ else none
def eI:List Str->Option (List Int)
 |[]=>some []
 |w::ws=>(cN w).bind λn=>(eI ws).map λr=>n::r
def eW(ns ws:List Str):Option Tie:=
 if ws.length<5\/ws.length%2=0\/ws.getD 2 "" ≠ "of" then none
 else (eI (cJ (ws.drop 3))).bind λa=>(c9 ns (cJ (ws.drop 4))).bind λb=>(cN (ws.getD 1 "")).map λtop=>.most top (b.zip a)
def eF(ns ws:List Str):Option Tie:=
 if ws.getD 0 "" = "most" then eW ns ws
 else (dw ns (ws.getD 0 "")).bind λa=>(dw ns (ws.getD 2 "")).map λb=>if ws.getD 1 "" = "needs" then .needs a b else .bans a b
def eL(ws:List Str):Option (List Str):=if ws.getD 0 "" = "ware" /\ ws.drop 1≠[]/\(ws.drop 1).all dA=true/\(ws.drop 1).Nodup then some (ws.drop 1) else none
def cz(ns:List Str):List (List Str)->List Bg->List Tie->Option (List Bg×List Tie)
 |[],B,C=>some (B,C)
 |ws::r,B,C=>if dq ws=true then (eF ns ws).bind λt=>cz ns r B (C++[t]) else if C≠[] then none else (dQ ns ws).bind λb=>cz ns r (B++[b]) C
theorem gL{ns:List Str}:∀(a b:List (List Str))(B:List Bg)(C:List Tie),cz ns (a++b) B C=(cz ns a B C).bind λp=>cz ns b p.1 p.2
 |[],b,B,C=>rfl
 |ws::r,b,B,C=>by
  show(if dq ws=true then (eF ns ws).bind λt=>cz ns (r++b) B (C++[t]) else if C≠[] then none else (dQ ns ws).bind λx=>cz ns (r++b) (B++[x]) C)=(if dq ws=true then (eF ns ws).bind λt=>cz ns r B (C++[t]) else if C≠[] then none else (dQ ns ws).bind λx=>cz ns r (B++[x]) C).bind λp=>cz ns b p.1 p.2
  split
  ·cases eF ns ws with
   |none=>rfl
   |some t=>exact gL r b B (C++[t])
  split
  ·rfl
  ·cases dQ ns ws with
   |none=>rfl
   |some x=>exact gL r b (B++[x]) C
def jo(a:List (List Str)):Option (List Str×List Bg×List Tie):=(eL (a.getD 0 [])).bind λb=>(cz b (a.drop 1) [] []).map λp=>(b,p.1,p.2)
structure TextL(ls:List (List Str)):Prop where
 ne:ls≠[]
 nel:∀ws∈ls,ws≠[]
 whole:∀ws∈ls,∀z∈ws,jO z
 plain:∀ws∈ls,∀z∈ws,dm z
 len:∀ws∈ls,∀z∈ws,z.length<=100
 few:ls.length<=40
 fewl:∀ws∈ls,ws.length<=60
 first:(ls.getD 0 []).length<=11
def lq(a:List (List Str)):Str:=Str.join "\n" (a.map (Str.join " "))
theorem TextL.line{b:List (List Str)}(h:TextL b){ws:List Str}(a:ws∈b):(Str.join " " ws).length<=10000/\Txt.split (Str.join " " ws) " " = ws:=by
 refine⟨?_,ku (c:=32) (h.nel ws a) λz e=>(h.whole ws a z e).2⟩;have f:=gD (h.len ws a);have g:=h.fewl ws a;have d:=Ic (" " : Str) ws;rw[show((" " : Str)).length=1 from rfl] at d;omega
theorem TextL.text{a:List (List Str)}(h:TextL a):(lq a).length<=1000000/\Txt.split (lq a) "\n" = a.map (Str.join " "):=by
 constructor
 ·have i:=gD (b:=10000) (ws:=a.map (Str.join " ")) λz d=>by
   obtain⟨g,f,rfl⟩:=Hc.mp d;exact(h.line f).1
  have:=Ic ("\n" : Str) (a.map (Str.join " "));have j:=h.few;rw[Gz] at i this;rw[show(("\n"):Str).length=1 from rfl] at this;unfold lq;omega
 ·refine ku (c:=10) (λz=>h.ne (JJ.mp z)) λz d=>?_;obtain⟨g,f,rfl⟩:=Hc.mp d;exact qL (e:=32) (by decide) λz d=>(h.whole g f z d).1
def jr(D:Addr)(H:Hp)(E:XK)(b:Prop):Prop:=b->∀a,Same H a->E (.ref D) none a
def ES(D:Addr):Sp:=λb H Q E=>∃z:Str,b=[.str z]/\dm z/\(∀n,cN z=some n->∀a,Same H a->Q (.int n) a)/\jr D H E (cN z=none)
def zG(D:Addr):Sp:=λb H Q E=>∃(l:Addr)(a:List Str)(z:Str),b=[.ref l,.str z]/\H l=some (.lst (bF a))/\a.length<=60/\(∀k:Nat,dw a z=some k->Q (.int (k:Int)) H)/\jr D H E (dw a z=none)
def vC(D:Addr):Sp:=λd H Q E=>∃(l:Addr)(a:List Str),d=[.ref l]/\H l=some (.lst (bF a))/\a≠[]/\a.length<=60/\(∀z∈a,dm z)/\(∀c,eL a=some c->∀(p:Addr)(b:Hp),Same H b->H p=none->b p=some (.lst (bF c))->Q (.ref p) b)/\jr D H E (eL a=none)
def yr(D:Addr):Sp:=λf H Q E=>∃(l e:Addr)(a b:List Str),f=[.ref l,.ref e]/\H l=some (.lst (bF a))/\H e=some (.lst (bF b))/\a.length<=10/\b.length<=60 /\
 (∀d,c9 a b=some d->∀(p:Addr)(c:Hp),Same H c->H p=none->c p=some (.lst (cq d))->Q (.ref p) c)/\jr D H E (c9 a b=none)
def D5:Sp:=λb H Q _=>∃(lo a:Int)(m:Nat),b=[.int lo,.int a,.int (m:Int)]/\lo.natAbs<10^60/\a.natAbs<10^60/\∀p,H p=none->Q (.ref p) (upd H p (.lst (bF (ef lo a m))))
def Es(D:Addr):Sp:=λd H Q E=>∃(l:Addr)(a:List Str)(m:Nat),d=[.ref l,.int (m:Int)]/\H l=some (.lst (bF a))/\(∀z∈a,dm z)/\a≠[]/\a.length<=60/\(a.getD 0 "" = "from" -> a.length=4)/\m<=60 /\
 (∀b,du a m=some b->∀(p:Addr)(c:Hp),Same H c->H p=none->c p=some (.tup [.int b.1,.int b.2])->Q (.ref p) c)/\jr D H E (du a m=none)
def we(D:Addr):Sp:=λf H Q E=>∃(l e:Addr)(c a:List Str),f=[.ref l,.ref e]/\H l=some (.lst (bF c))/\H e=some (.lst (bF a))/\c.length<=10/\a≠[]/\a.length<=60/\(∀z∈a,dm z) /\
 (∀b,dQ c a=some b->∀(v:V)(d:Hp),Same H d->Dn d b.tie.toD v->Q v d)/\jr D H E (dQ c a=none)
def y4(D:Addr):Sp:=λe H Q E=>∃(l d:Addr)(b a:List Str),e=[.ref l,.ref d]/\H l=some (.lst (bF b))/\H d=some (.lst (bF a))/\b.length<=10/\a≠[]/\a.length<=60/\(∀z∈a,dm z) /\
 (∀t,eW b a=some t->∀(v:V)(c:Hp),Same H c->Dn c t.toD v->Q v c)/\jr D H E (eW b a=none)
def xA(D:Addr):Sp:=λe H Q E=>∃(l d:Addr)(b a:List Str),e=[.ref l,.ref d]/\H l=some (.lst (bF b))/\H d=some (.lst (bF a))/\b.length<=10/\a≠[]/\a.length<=60/\(∀z∈a,dm z)/\dq a=true /\
 (∀t,eF b a=some t->∀(v:V)(c:Hp),Same H c->Dn c t.toD v->Q v c)/\jr D H E (eF b a=none)
def wP(e f:Addr):Sp:=λg H Q E=>∃a:List (List Str),g=[.str (lq a)]/\TextL a/\jr e H E (jo a=none)/\(∀d B C,jo a=some (d,B,C)->(B.flatMap Bg.ks).length<=60/\¬jh (.int (d.length:Int)) (.list (B.map λb=>b.tie.toD)) (.list (C.map Tie.toD))/\∀c,Same H c->E (.ref f) none c)
theorem tX:∀{ns ks:List Str},ks.Nodup->(∀k∈ks,k∈ns)->¬ns.Nodup->ks.length<ns.length
 |[],_,_,_,h=>absurd LF h
 |x::r,ks,h1,h2,h3=>by
  by_cases m:x∈r
  ·have:=h1.length_le_of_subset (l₂:=r) λk c=>by
    rcases GI.mp (h2 k c) with q|q
    ·rw[q];exact m
    ·exact q
   rw[GN];omega
  ·have d:¬r.Nodup:=λz=>h3 (Jk.mpr ⟨m,z⟩);have:=tX (ns:=r) (ks:=ks.erase x) (h1.erase x) (λk c=>by
    have b:=(List.Nodup.mem_erase_iff h1).mp c;exact(GI.mp (h2 k b.2)).resolve_left b.1) d
   have l:=List.length_erase (a:=x) (l:=ks);rw[GN]
   split at l<;>omega
theorem Gv{ks ns:List Str}(h1:ks.Nodup)(h:∀k,k∈ks↔k∈ns)(b:ns.length<=ks.length):ns.Nodup:=by
 by_cases z:ns.Nodup
 ·exact z
 ·have:=tX h1 (λk a=>(h k).mp a) z;omega
theorem rK(xs:List V){a b:Nat}(h:a<=b):dS xs (some (a:Int)) (some (b:Int))=(xs.drop a).take (b-a):=by
 unfold dS;rw[HT.sIx_nat,HT.sIx_nat];by_cases c:a<=xs.length
 ·rw[Jr c];by_cases d:b<=xs.length
  ·rw[Jr d]
  ·rw[JN (by omega),HC (by rw[Hd];omega),HC (by rw[Hd];omega)]
 ·rw[JN (show xs.length<=a by omega),Jt (GW _),Jt (by omega),Li,Li]
theorem rh(ws:List Str)(a n:Nat):((bF ws).drop a).take n=bF ((ws.drop a).take n):=by
 unfold bF;rw[<-Jb,<-II]
theorem kD(ws:List Str)(a:Nat):(bF ws).drop a=bF (ws.drop a):=by
 unfold bF;rw[<-Jb]
theorem uu(ws:List Str)(k:Nat):cJ ((bF ws).drop k)=bF (cJ (ws.drop k)):=by
 rw[kD];unfold bF;exact ur V.str _
theorem nI{a:Type}:∀l:List a,(cJ l).length=(l.length+1)/2
 |[]=>by
  show 0=(0+1)/2;decide
 |[x]=>by
  show 1=(1+1)/2;decide
 |x::y::r=>by
  show(cJ r).length+1=(r.length+1+1+1)/2;rw[nI r];omega
theorem uz{c:Type}:∀{l:List c} {x:c},x∈cJ l->x∈l
 |[],_,h=>h
 |[y],_,h=>h
 |a::b::r,x,h=>by
  rcases GI.mp h with q|q
  ·rw[q];exact GM
  ·exact GP _ (GP _ (uz q))
theorem uJ{z:Str}{n:Int}(p:dm z)(h:cN z=some n):n.natAbs<10^60:=by
 unfold cN at h
 split at h
 ·rename_i c
  obtain⟨d,a,b,_⟩:=wU p c;rw[a] at h
  cases h
  exact b
 ·cases h
theorem Dy{ws:List Str}{ns:List Int}(i:Nat)(z:Str)(n:Int)(h1:eI (ws.take i)=some ns)(h:ws[i]?=some z)(j:cN z=some n):eI (ws.take (i+1))=some (ns++[n]):=by
 have e:∀(a b:List Str)(x y:List Int),eI a=some x->eI b=some y->eI (a++b)=some (x++y):=by
  intro a
  induction a with
  |nil=>
   intro b x y d f
   cases d
   exact f
  |cons w a ih=>
   intro b x y d f;have c:((cN w).bind λn=>(eI a).map λr=>n::r)=some x:=d
   cases q:cN w with
   |none=>
    rw[q] at c
    cases c
   |some m=>
    rw[q] at c
    cases g:eI a with
    |none=>
     rw[g] at c
     cases c
    |some r=>
     rw[g] at c
     cases c
     show((cN w).bind λn=>(eI (a++b)).map λr=>n::r)=_;rw[q,ih b r y g f]
     rfl
 rw[HQ,h];refine e _ _ _ _ h1 ?_;show((cN z).bind λn=>(eI []).map λr=>n::r)=_;rw[j]
 rfl
theorem uD{ws:List Str}{z:Str}(h:z∈ws)(a:cN z=none):eI ws=none:=by
 induction ws with
 |nil=>cases h
 |cons w ws ih=>
  show((cN w).bind λn=>(eI ws).map λr=>n::r)=none;rcases GI.mp h with q|q
  ·rw[<-q,a]
   rfl
  ·rw[ih q]
   cases cN w<;>rfl
theorem qQ:∀{ws:List Str} {ns:List Int},eI ws=some ns->ns.length=ws.length
 |[],_,h=>by
  cases h
  rfl
 |w::ws,ns,h=>by
  have h':((cN w).bind λn=>(eI ws).map λr=>n::r)=some ns:=h
  cases q:cN w with
  |none=>
   rw[q] at h'
   cases h'
  |some m=>
   rw[q] at h'
   cases a:eI ws with
   |none=>
    rw[a] at h'
    cases h'
   |some r=>
    rw[a] at h'
    cases h'
    rw[GN,GN,qQ a]
theorem CF{ws:List Str}{m:Nat}{b:Int×Int}(p:∀z∈ws,dm z)(f:m<=60)(h:du ws m=some b):b.1.natAbs<10^60/\b.2.natAbs<10^60:=by
 have a:((m:Nat):Int).natAbs<10^60:=iz (by omega);have d:∀k,dm (ws.getD k ""):=λk=>by
  rw[He]
  cases e:ws[k]? with
  |none=>exact⟨by decide +kernel,by decide +kernel⟩
  |some z=>exact p z (GO e)
 unfold du at h
 split at h
 ·cases h
  exact⟨a,a⟩
 split at h
 ·cases h
  exact⟨(by decide:(0:Int).natAbs<10^60),a⟩
 split at h
 ·cases h
  exact⟨by decide,by decide⟩
 split at h
 ·cases q:cN (ws.getD 1 "") with
  |none=>
   rw[q] at h
   cases h
  |some x=>
   rw[q] at h
   cases c:cN (ws.getD 3 "") with
   |none=>
    rw[c] at h
    cases h
   |some y=>
    rw[c] at h
    cases h
    exact⟨uJ (d 1) q,uJ (d 3) c⟩
 ·cases h
theorem CD{lo hi:Int}{m:Nat}(c:lo.natAbs<10^60)(d:hi.natAbs<10^60):fS (ef lo hi m):=by
 have b:∀s∈(["must", "may", "one", "from", "to"]:List Str),PyData.strOk s=true:=by decide +kernel
 unfold ef
 split
 ·exact λx a=>b x (by rw[GE.mp a];decide)
 split
 ·exact λx a=>b x (by rw[GE.mp a];decide)
 split
 ·exact λx a=>b x (by rw[GE.mp a];decide)
 intro x a;simp only[GI,Hs,Iw] at a;rcases a with rfl|rfl|rfl|rfl
 ·exact b _ (by decide)
 ·exact kC (gH c).1
 ·exact b _ (by decide)
 ·exact kC (gH d).1
theorem uQ{ns ws:List Str}{ks:List Nat}(h:c9 ns ws=some ks):ks.length=ws.length:=by
 unfold c9 at h
 split at h
 ·cases h
  rw[Gz]
 ·cases h
theorem uk{ns ws:List Str}{b:Bg}(h:dQ ns ws=some b):b.ks.length<=ws.length:=by
 unfold dQ at h
 cases q:dw ns (ws.getD 0 "") with
 |none=>
  rw[q] at h
  cases h
 |some u=>
  rw[q] at h
  cases d:c9 ns (ws.drop (cV ws)) with
  |none=>
   rw[d] at h
   cases h
  |some ks=>
   rw[d] at h;have a:((du ((ws.drop 1).take (cV ws-1)) ks.length).bind λb=>if ef b.1 b.2 ks.length=(ws.drop 1).take (cV ws-1) then some (⟨u,b.1,b.2,ks⟩:Bg) else none)=some b:=h
   cases e:du ((ws.drop 1).take (cV ws-1)) ks.length with
   |none=>
    rw[e] at a
    cases a
   |some x=>
    rw[e] at a;have c:(if ef x.1 x.2 ks.length=(ws.drop 1).take (cV ws-1) then some (⟨u,x.1,x.2,ks⟩:Bg) else none)=some b:=a
    split at c
    ·cases c
     have:=uQ d;rw[Hd] at this;show ks.length<=_;omega
    ·cases c
theorem DI{ns ws:List Str}{t:Tie}(h:eF ns ws=some t):(∃a b,t=.needs a b\/t=.bans a b)\/∃top d,t=.most top d/\d.length<=ws.length:=by
 unfold eF at h
 split at h
 ·right
  unfold eW at h
  split at h
  ·cases h
  ·cases q:eI (cJ (ws.drop 3)) with
   |none=>
    rw[q] at h
    cases h
   |some nums=>
    rw[q] at h
    cases c:c9 ns (cJ (ws.drop 4)) with
    |none=>
     rw[c] at h
     cases h
    |some ks=>
     rw[c] at h
     cases e:cN (ws.getD 1 "") with
     |none=>
      rw[e] at h
      cases h
     |some top=>
      rw[e] at h
      cases h
      refine⟨top,_,R,?_⟩;have i:=uQ c;have g:=nI (ws.drop 4);rw[Hd] at g;rw[List.length_zip];omega
 ·left
  cases q:dw ns (ws.getD 0 "") with
  |none=>
   rw[q] at h
   cases h
  |some x=>
   rw[q] at h
   cases c:dw ns (ws.getD 2 "") with
   |none=>
    rw[c] at h
    cases h
   |some y=>
    rw[c] at h;have f:(if ws.getD 1 "" = "needs" then Tie.needs x y else .bans x y)=t:=HI h;rw[<-f]
    split
    ·exact⟨x,y,.inl rfl⟩
    ·exact⟨x,y,.inr rfl⟩
theorem va{ns ws:List Str}{t:Tie}(h:eF ns ws=some t)(e:ws.length<=60):cI 3 t.toD=true/\ka t.toD:=by
 rcases DI h with⟨x,y,rfl|rfl⟩|⟨top,c,rfl,b⟩
 ·refine⟨?_,trivial⟩;show(true&&(cI 2 (.str "needs")&&(true&&(true&&true))))=true;rw[show cI 2 (.str "needs")=true from qk]
  rfl
 ·refine⟨?_,trivial⟩;show(true&&(cI 2 (.str "bans")&&(true&&(true&&true))))=true;rw[show cI 2 (.str "bans")=true from qu]
  rfl
 ·refine⟨qK (m:=60) ?_ ?_,?_⟩
  ·rw[Hv];intro d a;obtain⟨p,_,rfl⟩:=Hc.mp a
   rfl
  ·rw[Gz];omega
  ·show(c.map Wd.pairD).length<=_;rw[Gz];exact Hm b (by omega)
structure GoOk(ns:List Str)(B:List Bg)(C:List Tie)(i:Nat):Prop where
 few:B.length+C.length<=i
 ks:∀b∈B,b.ks.length<=60
 fl:∀t∈C,cI 3 t.toD=true/\ka t.toD
theorem GoOk.nil{ns:List Str}:GoOk ns [] [] 0:=⟨GW _,(λ_ h=>nomatch h),(λ_ h=>nomatch h)⟩
section
variable{ns ws:List Str}{B:List Bg}{C:List Tie}{i:Nat}
theorem GoOk.tie{t:Tie}(g:GoOk ns B C i)(h:eF ns ws=some t)(a:ws.length<=60):GoOk ns B (C++[t]) (i+1):=by
 have f:=g.few;refine⟨by rw[GC];show B.length+(C.length+1)<=_;omega,g.ks,λu b=>?_⟩;rcases GL.mp b with q|q
 ·exact g.fl u q
 ·rw[GE.mp q];exact va h a
theorem GoOk.bough{b:Bg}(g:GoOk ns B C i)(h:dQ ns ws=some b)(c:ws.length<=60):GoOk ns (B++[b]) C (i+1):=by
 have f:=g.few;refine⟨by rw[GC];show B.length+1+C.length<=_;omega,λu a=>?_,g.fl⟩;rcases GL.mp a with q|q
 ·exact g.ks u q
 ·rw[GE.mp q];have:=uk h;omega
theorem GoOk.flatB(g:GoOk ns B C i):(B.map λb=>b.tie.toD).all (cI 3)=true:=by
 rw[Hv];intro d c;obtain⟨b,a,rfl⟩:=Hc.mp c;exact nq (by have:=g.ks b a;omega)
theorem GoOk.flatC(g:GoOk ns B C i):(C.map Tie.toD).all (cI 3)=true:=by
 rw[Hv];intro d a;obtain⟨t,b,rfl⟩:=Hc.mp a;exact(g.fl t b).1
theorem GoOk.fewC(g:GoOk ns B C i)(d:i<=40):sR (.list (C.map Tie.toD)):=λf e=>by
 cases e
 have:=g.few;refine⟨by rw[Gz];omega,λc a=>?_⟩;obtain⟨t,b,rfl⟩:=Hc.mp a;exact(g.fl t b).2
theorem GoOk.fewB(g:GoOk ns B C i)(d:i<=40)(a:(B.flatMap Bg.ks).length<=60):td (.list (B.map λb=>b.tie.toD)):=λf e=>by
 cases e
 have:=g.few;refine⟨by rw[Gz];omega,?_⟩;have c:=qX B;rw[HN] at c;rw[show(B.map λb=>b.tie.toD)=B.map (Tie.toD∘Bg.tie) from rfl,c,Gz];exact a
end
def wR(K:PySem.W.Frag)(b:Addr):Sp:=λc H Q E=>∃(x:V)(T:String),c=[x]/\fN K H x (.type T)/\cW T "str" = some false/\∀a,Same H a->E (.ref b) none a
def rm(K:PySem.W.Frag)(a c:Addr):Sp:=λb H Q E=>wP a c b H Q E\/wR K a b H Q E
def Refuse(K:PySem.W.Frag)(H:Hp)(x:V)(b:Bool):Prop:=
 (∃a,x=.str (lq a)/\TextL a/\((b=true/\jo a=none)\/(b=false/\∃c B C,jo a=some (c,B,C)/\(B.flatMap Bg.ks).length<=60/\¬jh (.int (c.length:Int)) (.list (B.map λb=>b.tie.toD)) (.list (C.map Tie.toD))))) \/
 (b=true/\∃T,fN K H x (.type T)/\cW T "str" = some false)
def DT(K:PySem.W.Frag):Sp:=λc H Q _=>∃(x:V)(b:Bool),c=[x,.bl b]/\Refuse K H x b/\∀a,Same H a->Q (.bl true) a
theorem Refuse.read{K:PySem.W.Frag}{H:Hp}{x:V}{b:Bool}{g i:Addr}{Q:VK}{W:XK}(h:Refuse K H x b)(f:∀a,Same H a->W (.ref (if b=true then g else i)) none a):rm K g i [x] H Q W:=by
 rcases h with⟨j,rfl,l,⟨rfl,h⟩|⟨rfl,m,B,C,h,k,n⟩⟩|⟨rfl,T,o,e⟩
 ·refine .inl ⟨j,R,l,λ_ a d=>f a d,λm B C c=>?_⟩;rw[h] at c
  cases c
 ·refine .inl ⟨j,R,l,λc=>?_,λr p q c=>?_⟩
  ·rw[h] at c
   cases c
  ·rw[h] at c
   cases c
   exact⟨k,n,λa d=>f a d⟩
 ·exact .inr ⟨x,T,R,o,e,λa d=>f a d⟩
end Ow
namespace Ow
open PySem L2 Wd
def fh(ns ws:List Str):Prop:=(dq ws=true->eF ns ws=none)/\(dq ws=false->dQ ns ws=none)
theorem xq{ns ws:List Str}(h:fh ns ws)(B:List Bg)(C:List Tie)(r:List (List Str)):cz ns (ws::r) B C=none:=by
 show(if dq ws=true then (eF ns ws).bind λt=>cz ns r B (C++[t]) else if C≠[] then none else (dQ ns ws).bind λb=>cz ns r (B++[b]) C)=none
 cases c:dq ws with
 |true=>
  rw[Hl rfl,h.1 c]
  rfl
 |false=>
  rw[GY Hh,h.2 c]
  split<;>rfl
theorem wt{b:List Str}{a:List (List Str)}{ws:List Str}(h:∀ns,eL b=some ns->fh ns ws):jo (b::(a++[ws]))=none:=by
 show(eL b).bind (λns=>(cz ns (a++[ws]) [] []).map λp=>(ns,p.1,p.2))=none
 cases e:eL b with
 |none=>rfl
 |some ns=>
  show(cz ns (a++[ws]) [] []).map _=none;rw[gL]
  cases c:cz ns a [] [] with
  |none=>rfl
  |some p=>
   show(cz ns [ws] p.1 p.2).map _=none;rw[xq (h ns e)]
   rfl
theorem rP{ns:List Str}{w:Str}(h:w∉ns):dw ns w=none:=by
 unfold dw;rw[GY λc=>h (Il.mp c)]
theorem mi{ns ws:List Str}{w:Str}(a:w∈ws)(h:w∉ns):c9 ns ws=none:=by
 unfold c9;rw[GY λc=>h (c.2.1 w a)]
theorem nX{ns:List Str}:c9 ns []=none:=by
 unfold c9;rw[GY λc=>c.1 rfl]
theorem qG{ns:List Str}{w:Str}:c9 ns [w,w]=none:=by
 unfold c9;rw[GY];intro c;have:=c.2.2;simp at this
theorem kI{ns ws:List Str}{w:Str}(h:w∉ns)(nm:w ≠ "most"):fh ns (w::ws):=by
 refine⟨λ_=>?_,λ_=>?_⟩
 ·unfold eF;rw[GY (show ¬(w::ws).getD 0 "" = "most" from nm)];show(dw ns w).bind _=none;rw[rP h]
  rfl
 ·unfold dQ;show(dw ns w).bind _=none;rw[rP h]
  rfl
theorem wA{ns:List Str}{u k z:Str}(b:k = "needs" \/ k = "bans")(nm:u ≠ "most")(h:z∉ns):fh ns [u,k,z]:=by
 refine⟨λ_=>?_,λc=>?_⟩
 ·unfold eF;rw[GY (show ¬([u,k,z]:List Str).getD 0 "" = "most" from nm)];show(dw ns u).bind (λa=>(dw ns z).map _)=none;rw[rP h]
  cases dw ns u<;>rfl
 ·exfalso;have:dq [u,k,z]=true:=by
   unfold dq;rw[JG]
   right
   rcases b with rfl|rfl
   ·show(true&&(["needs", "bans"]:List Str).contains "needs")=true;decide +kernel
   ·show(true&&(["needs", "bans"]:List Str).contains "bans")=true;decide +kernel
  rw[this] at c
  cases c
theorem j4{w:Str}{r:List Str}(nm:w ≠ "most")(h:r.length≠2\/(r.getD 0 "" ≠ "needs" /\ r.getD 0 "" ≠ "bans")):dq (w::r)=false:=by
 unfold dq;rw[Bool.or_eq_false_iff];refine⟨?_,?_⟩
 ·show(some w==some ("most" : Str))=false;exact IV.mpr λz=>nm (HI z)
 ·rw[Bool.and_eq_false_iff];rcases h with h|h
  ·left
   rw[GN];exact GZ λz=>h (by omega)
  ·right
   rw[<-KB];intro c;have a:(r.getD 0 "")∈(["needs", "bans"]:List Str):=Il.mp c;simp only[GI,Hs,Iw] at a;rcases a with q|q
   ·exact h.1 q
   ·exact h.2 q
theorem kG{ns ws:List Str}(c:dq ws=false)(h:dQ ns ws=none):fh ns ws:=⟨(λz=>by rw[c] at z;cases z),λ_=>h⟩
theorem jC{ns r:List Str}{u k:Str}(nm:u ≠ "most")(c:r.length≠1\/(k ≠ "needs" /\ k ≠ "bans"))(a:k ≠ "from")(h:c9 ns r=none):fh ns (u::k::r):=by
 refine kG (j4 nm (c.imp (λz=>by rw[GN];omega) λz=>z)) ?_;have b:cV (u::k::r)=2:=by
  unfold cV;rw[GY];intro z;have:[k]=(["from"]:List Str):=z;exact a (Jn this).1
 unfold dQ;rw[b];show(dw ns u).bind (λ_=>(c9 ns r).bind _)=none;rw[h]
 cases dw ns u<;>rfl
theorem yT{ns:List Str}{u:Str}(nm:u ≠ "most"):fh ns [u]:=by
 refine kG (j4 nm (.inl (by decide))) ?_;unfold dQ;show(dw ns u).bind (λ_=>(c9 ns []).bind _)=none;rw[nX]
 cases dw ns u<;>rfl
theorem Gk{ns r:List Str}{u k:Str}(nm:u ≠ "most")(d:k∉(["must", "may", "one", "from", "needs", "bans"]:List Str)):fh ns (u::k::r):=by
 have a:∀z∈(["must", "may", "one", "from", "needs", "bans"]:List Str),k≠z:=λz e q=>d (q▸e);refine kG (j4 nm (.inr ⟨a _ (by decide),a _ (by decide)⟩)) ?_;have f:cV (u::k::r)=2:=by
  unfold cV;rw[GY];intro z;have:[k]=(["from"]:List Str):=z;exact a _ (by decide) (Jn this).1
 unfold dQ;rw[f];show(dw ns u).bind (λ_=>(c9 ns r).bind λc=>(du [k] c.length).bind _)=none;have b:∀m,du [k] m=none:=λm=>by
  unfold du;rw[GY λz=>a _ (by decide) (Jn z).1,GY λz=>a _ (by decide) (Jn z).1,GY λz=>a _ (by decide) (Jn z).1,GY λz=>a _ (by decide) z.1]
 cases dw ns u with
 |none=>rfl
 |some x=>
  show(c9 ns r).bind _=none
  cases c9 ns r with
  |none=>rfl
  |some c=>
   show(du [k] c.length).bind _=none;rw[b]
   rfl
theorem fz{ns r:List Str}{u a t b:Str}(nm:u ≠ "most")(h:c9 ns r=none\/t ≠ "to" \/ cN a=none\/cN b=none):fh ns (u :: "from" :: a::t::b::r):=by
 refine kG (j4 nm (.inl (by simp))) ?_;have g:cV (u :: "from" :: a::t::b::r)=5:=by
  unfold cV;rw[Hl]
  rfl
 unfold dQ;rw[g];show(dw ns u).bind (λ_=>(c9 ns r).bind λd=>(du ["from",a,t,b] d.length).bind _)=none
 cases dw ns u with
 |none=>rfl
 |some x=>
  show(c9 ns r).bind _=none
  cases e:c9 ns r with
  |none=>rfl
  |some d=>
   show(du ["from",a,t,b] d.length).bind _=none;have f:du ["from",a,t,b] d.length=none:=by
    unfold du;rw[GY (by simp),GY (by simp),GY (by simp)]
    split
    ·rename_i c
     show(cN a).bind (λx=>(cN b).map _)=none;rcases h with h|h|h|h
     ·rw[e] at h
      cases h
     ·exact absurd c.2 h
     ·rw[h]
      rfl
     ·rw[h]
      cases cN a<;>rfl
    ·rfl
   rw[f]
   rfl
theorem fJ{ns r:List Str}(h:eW ns ("most" :: r)=none):fh ns ("most" :: r):=by
 refine⟨λ_=>?_,λc=>?_⟩
 ·unfold eF;rw[Hl (show(("most" : Str)::r).getD 0 "" = "most" from rfl)];exact h
 ·exfalso;have:dq (("most" : Str)::r)=true:=by
   unfold dq;rw[JG]
   left
   show(some ("most" : Str)==some "most")=true;decide +kernel
  rw[this] at c
  cases c
theorem kv{ns ws:List Str}(h:ws.length<5\/ws.length%2=0):eW ns ws=none:=by
 unfold eW;rw[Hl];rcases h with h|h
 ·exact .inl h
 ·exact .inr (.inl h)
theorem yu{ns r:List Str}{a b:Str}(h:b ≠ "of"):eW ns ("most" :: a::b::r)=none:=by
 unfold eW;rw[Hl (.inr (.inr h))]
theorem nR{ns r:List Str}{a b:Str}(h:cN a=none):eW ns ("most" :: a::b::r)=none:=by
 unfold eW
 split
 ·rfl
 ·show(eI _).bind (λ_=>(c9 ns _).bind λ_=>(cN a).map _)=none;rw[h];generalize eI (cJ (List.drop 3 (("most" : Str)::a::b::r)))=x
  cases x with
  |none=>rfl
  |some x=>
   show(c9 ns (cJ (List.drop 4 (("most" : Str)::a::b::r)))).bind _=none;generalize c9 ns (cJ (List.drop 4 (("most" : Str)::a::b::r)))=y
   cases y<;>rfl
theorem qY{ns r:List Str}{a b c:Str}(h:cN c=none):eW ns ("most" :: a::b::c::r)=none:=by
 unfold eW
 split
 ·rfl
 ·rw[uD (z:=c) (by
   show c∈cJ (c::r);rw[mZ];exact GM) h]
  rfl
theorem nM{ns r:List Str}{a b c:Str}(h:c9 ns (cJ r)=none):eW ns ("most" :: a::b::c::r)=none:=by
 unfold eW
 split
 ·rfl
 ·show(eI _).bind (λ_=>(c9 ns (cJ r)).bind _)=none;rw[h];generalize eI (cJ (List.drop 3 (("most" : Str)::a::b::c::r)))=x
  cases x<;>rfl
theorem fC:∀z∈(["01", "+0", "-0", "-", "x", "", "+1", "1111111111111111111111111111111111111111111111111111111111111"]:List Str),cN z=none:=by
 have k:∀z∈(["01", "+0", "-0", "-", "x", "", "+1", "1111111111111111111111111111111111111111111111111111111111111"]:List Str),gM z=false:=by decide +kernel
 intro z a;unfold cN;rw[k z a]
 rfl
end Ow
namespace L2
open PySem
theorem PLi.ex{X:Cx}{l:List Stmt}{t:TS}{D:Ends}{a:St}{H:Hp}(h:PLi X l t)(q:t D a H):∃t,PSs X l t/\t D a H:=⟨t,h.pss,q⟩
end L2
namespace Ow
open PySem L2 Wd
def Ts(a:TE)(b:St)(x:Str)(n:Nat):Prop:=x.length<=n/\∀(H:Hp)(Q:VK),Q (.str x) H->a b H Q
def iq(a:TA)(b:St)(xs:List Str):Prop:=∀(H:Hp)(Q:List V->Hp->Prop),Q (bF xs) H->a b H Q
theorem eO{i:Nat}{a:St}{x:Str}{n:Nat}(h:a[i]?=some (some (.str x)))(l:x.length<=n):Ts (eG i) a x n:=⟨l,λH Q q=>⟨_,h,q⟩⟩
theorem dj{a:St}{x:Str}:Ts (tC (.str x)) a x x.length:=⟨GW _,λH Q q=>q⟩
theorem eD{c tb:TE}{a:St}{x y:Str}{n m:Nat}(h1:Ts c a x n)(b:Ts tb a y m)(hz:n+m<=1000):Ts (fF (λx y H Q=>∃i j,x=.str i/\y=.str j/\i.length+j.length<=sizeLine/\Q (.str (i++j)) H) c tb) a (x++y) (n+m):=by
 have d:=h1.1;have e:=b.1;exact⟨by rw[gU];omega,λH Q q=>h1.2 H _ (b.2 H _ ⟨x,y,R,R,bT (by omega),q⟩)⟩
theorem iR{b:St}{z:Str}{n:Int}(h1:1<=n)(a:n<=1000)(hz:z.length<=1000):Ts (fF (λx y H Q=>∃(z:Str)(n:Int),x=.str z/\y=.int n/\1<=n/\n<=1000/\z.length<=1000/\Q (.str (Txt.mul z n)) H) (tC (.str z)) (tC (.int n))) b (Txt.mul z n) (Txt.mul z n).length:=⟨GW _,λH Q q=>⟨z,n,R,R,h1,a,hz,q⟩⟩
theorem gl{a:St}:iq gN a []:=λH Q q=>q
theorem dz{b:TE}{c:TA}{a:St}{x:Str}{xs:List Str}{n:Nat}(h1:Ts b a x n)(d:iq c a xs):iq (gm b c) a (x::xs):=λH Q q=>h1.2 H _ (d H _ q)
theorem zw{h:TA}{u:TS}{D:Ends}{d:St}{H:Hp}{i:Nat}{p:Addr}{a xs:List Str}(m:d[i]?=some (some (.ref p)))(l:H p=some (.lst (bF a)))(n:iq h d xs)(hz:a.length+xs.length<=1000)
  (k:∀(c:Addr)(e:Hp),Same H e->H c=none->e c=some (.lst (bF (a++xs)))->u D (d.set i (some (.ref c))) e):iU (iW (fF iV (eG i) (gO h)) (gn i)) u D d H:=by
 refine⟨_,m,n H _ ?_⟩;have o:(bF xs).length=xs.length:=by rw[bF,Gz]
 have q:(bF a).length=a.length:=by rw[bF,Gz]
 refine⟨bT (by omega),λb j=>?_⟩;have f:=bL j (.lst (bF xs));refine⟨p,b,bF a,bF xs,R,R,f _ _ l,bI,bT (by omega),λc g=>?_⟩;rw[<-ed];exact k c _ (f.trans (bL g _)) (f.free g) bI
def cands:List Str:=["x", "xx", "y", "yy", "z", "zz", "q", "qq", "p", "pp", "car"]
def yV:Sp:=λc H Q _=>∃(l:Addr)(a:List Str),c=[.ref l]/\H l=some (.lst (bF a))/\a.length<=11/\(a.length<=10\/("ware" : Str)∈a)/\∀(z:Str)(b:Hp),z∈cands->z∉a->Same H b->Q (.str z) b
theorem DD{nm:List Str}(h:nm.length<=11)(b:nm.length<=10\/("ware" : Str)∈nm):cands.filter (λz=>!nm.contains z)≠[]:=by
 intro e;have d:∀z∈cands,z∈nm:=λz a=>by
  by_cases c:nm.contains z=true
  ·exact Il.mp c
  ·have:z∈cands.filter (λz=>!nm.contains z):=Ir.mpr ⟨a,by rw[Ho.mpr c];rfl⟩;rw[e] at this
   cases this
 have f:cands.Nodup:=by decide +kernel
 have i:cands.length=11:=rfl;rcases b with b|b
 ·have:=f.length_le_of_subset (l₂:=nm) d;omega
 ·have:=f.length_le_of_subset (l₂:=nm.erase "ware") λz a=>by
   have g:z ≠ "ware" := λq=>by
    rw[q] at a;exact absurd a (by decide +kernel)
   exact(List.mem_erase_of_ne g).mpr (d z a)
  rw[List.length_erase_of_mem b] at this;omega
def dL(w:Str):Prop:=jO w/\dm w/\w.length<=100
def iG(z:Str):Bool:=z.cps.toList.all (λc=>decide (c≠10)&&(decide (c≠32)&&decide (c<128)))&&decide (z.length<=100)
theorem bN{z:Str}(h:iG z=true):dL z:=by
 unfold iG at h;rw[Ha,Hv] at h;have k:∀c∈z.cps.toList,c≠10/\c≠32/\c<128:=λc a=>by
  have:=h.1 c a;simp only[Ha,HK] at this;exact this
 have l:=GJ h.2;refine⟨⟨λm=>(k 10 m).1 rfl,λm=>(k 32 m).2.1 rfl⟩,⟨?_,by show z.length<=1000;omega⟩,l⟩;rw[Jx];intro c a;exact GF (k c (JH.mpr a)).2.2
def cL(ns:List Str)(z:Str):Prop:=∃a,z=Str.join " " a/\a≠[]/\a.length<=60/\(∀w∈a,dL w)/\fh ns a
theorem fM{a:Str}(h:dL a):∀w∈[a],dL w:=λw b=>by rw[GE.mp b];exact h
theorem bH{a:Str}{r:List Str}(h:dL a)(b:∀w∈r,dL w):∀w∈a::r,dL w:=λw c=>by
 rcases GI.mp c with q|q
 ·rw[q];exact h
 ·exact b w q
theorem cT:∀w∈([]:List Str),dL w:=λ_ h=>nomatch h
theorem cQ{ns:List Str}{z:Str}(ws:List Str)(e:z.cps.toList=(Str.join " " ws).cps.toList)(a:ws≠[])(l:ws.length<=60)(k:∀w∈ws,dL w)(b:fh ns ws):cL ns z:=⟨ws,iB e,a,l,k,b⟩
structure OneNew(ns:List Str)(one new:Str):Prop where
 w1:dL one
 w2:dL new
 l1:one.length<=8
 l2:new.length<=8
 nm:one ≠ "most"
 nm2:new ≠ "most"
 nn:new∉ns
 names:∀z∈ns,dA z=true
theorem OneNew.no{ns:List Str}{one new:Str}(h:OneNew ns one new){z:Str}(hz:dA z=false):z∉ns:=λm=>by
 have:=h.names z m;rw[hz] at this
 cases this
theorem xO{ns:List Str}{one new:Str}(h:OneNew ns one new):cL ns (one++(" may " : Str)++new):=by
 refine cQ [one, "may",new] ?_ (by simp) (by show 3<=60;decide) (bH h.w1 (bH (bN (by decide +kernel)) (bH h.w2 cT))) (jC h.nm (.inr ⟨by decide +kernel,by decide +kernel⟩) (by decide +kernel) (mi (GE.mpr rfl) h.nn));simp only[Str.join,GB,GH]<;>rfl
theorem xP{ns:List Str}{one new:Str}(h:OneNew ns one new):cL ns (one++(" needs " : Str)++new):=by
 refine cQ [one, "needs",new] ?_ (by simp) (by show 3<=60;decide) (bH h.w1 (bH (bN (by decide +kernel)) (bH h.w2 cT))) (wA (.inl rfl) h.nm h.nn);simp only[Str.join,GB,GH]<;>rfl
theorem xQ{ns:List Str}{one new:Str}(h:OneNew ns one new):cL ns (new++(" bans " : Str)++one):=by
 refine cQ [new, "bans",one] ?_ (by simp) (by show 3<=60;decide) (bH h.w2 (bH (bN (by decide +kernel)) (bH h.w1 cT))) (kI h.nn h.nm2);simp only[Str.join,GB,GH]<;>rfl
theorem xR{ns:List Str}{one new:Str}(h:OneNew ns one new):cL ns (new++(" may " : Str)++one):=by
 refine cQ [new, "may",one] ?_ (by simp) (by show 3<=60;decide) (bH h.w2 (bH (bN (by decide +kernel)) (bH h.w1 cT))) (kI h.nn h.nm2);simp only[Str.join,GB,GH]<;>rfl
theorem xS{ns:List Str}{one new:Str}(h:OneNew ns one new):cL ns (("most 1 of 1 " : Str)++new):=by
 refine cQ ["most", "1", "of", "1",new] ?_ (by simp) (by show 5<=60;decide) (bH (bN (by decide +kernel)) (bH (bN (by decide +kernel)) (bH (bN (by decide +kernel)) (bH (bN (by decide +kernel)) (bH h.w2 cT))))) (fJ (nM (mi (w:=new) (GE.mpr rfl) h.nn)));simp only[Str.join,GB,GH]<;>rfl
theorem xT{ns:List Str}{one new:Str}(h:OneNew ns one new):cL ns (one++(" from 0 " : Str)++("or" : Str)++(" 2 " : Str)++one):=by
 refine cQ [one, "from", "0", "or", "2",one] ?_ (by simp) (by show 6<=60;decide) (bH h.w1 (bH (bN (by decide +kernel)) (bH (bN (by decide +kernel)) (bH (bN (by decide +kernel)) (bH (bN (by decide +kernel)) (bH h.w1 cT)))))) (fz h.nm (.inr (.inl (by decide +kernel))));simp only[Str.join,GB,GH]<;>rfl
theorem xU{ns:List Str}{one new:Str}(h:OneNew ns one new):cL ns (one++(" from 0 " : Str)++("-" : Str)++(" 2 " : Str)++one):=by
 refine cQ [one, "from", "0", "-", "2",one] ?_ (by simp) (by show 6<=60;decide) (bH h.w1 (bH (bN (by decide +kernel)) (bH (bN (by decide +kernel)) (bH (bN (by decide +kernel)) (bH (bN (by decide +kernel)) (bH h.w1 cT)))))) (fz h.nm (.inr (.inl (by decide +kernel))));simp only[Str.join,GB,GH]<;>rfl
theorem xV{ns:List Str}{one new:Str}(h:OneNew ns one new):cL ns (one++(" from 0 " : Str)++("until" : Str)++(" 2 " : Str)++one):=by
 refine cQ [one, "from", "0", "until", "2",one] ?_ (by simp) (by show 6<=60;decide) (bH h.w1 (bH (bN (by decide +kernel)) (bH (bN (by decide +kernel)) (bH (bN (by decide +kernel)) (bH (bN (by decide +kernel)) (bH h.w1 cT)))))) (fz h.nm (.inr (.inl (by decide +kernel))));simp only[Str.join,GB,GH]<;>rfl
theorem xW{ns:List Str}{one new:Str}(h:OneNew ns one new):cL ns (one++(" from 0 " : Str)++("To" : Str)++(" 2 " : Str)++one):=by
 refine cQ [one, "from", "0", "To", "2",one] ?_ (by simp) (by show 6<=60;decide) (bH h.w1 (bH (bN (by decide +kernel)) (bH (bN (by decide +kernel)) (bH (bN (by decide +kernel)) (bH (bN (by decide +kernel)) (bH h.w1 cT)))))) (fz h.nm (.inr (.inl (by decide +kernel))));simp only[Str.join,GB,GH]<;>rfl
theorem xX{ns:List Str}{one new:Str}(h:OneNew ns one new):cL ns (one++(" from 0 " : Str)++("1" : Str)++(" 2 " : Str)++one):=by
 refine cQ [one, "from", "0", "1", "2",one] ?_ (by simp) (by show 6<=60;decide) (bH h.w1 (bH (bN (by decide +kernel)) (bH (bN (by decide +kernel)) (bH (bN (by decide +kernel)) (bH (bN (by decide +kernel)) (bH h.w1 cT)))))) (fz h.nm (.inr (.inl (by decide +kernel))));simp only[Str.join,GB,GH]<;>rfl
theorem Bv{ns:List Str}{one new:Str}(h:OneNew ns one new):cL ns (one++(" from " : Str)++("01" : Str)++(" to 2 " : Str)++one):=by
 refine cQ [one, "from", "01", "to", "2",one] ?_ (by simp) (by show 6<=60;decide) (bH h.w1 (bH (bN (by decide +kernel)) (bH (bN (by decide +kernel)) (bH (bN (by decide +kernel)) (bH (bN (by decide +kernel)) (bH h.w1 cT)))))) (fz h.nm (.inr (.inr (.inl (fC _ (by decide +kernel))))));simp only[Str.join,GB,GH]<;>rfl
theorem A9{ns:List Str}{one new:Str}(h:OneNew ns one new):cL ns (one++(" from 0 to " : Str)++("01" : Str)++(" " : Str)++one):=by
 refine cQ [one, "from", "0", "to", "01",one] ?_ (by simp) (by show 6<=60;decide) (bH h.w1 (bH (bN (by decide +kernel)) (bH (bN (by decide +kernel)) (bH (bN (by decide +kernel)) (bH (bN (by decide +kernel)) (bH h.w1 cT)))))) (fz h.nm (.inr (.inr (.inr (fC _ (by decide +kernel))))));simp only[Str.join,GB,GH]<;>rfl
theorem A2{ns:List Str}{one new:Str}(h:OneNew ns one new):cL ns (one++(" from " : Str)++("+0" : Str)++(" to 2 " : Str)++one):=by
 refine cQ [one, "from", "+0", "to", "2",one] ?_ (by simp) (by show 6<=60;decide) (bH h.w1 (bH (bN (by decide +kernel)) (bH (bN (by decide +kernel)) (bH (bN (by decide +kernel)) (bH (bN (by decide +kernel)) (bH h.w1 cT)))))) (fz h.nm (.inr (.inr (.inl (fC _ (by decide +kernel))))));simp only[Str.join,GB,GH]<;>rfl
theorem Bc{ns:List Str}{one new:Str}(h:OneNew ns one new):cL ns (one++(" from 0 to " : Str)++("+0" : Str)++(" " : Str)++one):=by
 refine cQ [one, "from", "0", "to", "+0",one] ?_ (by simp) (by show 6<=60;decide) (bH h.w1 (bH (bN (by decide +kernel)) (bH (bN (by decide +kernel)) (bH (bN (by decide +kernel)) (bH (bN (by decide +kernel)) (bH h.w1 cT)))))) (fz h.nm (.inr (.inr (.inr (fC _ (by decide +kernel))))));simp only[Str.join,GB,GH]<;>rfl
theorem Bn{ns:List Str}{one new:Str}(h:OneNew ns one new):cL ns (one++(" from " : Str)++("-0" : Str)++(" to 2 " : Str)++one):=by
 refine cQ [one, "from", "-0", "to", "2",one] ?_ (by simp) (by show 6<=60;decide) (bH h.w1 (bH (bN (by decide +kernel)) (bH (bN (by decide +kernel)) (bH (bN (by decide +kernel)) (bH (bN (by decide +kernel)) (bH h.w1 cT)))))) (fz h.nm (.inr (.inr (.inl (fC _ (by decide +kernel))))));simp only[Str.join,GB,GH]<;>rfl
theorem Bu{ns:List Str}{one new:Str}(h:OneNew ns one new):cL ns (one++(" from 0 to " : Str)++("-0" : Str)++(" " : Str)++one):=by
 refine cQ [one, "from", "0", "to", "-0",one] ?_ (by simp) (by show 6<=60;decide) (bH h.w1 (bH (bN (by decide +kernel)) (bH (bN (by decide +kernel)) (bH (bN (by decide +kernel)) (bH (bN (by decide +kernel)) (bH h.w1 cT)))))) (fz h.nm (.inr (.inr (.inr (fC _ (by decide +kernel))))));simp only[Str.join,GB,GH]<;>rfl
theorem BS{ns:List Str}{one new:Str}(h:OneNew ns one new):cL ns (one++(" from " : Str)++("1111111111111111111111111111111111111111111111111111111111111" : Str)++(" to 2 " : Str)++one):=by
 refine cQ [one, "from", "1111111111111111111111111111111111111111111111111111111111111", "to", "2",one] ?_ (by simp) (by show 6<=60;decide) (bH h.w1 (bH (bN (by decide +kernel)) (bH (bN (by decide +kernel)) (bH (bN (by decide +kernel)) (bH (bN (by decide +kernel)) (bH h.w1 cT)))))) (fz h.nm (.inr (.inr (.inl (fC _ (by decide +kernel))))));simp only[Str.join,GB,GH]<;>rfl
theorem BL{ns:List Str}{one new:Str}(h:OneNew ns one new):cL ns (one++(" from 0 to " : Str)++("1111111111111111111111111111111111111111111111111111111111111" : Str)++(" " : Str)++one):=by
 refine cQ [one, "from", "0", "to", "1111111111111111111111111111111111111111111111111111111111111",one] ?_ (by simp) (by show 6<=60;decide) (bH h.w1 (bH (bN (by decide +kernel)) (bH (bN (by decide +kernel)) (bH (bN (by decide +kernel)) (bH (bN (by decide +kernel)) (bH h.w1 cT)))))) (fz h.nm (.inr (.inr (.inr (fC _ (by decide +kernel))))));simp only[Str.join,GB,GH]<;>rfl
theorem BY{ns:List Str}{one new:Str}(h:OneNew ns one new):cL ns (one++(" from " : Str)++("-" : Str)++(" to 2 " : Str)++one):=by
 refine cQ [one, "from", "-", "to", "2",one] ?_ (by simp) (by show 6<=60;decide) (bH h.w1 (bH (bN (by decide +kernel)) (bH (bN (by decide +kernel)) (bH (bN (by decide +kernel)) (bH (bN (by decide +kernel)) (bH h.w1 cT)))))) (fz h.nm (.inr (.inr (.inl (fC _ (by decide +kernel))))));simp only[Str.join,GB,GH]<;>rfl
theorem A1{ns:List Str}{one new:Str}(h:OneNew ns one new):cL ns (one++(" from 0 to " : Str)++("-" : Str)++(" " : Str)++one):=by
 refine cQ [one, "from", "0", "to", "-",one] ?_ (by simp) (by show 6<=60;decide) (bH h.w1 (bH (bN (by decide +kernel)) (bH (bN (by decide +kernel)) (bH (bN (by decide +kernel)) (bH (bN (by decide +kernel)) (bH h.w1 cT)))))) (fz h.nm (.inr (.inr (.inr (fC _ (by decide +kernel))))));simp only[Str.join,GB,GH]<;>rfl
theorem Bw{ns:List Str}{one new:Str}(h:OneNew ns one new):cL ns (one++(" from " : Str)++("x" : Str)++(" to 2 " : Str)++one):=by
 refine cQ [one, "from", "x", "to", "2",one] ?_ (by simp) (by show 6<=60;decide) (bH h.w1 (bH (bN (by decide +kernel)) (bH (bN (by decide +kernel)) (bH (bN (by decide +kernel)) (bH (bN (by decide +kernel)) (bH h.w1 cT)))))) (fz h.nm (.inr (.inr (.inl (fC _ (by decide +kernel))))));simp only[Str.join,GB,GH]<;>rfl
theorem Be{ns:List Str}{one new:Str}(h:OneNew ns one new):cL ns (one++(" from 0 to " : Str)++("x" : Str)++(" " : Str)++one):=by
 refine cQ [one, "from", "0", "to", "x",one] ?_ (by simp) (by show 6<=60;decide) (bH h.w1 (bH (bN (by decide +kernel)) (bH (bN (by decide +kernel)) (bH (bN (by decide +kernel)) (bH (bN (by decide +kernel)) (bH h.w1 cT)))))) (fz h.nm (.inr (.inr (.inr (fC _ (by decide +kernel))))));simp only[Str.join,GB,GH]<;>rfl
theorem BK{ns:List Str}{one new:Str}(h:OneNew ns one new):cL ns (("most - of 1 " : Str)++one):=by
 refine cQ ["most", "-", "of", "1",one] ?_ (by simp) (by show 5<=60;decide) (bH (bN (by decide +kernel)) (bH (bN (by decide +kernel)) (bH (bN (by decide +kernel)) (bH (bN (by decide +kernel)) (bH h.w1 cT))))) (fJ (nR (fC _ (by decide +kernel))));simp only[Str.join,GB,GH]<;>rfl
theorem A5{ns:List Str}{one new:Str}(h:OneNew ns one new):cL ns (("most 1 of - " : Str)++one):=by
 refine cQ ["most", "1", "of", "-",one] ?_ (by simp) (by show 5<=60;decide) (bH (bN (by decide +kernel)) (bH (bN (by decide +kernel)) (bH (bN (by decide +kernel)) (bH (bN (by decide +kernel)) (bH h.w1 cT))))) (fJ (qY (fC _ (by decide +kernel))));simp only[Str.join,GB,GH]<;>rfl
theorem BB{ns:List Str}{one new:Str}(h:OneNew ns one new):cL ns (("most  of 1 " : Str)++one):=by
 refine cQ ["most", "", "of", "1",one] ?_ (by simp) (by show 5<=60;decide) (bH (bN (by decide +kernel)) (bH (bN (by decide +kernel)) (bH (bN (by decide +kernel)) (bH (bN (by decide +kernel)) (bH h.w1 cT))))) (fJ (nR (fC _ (by decide +kernel))));simp only[Str.join,GB,GH]<;>rfl
theorem BE{ns:List Str}{one new:Str}(h:OneNew ns one new):cL ns (one++(" may " : Str)++one++(" " : Str)++one):=by
 refine cQ [one, "may",one,one] ?_ (by simp) (by show 4<=60;decide) (bH h.w1 (bH (bN (by decide +kernel)) (bH h.w1 (bH h.w1 cT)))) (jC h.nm (.inl (by simp)) (by decide +kernel) qG);simp only[Str.join,GB,GH]<;>rfl
theorem Bo{ns:List Str}{one new:Str}(h:OneNew ns one new):cL ns (one++(" needs" : Str)):=by
 refine cQ [one, "needs"] ?_ (by simp) (by show 2<=60;decide) (bH h.w1 (bH (bN (by decide +kernel)) cT)) (jC h.nm (.inl (by simp)) (by decide +kernel) nX);simp only[Str.join,GB,GH]<;>rfl
theorem Br{ns:List Str}{one new:Str}(h:OneNew ns one new):cL ns (one++(" needs abcdefghi" : Str)):=by
 refine cQ [one, "needs", "abcdefghi"] ?_ (by simp) (by show 3<=60;decide) (bH h.w1 (bH (bN (by decide +kernel)) (bH (bN (by decide +kernel)) cT))) (wA (.inl rfl) h.nm (h.no (by decide +kernel)));simp only[Str.join,GB,GH]<;>rfl
theorem Bp{ns:List Str}{one new:Str}(h:OneNew ns one new):cL ns (one++(" needs " : Str)++one++(" " : Str)++one):=by
 refine cQ [one, "needs",one,one] ?_ (by simp) (by show 4<=60;decide) (bH h.w1 (bH (bN (by decide +kernel)) (bH h.w1 (bH h.w1 cT)))) (jC h.nm (.inl (by simp)) (by decide +kernel) qG);simp only[Str.join,GB,GH]<;>rfl
theorem BH{ns:List Str}{one new:Str}(h:OneNew ns one new):cL ns (("most 1 of" : Str)):=by
 refine cQ ["most", "1", "of"] ?_ (by simp) (by show 3<=60;decide) (bH (bN (by decide +kernel)) (bH (bN (by decide +kernel)) (bH (bN (by decide +kernel)) cT))) (fJ (kv (.inl (by decide))));simp only[Str.join,GB,GH]<;>rfl
theorem BA{ns:List Str}{one new:Str}(h:OneNew ns one new):cL ns (("most 1 of 1" : Str)):=by
 refine cQ ["most", "1", "of", "1"] ?_ (by simp) (by show 4<=60;decide) (bH (bN (by decide +kernel)) (bH (bN (by decide +kernel)) (bH (bN (by decide +kernel)) (bH (bN (by decide +kernel)) cT)))) (fJ (kv (.inl (by decide))));simp only[Str.join,GB,GH]<;>rfl
theorem BM{ns:List Str}{one new:Str}(h:OneNew ns one new):cL ns (("most of 1 " : Str)++one):=by
 refine cQ ["most", "of", "1",one] ?_ (by simp) (by show 4<=60;decide) (bH (bN (by decide +kernel)) (bH (bN (by decide +kernel)) (bH (bN (by decide +kernel)) (bH h.w1 cT)))) (fJ (kv (.inl (by show 4<5;decide))));simp only[Str.join,GB,GH]<;>rfl
theorem A3{ns:List Str}{one new:Str}(h:OneNew ns one new):cL ns (("most 01 of 1 " : Str)++one):=by
 refine cQ ["most", "01", "of", "1",one] ?_ (by simp) (by show 5<=60;decide) (bH (bN (by decide +kernel)) (bH (bN (by decide +kernel)) (bH (bN (by decide +kernel)) (bH (bN (by decide +kernel)) (bH h.w1 cT))))) (fJ (nR (fC _ (by decide +kernel))));simp only[Str.join,GB,GH]<;>rfl
theorem Bi{ns:List Str}{one new:Str}(h:OneNew ns one new):cL ns (("most 1 of -0 " : Str)++one):=by
 refine cQ ["most", "1", "of", "-0",one] ?_ (by simp) (by show 5<=60;decide) (bH (bN (by decide +kernel)) (bH (bN (by decide +kernel)) (bH (bN (by decide +kernel)) (bH (bN (by decide +kernel)) (bH h.w1 cT))))) (fJ (qY (fC _ (by decide +kernel))));simp only[Str.join,GB,GH]<;>rfl
theorem Bm{ns:List Str}{one new:Str}(h:OneNew ns one new):cL ns (("most 1 for 1 " : Str)++one):=by
 refine cQ ["most", "1", "for", "1",one] ?_ (by simp) (by show 5<=60;decide) (bH (bN (by decide +kernel)) (bH (bN (by decide +kernel)) (bH (bN (by decide +kernel)) (bH (bN (by decide +kernel)) (bH h.w1 cT))))) (fJ (yu (by decide +kernel)));simp only[Str.join,GB,GH]<;>rfl
theorem A4{ns:List Str}{one new:Str}(h:OneNew ns one new):cL ns (("most 1 of 1 abcdefghi" : Str)):=by
 refine cQ ["most", "1", "of", "1", "abcdefghi"] ?_ (by simp) (by show 5<=60;decide) (bH (bN (by decide +kernel)) (bH (bN (by decide +kernel)) (bH (bN (by decide +kernel)) (bH (bN (by decide +kernel)) (bH (bN (by decide +kernel)) cT))))) (fJ (nM (mi (w := "abcdefghi") (GE.mpr rfl) (h.no (by decide +kernel)))));simp only[Str.join,GB,GH]<;>rfl
theorem BN{ns:List Str}{one new:Str}(h:OneNew ns one new):cL ns (("most 1 of 1 " : Str)++one++(" 2 " : Str)++one):=by
 refine cQ ["most", "1", "of", "1",one, "2",one] ?_ (by simp) (by show 7<=60;decide) (bH (bN (by decide +kernel)) (bH (bN (by decide +kernel)) (bH (bN (by decide +kernel)) (bH (bN (by decide +kernel)) (bH h.w1 (bH (bN (by decide +kernel)) (bH h.w1 cT))))))) (fJ (nM qG));simp only[Str.join,GB,GH]<;>rfl
theorem BR{ns:List Str}{one new:Str}(h:OneNew ns one new):cL ns (("most " : Str)++Txt.mul "1" 61++(" of 1 " : Str)++one):=by
 rw[show Txt.mul ("1" : Str) 61 = "1111111111111111111111111111111111111111111111111111111111111" from by decide +kernel];refine cQ ["most", "1111111111111111111111111111111111111111111111111111111111111", "of", "1",one] ?_ (by simp) (by show 5<=60;decide) (bH (bN (by decide +kernel)) (bH (bN (by decide +kernel)) (bH (bN (by decide +kernel)) (bH (bN (by decide +kernel)) (bH h.w1 cT))))) (fJ (nR (fC _ (by decide +kernel))));simp only[Str.join,GB,GH]<;>rfl
theorem Bh{ns:List Str}{one new:Str}(h:OneNew ns one new):cL ns (("" : Str)):=by
 refine cQ [""] ?_ (by simp) (by show 1<=60;decide) (bH (bN (by decide +kernel)) cT) (kI (h.no (by decide +kernel)) (by decide +kernel));simp only[Str.join,GB,GH]<;>rfl
theorem A7{ns:List Str}{one new:Str}(h:OneNew ns one new):cL ns ((" " : Str)):=by
 refine cQ ["", ""] ?_ (by simp) (by show 2<=60;decide) (bH (bN (by decide +kernel)) (bH (bN (by decide +kernel)) cT)) (kI (h.no (by decide +kernel)) (by decide +kernel));simp only[Str.join,GB,GH]<;>rfl
theorem B0{ns:List Str}{one new:Str}(h:OneNew ns one new):cL ns (one):=by
 refine cQ [one] ?_ (by simp) (by show 1<=60;decide) (bH h.w1 cT) (yT h.nm);simp only[Str.join,GB,GH]<;>rfl
theorem BD{ns:List Str}{one new:Str}(h:OneNew ns one new):cL ns (one++(" must" : Str)):=by
 refine cQ [one, "must"] ?_ (by simp) (by show 2<=60;decide) (bH h.w1 (bH (bN (by decide +kernel)) cT)) (jC h.nm (.inl (by simp)) (by decide +kernel) nX);simp only[Str.join,GB,GH]<;>rfl
theorem Bf{ns:List Str}{one new:Str}(h:OneNew ns one new):cL ns (one++(" bans " : Str)++one++(" " : Str)):=by
 refine cQ [one, "bans",one, ""] ?_ (by simp) (by show 4<=60;decide) (bH h.w1 (bH (bN (by decide +kernel)) (bH h.w1 (bH (bN (by decide +kernel)) cT)))) (jC h.nm (.inl (by simp)) (by decide +kernel) (mi (w := "") (by simp) (h.no (by decide +kernel))));simp only[Str.join,GB,GH]<;>rfl
theorem BZ{ns:List Str}{one new:Str}(h:OneNew ns one new):cL ns (("most 1 of +1 " : Str)++one):=by
 refine cQ ["most", "1", "of", "+1",one] ?_ (by simp) (by show 5<=60;decide) (bH (bN (by decide +kernel)) (bH (bN (by decide +kernel)) (bH (bN (by decide +kernel)) (bH (bN (by decide +kernel)) (bH h.w1 cT))))) (fJ (qY (fC _ (by decide +kernel))));simp only[Str.join,GB,GH]<;>rfl
theorem BW{ns:List Str}{one new:Str}(h:OneNew ns one new):cL ns (("most 1 of 1  " : Str)++one):=by
 refine cQ ["most", "1", "of", "1", "",one] ?_ (by simp) (by show 6<=60;decide) (bH (bN (by decide +kernel)) (bH (bN (by decide +kernel)) (bH (bN (by decide +kernel)) (bH (bN (by decide +kernel)) (bH (bN (by decide +kernel)) (bH h.w1 cT)))))) (fJ (kv (.inr (by show 6%2=0;decide))));simp only[Str.join,GB,GH]<;>rfl
theorem BQ{ns:List Str}{one new:Str}(h:OneNew ns one new):cL ns (one++(" should " : Str)++one):=by
 refine cQ [one, "should",one] ?_ (by simp) (by show 3<=60;decide) (bH h.w1 (bH (bN (by decide +kernel)) (bH h.w1 cT))) (Gk h.nm (by decide +kernel));simp only[Str.join,GB,GH]<;>rfl
theorem BG{ns:List Str}{one new:Str}(h:OneNew ns one new):cL ns (one++(" may abcdefghi" : Str)):=by
 refine cQ [one, "may", "abcdefghi"] ?_ (by simp) (by show 3<=60;decide) (bH h.w1 (bH (bN (by decide +kernel)) (bH (bN (by decide +kernel)) cT))) (jC h.nm (.inr ⟨by decide +kernel,by decide +kernel⟩) (by decide +kernel) (mi (GE.mpr rfl) (h.no (by decide +kernel))));simp only[Str.join,GB,GH]<;>rfl
theorem By{ns:List Str}{one new:Str}(h:OneNew ns one new):cL ns (("Most 1 of 1 " : Str)++one):=by
 refine cQ ["Most", "1", "of", "1",one] ?_ (by simp) (by show 5<=60;decide) (bH (bN (by decide +kernel)) (bH (bN (by decide +kernel)) (bH (bN (by decide +kernel)) (bH (bN (by decide +kernel)) (bH h.w1 cT))))) (kI (h.no (by decide +kernel)) (by decide +kernel));simp only[Str.join,GB,GH]<;>rfl
theorem Bl{ns:List Str}{one new:Str}(h:OneNew ns one new):cL ns (one++(" from 0 to 1" : Str)):=by
 refine cQ [one, "from", "0", "to", "1"] ?_ (by simp) (by show 5<=60;decide) (bH h.w1 (bH (bN (by decide +kernel)) (bH (bN (by decide +kernel)) (bH (bN (by decide +kernel)) (bH (bN (by decide +kernel)) cT))))) (fz h.nm (.inl nX));simp only[Str.join,GB,GH]<;>rfl
theorem Bs{ns:List Str}{one new:Str}(h:OneNew ns one new):cL ns (("most 1 of 1 " : Str)++one++(" 2" : Str)):=by
 refine cQ ["most", "1", "of", "1",one, "2"] ?_ (by simp) (by show 6<=60;decide) (bH (bN (by decide +kernel)) (bH (bN (by decide +kernel)) (bH (bN (by decide +kernel)) (bH (bN (by decide +kernel)) (bH h.w1 (bH (bN (by decide +kernel)) cT)))))) (fJ (kv (.inr (by show 6%2=0;decide))));simp only[Str.join,GB,GH]<;>rfl
def eZ(P:Str->Prop)(xs:List Str):Prop:=∀z∈xs,P z
theorem gX{P:Str->Prop}:eZ P []:=λ_ h=>nomatch h
theorem all_cons{P:Str->Prop}{x:Str}{xs:List Str}(h:P x)(a:eZ P xs):eZ P (x::xs):=λz b=>by
 rcases GI.mp b with q|q
 ·rw[q];exact h
 ·exact a z q
theorem kU{P:Str->Prop}{xs ys:List Str}(h:eZ P xs)(a:eZ P ys):eZ P (xs++ys):=λz b=>by
 rcases GL.mp b with q|q
 ·exact h z q
 ·exact a z q
theorem j9{P:Str->Prop}{e:TA}{u:TS}{D:Ends}{d:St}{H:Hp}{i:Nat}{p:Addr}{c xs:List Str}(l:d[i]?=some (some (.ref p)))(j:H p=some (.lst (bF c)))(g:eZ P c)(m:eZ P xs)(o:iq e d xs)(hz:c.length+xs.length<=1000)
  (k:∀(b:Addr)(a:Hp)(ys:List Str),ys.length=c.length+xs.length->Same H a->H b=none->a b=some (.lst (bF ys))->eZ P ys->u D (d.set i (some (.ref b))) a):iU (iW (fF iV (eG i) (gO e)) (gn i)) u D d H:=
 zw l j o hz λb a n f h=>k b a _ (GC) n f h (kU g m)
theorem Gr{P:Str->Prop}{h:TA}{D:Ends}{f:St}{H:Hp}{i:Nat}{p:Addr}{a xs:List Str}(n:f[i]?=some (some (.ref p)))(m:H p=some (.lst (bF a)))(l:eZ P a)(o:eZ P xs)(q:iq h f xs)(hz:a.length+xs.length<=1000)
  (k:∀(c:Addr)(d:Hp)(ys:List Str),ys.length=a.length+xs.length->Same H d->H c=none->d c=some (.lst (bF ys))->eZ P ys->D.rt (.ref c) d):mV (fF iV (eG i) (gO h)) D f H:=by
 refine⟨_,n,q H _ ?_⟩;have r:(bF xs).length=xs.length:=by rw[bF,Gz]
 have s:(bF a).length=a.length:=by rw[bF,Gz]
 refine⟨bT (by omega),λb j=>?_⟩;have e:=bL j (.lst (bF xs));refine⟨p,b,bF a,bF xs,R,R,e _ _ m,bI,bT (by omega),λc g=>?_⟩;rw[<-ed];exact k c _ _ (GC) (e.trans (bL g _)) (e.free g) bI (kU l o)
theorem jD{i:Nat}{v:V}{a:St}{H:Hp}{k:St->Hp->Prop}(h:k (a.set i (some v)) H):gn i v a H k:=h
theorem xG{b:TA}{u:TS}{D:Ends}{a:St}{H:Hp}{i:Nat}{xs:List Str}(d:iq b a xs)(hz:xs.length<=1000)(k:∀p,H p=none->u D (a.set i (some (.ref p))) (upd H p (.lst (bF xs)))):iU (iW (gO b) (gn i)) u D a H:=
 d H _ ⟨bT (by rw[bF,Gz];exact hz),λp c=>k p c⟩
theorem wD{K:PySem.W.Frag}{d:TE}{D:Ends}{b:St}{H:Hp}{i:Nat}{p:Addr}{a:List Str}{x:Str}{n:Nat}(e:b[i]?=some (some (.ref p)))(c:H p=some (.lst (bF a)))(t:Ts d b x n)(hz:a.length<1000)(k:D.nx b (upd H p (.lst (bF (a++[x]))))):ou (jY K "list" oh (eG i) (gm d gN)) D b H:=by
 refine⟨_,e,.inl ⟨R,_,SqL.of c⟩,t.2 H _ ?_⟩;refine⟨p,bF a,_,R,R,c,HJ (show(bF a).length<=1000 by rw[bF,Gz];omega) (by rw[HF];decide),?_⟩;rw[ed] at k;exact k
theorem zQ{K:PySem.W.Frag}{a:TA}{b:St}{H:Hp}{R:It->Hp->Prop}{xs:List Str}(d:iq a b xs)(hz:xs.length<=1000)(k:∀p,H p=none->R (gP K p) (upd H p (.lst (bF xs)))):oq K (gO a) b H R:=
 d H _ ⟨bT (by rw[bF,Gz];exact hz),λp c=>⟨p,rfl,⟨bF xs,SqL.of bI⟩,k p c⟩⟩
theorem kZ{a:TI}{g:TG}{tb u:TS}{D:Ends}{b:St}{H:Hp}(h:mM a g tb { D with nx:=u D } b H):iU (mM a g tb) u D b H:=h
theorem xf{K:PySem.W.Frag}{f:TA}{g:TG}{tb:TS}{D:Ends}{a:St}{H:Hp}{xs:List Str}(l:iq f a xs)(hz:xs.length<=1000)
  (k:∀p,H p=none->(λ(J:It)(h:Hp)=>∃W:Nat->Nat->St->Hp->Prop,(∃m,W 0 m a h)/\∀i m a H,W i m a H ->   (J.stop i H/\D.nx a H)\/(J.go i H/\∃N:St->Hp->Prop,(∀c b,N c b->∃e,e<m/\W (i+1) e c b)/\∀x b,J.yld i H x b->g x a b λd j=>tb { D with nx:=N,ct:=N,bk:=D.nx } d j)) (gP K p) (upd H p (.lst (bF xs)))):mM (oq K (gO f)) g tb D a H:=zQ l hz k
def gh(one new z:Str):Prop:=∀a,OneNew a one new->cL a z
def Eb:Sp:=λf H Q _=>∃(l:Addr)(c:List Str)(b:Str),f=[.str b,.ref l]/\H l=some (.lst (bF c))/\c.length<=11/\(c.length<=10\/("ware" : Str)∈c)/\b.length<=8 /\
 ∀(a:Str)(e:List Str)(p:Addr)(d:Hp),a∈cands->a∉c->Same H d->d p=some (.lst (bF e))->e.length=50->eZ (gh b a) e->Q (.ref p) d
theorem vY:∀z∈cands,z.length<=8:=by decide +kernel
theorem EI{one new:Str}:∀w∈(["or", "-", "until", "To", "1"]:List Str),gh one new (one ++ " from 0 " ++ w ++ " 2 " ++ one):=by
 intro w a b h;simp only[GI,Hs,Iw] at a;rcases a with rfl|rfl|rfl|rfl|rfl
 ·exact xT h
 ·exact xU h
 ·exact xV h
 ·exact xW h
 ·exact xX h
def jk:List Str:=["01", "+0", "-0",Txt.mul "1" 61, "-", "x"]
theorem Fc{one new:Str}:∀w∈jk,gh one new (one ++ " from " ++ w ++ " to 2 " ++ one)/\gh one new (one ++ " from 0 to " ++ w ++ " " ++ one):=by
 intro w b;have e:Txt.mul ("1" : Str) 61 = "1111111111111111111111111111111111111111111111111111111111111" := by decide +kernel
 unfold jk at b;rw[e] at b;simp only[GI,Hs,Iw] at b;rcases b with rfl|rfl|rfl|rfl|rfl|rfl
 ·exact⟨λa h=>Bv h,λa h=>A9 h⟩
 ·exact⟨λa h=>A2 h,λa h=>Bc h⟩
 ·exact⟨λa h=>Bn h,λa h=>Bu h⟩
 ·exact⟨λa h=>BS h,λa h=>BL h⟩
 ·exact⟨λa h=>BY h,λa h=>A1 h⟩
 ·exact⟨λa h=>Bw h,λa h=>Be h⟩
theorem En:∀w∈jk,w.length<=61:=by decide +kernel
def Ta(H:Hp)(a:TE)(b:St)(x:Str)(n:Nat):Prop:=x.length<=n/\∀Q:VK,Q (.str x) H->a b H Q
def mH(H:Hp)(a:TA)(b:St)(xs:List Str):Prop:=∀Q:List V->Hp->Prop,Q (bF xs) H->a b H Q
section
variable{H:Hp}{σ:St}
theorem zS{i:Nat}{x:Str}{n:Nat}(h:σ[i]?=some (some (.str x)))(l:x.length<=n):Ta H (eG i) σ x n:=⟨l,λQ q=>⟨_,h,q⟩⟩
theorem li{x:Str}:Ta H (tC (.str x)) σ x x.length:=⟨GW _,λQ q=>q⟩
theorem om{b tb:TE}{x y:Str}{n m:Nat}(h1:Ta H b σ x n)(a:Ta H tb σ y m)(hz:n+m<=1000):Ta H (fF (λx y H Q=>∃i j,x=.str i/\y=.str j/\i.length+j.length<=sizeLine/\Q (.str (i++j)) H) b tb) σ (x++y) (n+m):=by
 have c:=h1.1;have d:=a.1;exact⟨by rw[gU];omega,λQ q=>h1.2 _ (a.2 _ ⟨x,y,R,R,bT (by omega),q⟩)⟩
theorem zo:mH H gN σ []:=λQ q=>q
theorem kJ{a:TE}{b:TA}{x:Str}{xs:List Str}{n:Nat}(h1:Ta H a σ x n)(c:mH H b σ xs):mH H (gm a b) σ (x::xs):=λQ q=>h1.2 _ (c _ q)
theorem oa{K:PySem.W.Frag}{i:Nat}{l:Addr}{nm:List Str}{a:Str}{n:Nat}(h:σ[i]?=some (some (.ref l)))(b:H l=some (.lst (bF nm)))(hz:(nm.map (·.length)).sum+nm.length*a.length<=n)(c:n<=1000):Ta H (jY K "str" (oE K) (tC (.str a)) (gm (eG i) gN)) σ (Str.join a nm) n:=
 ⟨Hm (Ic a nm) hz,λQ q=>⟨R,_,h,a,l,nm,R,R,SqL.of b,by omega,q⟩⟩
end
theorem zP{b:TE}{u:TS}{D:Ends}{a:St}{H:Hp}{i:Nat}{x:Str}{n:Nat}(t:Ta H b a x n)(k:u D (a.set i (some (.str x))) H):iU (iW b (gn i)) u D a H:=t.2 _ k
theorem yO{b:TA}{u:TS}{D:Ends}{a:St}{H:Hp}{i:Nat}{xs:List Str}(d:mH H b a xs)(hz:xs.length<=1000)(k:∀p,H p=none->u D (a.set i (some (.ref p))) (upd H p (.lst (bF xs)))):iU (iW (gO b) (gn i)) u D a H:=
 d _ ⟨bT (by rw[bF,Gz];exact hz),λp c=>k p c⟩
theorem xz{ns:List Str}{c:List (List Str)}{ws:List Str}(d:ws∈c)(h:fh ns ws)(B:List Bg)(C:List Tie):cz ns c B C=none:=by
 obtain⟨a,b,e⟩:=Km d;rw[e,gL]
 cases cz ns a B C with
 |none=>rfl
 |some p=>exact xq h _ _ _
theorem kO{w:Str}{r:List Str}(h:w ≠ "ware" \/ r=[]\/r.all dA=false\/¬r.Nodup):eL (w::r)=none:=by
 unfold eL;rw[GY];intro c;rcases h with h|h|h|h
 ·exact h c.1
 ·exact c.2.1 h
 ·have:=c.2.2.1;rw[show((w::r).drop 1).all dA=false from h] at this
  cases this
 ·exact h c.2.2.2
theorem xH{r:List Str}{z:Str}(hz:z∈r)(h:dA z=false):r.all dA=false:=by
 rw[<-KB,Hv];intro c;have:=c z hz;rw[h] at this
 cases this
def jd(nm:List Str)(z:Str):Prop:=∃a,z=Str.join " " a/\a≠[]/\a.length<=11/\(∀w∈a,dL w)/\(eL a=none\/a=nm)
def CZ:Sp:=λd H Q _=>∃(l:Addr)(b:List Str),d=[.ref l]/\H l=some (.lst (bF b))/\Names b/\∀(c:List Str)(p:Addr)(a:Hp),Same H a->a p=some (.lst (bF c))->c.length=21->eZ (jd b) c->Q (.ref p) a
theorem vP{z:Str}(p:dm z)(h:dA z=true):dL z:=⟨qH h,p,Hm (fH h) (by decide)⟩
theorem j5{nm:List Str}(N:Names nm):∀w∈nm,dL w:=λw a=>vP (N.plain w a) (N.name w a)
theorem jb{a b:List Str}(h1:∀w∈a,dL w)(c:∀w∈b,dL w):∀w∈a++b,dL w:=λw d=>by
 rcases GL.mp d with q|q
 ·exact h1 w q
 ·exact c w q
theorem kM{a b:List Str}(c:a≠[])(d:b≠[]):Str.join " " (a++b)=Str.join " " a ++ " " ++ Str.join " " b:=by
 induction a with
 |nil=>exact absurd rfl c
 |cons x r ih=>
  cases r with
  |nil=>
   cases b with
   |nil=>exact absurd rfl d
   |cons y s=>rfl
  |cons y s=>
   have:=ih (by simp);show x ++ " " ++ Str.join " " (y::s++b)=_;rw[this];apply iB;simp only[Str.join,GB,GH]
def eu:List Str:=["abcdefghi", "must", "may", "one", "from", "needs", "bans", "most", "aB", "a1", "Z", "a-", "a_b", "9"]
theorem zh:∀z∈eu,dA z=false:=by decide +kernel
theorem yC:∀z∈eu,dL z:=λz hz=>by
 have:∀z∈eu,iG z=true:=by decide +kernel
 exact bN (this z hz)
theorem Fi:∀z∈eu,z.length<=100:=by decide +kernel
section
variable{nm:List Str}(N:Names nm)
include N
theorem uV{r:List Str}(a:r≠[])(l:nm.length+r.length<=10)(k:∀w∈r,dL w)(h:∃z∈r,dA z=false):jd nm ("ware " ++ Str.join " " nm ++ " " ++ Str.join " " r):=by
 have c:=N.few;refine⟨((["ware"]:List Str)++nm)++r,?_,by simp,by simp only[GC];show 1+_+_<=11;omega,jb (jb (fM (bN (by decide +kernel))) (j5 N)) k,.inl ?_⟩
 ·rw[kM (by simp) a,<-vn N.ne]
 ·obtain⟨z,b,e⟩:=h;exact kO (w := "ware") (r:=nm++r) (.inr (.inr (.inl (xH (GL.mpr (.inr b)) e))))
theorem EB:eZ (jd nm) ["ware", "Ware " ++ Str.join " " nm,Str.join " " nm, "ware " ++ Str.join " " nm ++ " ", "ware  " ++ Str.join " " nm, ""]:=by
 have c:=N.few;have b:=j5 N;have a:=N.ne;refine all_cons ?_ (all_cons ?_ (all_cons ?_ (all_cons ?_ (all_cons ?_ (all_cons ?_ gX)))))
 ·exact⟨["ware"],R,by simp,by decide,fM (bN (by decide +kernel)),.inl (kO (.inr (.inl rfl)))⟩
 ·refine⟨(["Ware"]:List Str)++nm,?_,by simp,by rw[GC];show 1+_<=11;omega,jb (fM (bN (by decide +kernel))) b,.inl (kO (.inl (by decide +kernel)))⟩;rw[kM (by simp) a];apply iB;simp only[Str.join,GB,GH]
  rfl
 ·exact⟨nm,R,a,by omega,b,.inr rfl⟩
 ·have:=uV N (r:=[""]) (by simp) (by show _+1<=10;omega) (fM (bN (by decide +kernel))) ⟨"",by simp,by decide +kernel⟩;have e : "ware " ++ Str.join " " nm ++ " " ++ Str.join " " [""] = "ware " ++ Str.join " " nm ++ " ":=by
   apply iB;simp only[Str.join,GB,GH]
   rfl
  rw[e] at this;exact this
 ·refine⟨(["ware", ""]:List Str)++nm,?_,by simp,by rw[GC];show 2+_<=11;omega,jb (bH (bN (by decide +kernel)) (fM (bN (by decide +kernel)))) b,.inl (kO (.inr (.inr (.inl (xH (z := "") (by simp) (by decide +kernel))))))⟩;rw[kM (by simp) a];apply iB;simp only[Str.join,GB,GH]
  rfl
 ·exact⟨[""],R,by simp,by decide,fM (bN (by decide +kernel)),.inl (kO (.inl (by decide +kernel)))⟩
theorem DC{w:Str}(a:w∈eu):jd nm ("ware " ++ Str.join " " nm ++ " " ++ w):=by
 have b:=N.few;exact uV N (r:=[w]) (by simp) (by show _+1<=10;omega) (fM (yC w a)) ⟨w,by simp,zh w a⟩
theorem C7:jd nm ("ware " ++ Str.join " " nm ++ " " ++ bK nm 0):=by
 have b:=N.few;have a:0<nm.length:=Hx.mpr N.ne;obtain⟨m,_⟩:=gG N.nd a;refine⟨((["ware"]:List Str)++nm)++[bK nm 0],?_,by simp,by simp only[GC];show 1+_+1<=11;omega,jb (jb (fM (bN (by decide +kernel))) (j5 N)) (fM (j5 N _ m)),.inl ?_⟩
 ·rw[kM (by simp) (by simp),<-vn N.ne]
  rfl
 ·refine kO (w := "ware") (r:=nm++[bK nm 0]) (.inr (.inr (.inr λz=>?_)));exact(JX.mp z).2.2 _ m _ (GE.mpr rfl) rfl
end
theorem l8{nm:List Str}{ks:List Nat}(c:nm.Nodup)(g:ks≠[])(h:ks.Pairwise (·<·))(b:∀k∈ks,k<nm.length):c9 nm (ks.map (bK nm))=some ks:=by
 have e:(ks.map (bK nm)).map nm.idxOf=ks:=by
  rw[HN]
  conv=>rhs;rw[<-List.map_id ks]
  exact JI λk a=>(gG c (b k a)).2
 have d:∀z∈ks.map (bK nm),z∈nm:=λz f=>by
  obtain⟨k,a,rfl⟩:=Hc.mp f;exact(gG c (b k a)).1
 unfold c9;rw[Hl ⟨λz=>g (JJ.mp z),d,by rw[e];exact h⟩,e]
theorem jI{nm:List Str}{u:Nat}(c:nm.Nodup)(h:u<nm.length):dw nm (bK nm u)=some u:=by
 obtain⟨a,b⟩:=gG c h;unfold dw;rw[Hl (Il.mpr a),b]
theorem j7{n:Int}(h:n.natAbs<10^60):cN (bX n)=some n:=by
 obtain⟨_,_,a,b,_⟩:=gH h;unfold cN;rw[Hl a];exact b
theorem uq(lo hi m:Nat):ef (lo:Int) (hi:Int) m=cU lo hi m:=by
 unfold ef cU;have e:∀a b:Nat,((a:Int)=(b:Int))↔a=b:=λa b=>Int.ofNat_inj;by_cases c:lo=m/\hi=m
 ·rw[Hl c,Hl ⟨(e _ _).mpr c.1,(e _ _).mpr c.2⟩]
 rw[GY c,GY λz=>c ⟨(e _ _).mp z.1,(e _ _).mp z.2⟩];by_cases d:lo=0/\hi=m
 ·rw[Hl d,Hl ⟨(e _ 0).mpr d.1,(e _ _).mpr d.2⟩]
 rw[GY d,GY λz=>d ⟨(e _ 0).mp z.1,(e _ _).mp z.2⟩];by_cases f:lo=1/\hi=1
 ·rw[Hl f,Hl ⟨(e _ 1).mpr f.1,(e _ 1).mpr f.2⟩]
 rw[GY f,GY λz=>f ⟨(e _ 1).mp z.1,(e _ 1).mp z.2⟩]
theorem EA{lo hi m:Nat}(f:lo<=1000)(g:hi<=1000):du (cU lo hi m) m=some ((lo:Int),(hi:Int)):=by
 by_cases c:cU lo hi m=(["must"]:List Str)
 ·obtain⟨rfl,rfl⟩:=DV c;unfold du;rw[Hl c]
 rcases Do c with⟨e,rfl,rfl⟩|⟨d,⟨e,rfl,rfl⟩|⟨h,e⟩⟩
 ·unfold du;rw[GY c,Hl e]
  rfl
 ·unfold du;rw[GY c,GY d,Hl e]
  rfl
 ·unfold du;rw[GY c,GY d,GY h,e,Hl ⟨R,R⟩];show(cN (bX lo)).bind (λa=>(cN (bX hi)).map λb=>(a,b))=_;rw[j7 (iz f),j7 (iz g)]
  rfl
theorem kE{nm:List Str}{u lo hi:Nat}{ks:List Nat}(d:nm.Nodup)(p:u<nm.length)(n:ks≠[])(o:ks.Pairwise (·<·))(m:∀k∈ks,k<nm.length)(i:lo<=1000)(j:hi<=1000):dQ nm (cE nm u lo hi ks)=some ⟨u,lo,hi,ks⟩:=by
 obtain⟨b,a,e,h⟩:=nA lo hi ks.length;have c:cE nm u lo hi ks=bK nm u::b::(a++ks.map (bK nm)):=by
  unfold cE;rw[e]
  rfl
 have st:cV (cE nm u lo hi ks)=a.length+2:=by
  rw[c];unfold cV;show(if [b]=(["from"]:List Str) then 5 else 2)=_;rcases h with⟨q,l⟩|⟨q,l⟩
  ·rw[Hl (show[b]=(["from"]:List Str) by rw[q]),l]
  ·rw[GY (show ¬[b]=(["from"]:List Str) from λz=>q (Jn z).1),l]
 have f:(cE nm u lo hi ks).drop (a.length+2)=ks.map (bK nm):=by
  rw[c];show(a++ks.map (bK nm)).drop a.length=_;rw[List.drop_left]
 have g:((cE nm u lo hi ks).drop 1).take (a.length+2-1)=cU lo hi ks.length:=by
  rw[c,e];show(b::(a++ks.map (bK nm))).take (a.length+1)=b::a;rw[KR,LG]
 unfold dQ;rw[st,f,g];show(dw nm (bK nm u)).bind _=_;rw[jI d p,l8 d n o m];show(du (cU lo hi ks.length) ks.length).bind _=_;rw[EA i j];show(if ef (lo:Int) (hi:Int) ks.length=cU lo hi ks.length then _ else _)=_;rw[Hl (uq lo hi ks.length)]
theorem vZ:∀{a:List (Nat×Int)},(∀p∈a,p.2.natAbs<10^60)->eI (a.map λp=>bX p.2)=some (a.map (·.2))
 |[],_=>rfl
 |p::r,h=>by
  show((cN (bX p.2)).bind λn=>(eI (r.map λp=>bX p.2)).map λr=>n::r)=_;rw[j7 (h p GM),vZ λx b=>h x (GP _ b)]
  rfl
structure gy(nm:List Str):Prop where
 ne:nm≠[]
 few:nm.length<=10
 nd:nm.Nodup
 plain:∀z∈nm,dm z
 name:∀z∈nm,dA z=true
theorem Names.ten{nm:List Str}(N:Names nm):gy nm:=⟨N.ne,Hm N.few (by decide),N.nd,N.plain,N.name⟩
theorem rB{nm:List Str}{t:Tie}(N:gy nm)(m:iO t=true)(c:Tie.Small nm.length t)(n:Tie.Rise t):eF nm (cy nm t)=some t:=by
 have f:∀k,k<nm.length->bK nm k ≠ "most" := λk d z=>by
  have:=N.name _ (gG N.nd d).1;rw[z] at this;exact absurd this (by decide +kernel)
 cases t with
 |bough u lo hi ks=>cases m
 |needs x y=>
  unfold eF;rw[GY (show ¬(cy nm (.needs x y)).getD 0 "" = "most" from f x c.1)];show(dw nm (bK nm x)).bind (λa=>(dw nm (bK nm y)).map λb=>if ("needs" : Str) = "needs" then Tie.needs a b else .bans a b)=_;rw[jI N.nd c.1,jI N.nd c.2]
  rfl
 |bans x y=>
  unfold eF;rw[GY (show ¬(cy nm (.bans x y)).getD 0 "" = "most" from f x c.1)];show(dw nm (bK nm x)).bind (λa=>(dw nm (bK nm y)).map λb=>if ("bans" : Str) = "needs" then Tie.needs a b else .bans a b)=_;rw[jI N.nd c.1,jI N.nd c.2];show some (if ("bans" : Str) = "needs" then Tie.needs x y else .bans x y)=_;rw[GY (by decide +kernel)]
 |most top ps=>
  obtain⟨i,r,g⟩:=c;obtain⟨h,o⟩:=n;have v:0<ps.length:=Hx.mpr h;have s:(cy nm (.most top ps)).length=3+2*ps.length:=by
   have:=Gb nm top ps;unfold bF at this;rw[Gz] at this;exact this
  unfold eF;rw[Hl (show(cy nm (.most top ps)).getD 0 "" = "most" from rfl)];unfold eW;rw[GY (by
   rintro(q|q|q)
   ·omega
   ·omega
   ·exact q rfl)]
  have j:cJ ((cy nm (.most top ps)).drop 3)=ps.map λp=>bX p.2:=(qc (λp:Nat×Int=>bX p.2) (λp=>bK nm p.1) ps).1;have l:cJ ((cy nm (.most top ps)).drop 4)=(ps.map (·.1)).map (bK nm):=by
   rw[HN];exact(qc (λp:Nat×Int=>bX p.2) (λp=>bK nm p.1) ps).2
  rw[j,l,vZ λp e=>(g p e).2,l8 N.nd (λz=>h (JJ.mp z)) o λk d=>by
   obtain⟨p,e,rfl⟩:=Hc.mp d;exact(g p e).1]
  show(cN (bX top)).map (λtop=>Tie.most top ((ps.map (·.1)).zip (ps.map (·.2))))=_;rw[j7 i];show some (Tie.most top ((ps.map (·.1)).zip (ps.map (·.2))))=_;rw[List.zip_map',show(ps.map λa=>(a.1,a.2))=ps from List.map_id ps]
theorem nK{nm:List Str}:∀(L:List Bg)(B:List Bg),gy nm->(∀b∈L,Tie.BoughOk nm.length b.u b.lo b.hi b.ks)->cz nm (L.map λb=>cE nm b.u b.lo.toNat b.hi.toNat b.ks) B []=some (B++L,[])
 |[],B,_,_=>by
  rw[HZ]
  rfl
 |b::L,B,N,ok=>by
  have o:=ok b GM;have j:=N.few;have f:=o.few;have h:=o.lo0;have i:=o.lohi;have a:=o.hik;have d:(b.lo.toNat:Int)=b.lo:=IU h;have e:(b.hi.toNat:Int)=b.hi:=IU (by omega);have y:=kE (lo:=b.lo.toNat) (hi:=b.hi.toNat) N.nd o.um o.ks0 o.ris (λk a=>(o.up k a).2) (by omega) (by omega);rw[d,e] at y;have c:=j2 (ns:=nm) (u:=b.u) (lo:=b.lo.toNat) (hi:=b.hi.toNat) (ks:=b.ks) (N.name _ (gG N.nd o.um).1);show(if dq (cE nm b.u b.lo.toNat b.hi.toNat b.ks)=true then _ else if ([]:List Tie)≠[] then none else (dQ nm (cE nm b.u b.lo.toNat b.hi.toNat b.ks)).bind λx=>cz nm (L.map λb=>cE nm b.u b.lo.toNat b.hi.toNat b.ks) (B++[x]) [])=_;rw[GY (by rw[c];exact Hh),GY (λz=>z rfl),y];show cz nm _ (B++[b]) []=_;rw[nK L (B++[b]) N λx g=>ok x (GP _ g),GH]
  rfl
theorem kW{nm:List Str}:∀(C:List Tie)(B:List Bg)(a:List Tie),gy nm->(∀t∈C,iO t=true/\Tie.Small nm.length t/\Tie.Rise t)->cz nm (C.map (cy nm)) B a=some (B,a++C)
 |[],B,a,_,_=>by
  rw[HZ]
  rfl
 |t::C,B,a,N,ok=>by
  obtain⟨h1,b,c⟩:=ok t GM;show(if dq (cy nm t)=true then (eF nm (cy nm t)).bind λx=>cz nm (C.map (cy nm)) B (a++[x]) else _)=_;rw[Hl (qC h1),rB N h1 b c];show cz nm _ B (a++[t])=_;rw[kW C B (a++[t]) N λx d=>ok x (GP _ d),GH]
  rfl
section
variable{nm:List Str}{L:List Bg}{C:List Tie}
theorem Lined.goB(h:Lined nm L C):cz nm (L.map λb=>cE nm b.u b.lo.toNat b.hi.toNat b.ks) [] []=some (L,[]):=nK L [] h.nm.ten h.okb
theorem Lined.go(h:Lined nm L C):cz nm ((bU nm L C).drop 1) [] []=some (L,C):=by
 show cz nm (L.map (λb=>cE nm b.u b.lo.toNat b.hi.toNat b.ks)++C.map (cy nm)) [] []=_;rw[gL,h.goB];exact kW C L [] h.nm.ten λt a=>⟨h.cross a,h.sm t a,h.rise a⟩
theorem iJ(N:gy nm):eL ("ware" :: nm)=some nm:=by
 unfold eL;rw[Hl ⟨R,N.ne,Hv.mpr N.name,N.nd⟩]
 rfl
end
structure NoWoodL(ls:List (List Str))(ns:List Str):Prop where
 tl:TextL ls
 less:ls.length<=39
 hd:ls.getD 0 []=("ware" : Str)::ns
 nm:gy ns
 no:∃B C,jo ls=some (ns,B,C)/\(B.flatMap Bg.ks).length<=60/\¬jh (.int (ns.length:Int)) (.list (B.map λb=>b.tie.toD)) (.list (C.map Tie.toD))
theorem vV{m:Int}{L:List Bg}(g:hV m (L.map λb=>b.tie.toD)):(L.flatMap Bg.ks).length=(m-1).toNat:=by
 have h:=g.kids.length_eq;have e:=qX L;rw[HN] at e;rw[show(L.map λb=>b.tie.toD)=L.map (Tie.toD∘Bg.tie) from rfl,e] at h;rw[Gz,Gz,IN] at h;exact h
theorem wI{ns:List Str}{B:List Bg}{C:List Tie}(h:(B.flatMap Bg.ks).length≠ns.length-1):¬jh (.int (ns.length:Int)) (.list (B.map λb=>b.tie.toD)) (.list (C.map Tie.toD)):=by
 rintro⟨d,e,f,a,j,k,c,i,g,_⟩;injection a with a;injection c with c;rw[<-c,<-a] at g;have:=vV g;omega
theorem zN{ns:List Str}{B:List Bg}{C:List Tie}{t:Tie}(e:t∈C)(h:fm (ns.length:Int) t.toD=false):¬jh (.int (ns.length:Int)) (.list (B.map λb=>b.tie.toD)) (.list (C.map Tie.toD)):=by
 rintro⟨d,f,i,a,l,m,j,c,g,_,k⟩;injection a with a;injection c with c;have:=k t.toD (by rw[<-c];exact Iq e);rw[<-a,h] at this
 cases this
theorem Aj{ns:List Str}{B:List Bg}{C:List Tie}(h:8<C.length):¬jh (.int (ns.length:Int)) (.list (B.map λb=>b.tie.toD)) (.list (C.map Tie.toD)):=by
 rintro⟨c,d,e,f,j,m,i,a,g,l,k⟩;injection a with a;rw[<-a,Gz] at l;omega
theorem zT{ns:List Str}{B:List Bg}{C:List Tie}(h:9<ns.length):¬jh (.int (ns.length:Int)) (.list (B.map λb=>b.tie.toD)) (.list (C.map Tie.toD)):=by
 rintro⟨c,d,e,a,f,g,_⟩;injection a with a;omega
theorem Gx{ns:List Str}{B:List Bg}{C:List Tie}{b:Bg}(e:b∈B)(h:gF (ns.length:Int) b.tie.toD=false):¬jh (.int (ns.length:Int)) (.list (B.map λb=>b.tie.toD)) (.list (C.map Tie.toD)):=by
 rintro⟨d,f,i,a,k,l,c,j,g,_⟩;injection a with a;injection c with c;have:=g.each b.tie.toD (by rw[<-c];exact Iq e);rw[<-a,h] at this
 cases this
theorem twice_no(m:Nat)(k:Nat):fm (m:Int) (Tie.needs k k).toD=false/\fm (m:Int) (Tie.bans k k).toD=false:=by
 constructor
 ·show gu (m:Int) ("needs" : Str) (.int (k:Int)) (.int (k:Int))=false;unfold gu;rw[GY (by decide +kernel),Hl (.inl rfl)];show((decide (0<=(k:Int))&&decide ((k:Int)<=(m:Int)-1))&&((decide (0<=(k:Int))&&decide ((k:Int)<=(m:Int)-1))&&!decide ((k:Int)=(k:Int))))=false;rw[GF (rfl:(k:Int)=k)];simp
 ·show gu (m:Int) ("bans" : Str) (.int (k:Int)) (.int (k:Int))=false;unfold gu;rw[GY (by decide +kernel),Hl (.inr rfl)];show((decide (0<=(k:Int))&&decide ((k:Int)<=(m:Int)-1))&&((decide (0<=(k:Int))&&decide ((k:Int)<=(m:Int)-1))&&!decide ((k:Int)=(k:Int))))=false;rw[GF (rfl:(k:Int)=k)];simp
section
variable{nm:List Str}{L:List Bg}{C:List Tie}
theorem Lined.kids(h:Lined nm L C):(L.flatMap Bg.ks).length=nm.length-1:=by
 have g:=h.gb;rw[HN] at g;have:=vV g;have a:0<nm.length:=Hx.mpr h.nm.ne;omega
theorem lY(N:Names nm)(k:Nat):dm (bK nm k):=by
 unfold bK;rw[He]
 cases e:nm[k]? with
 |none=>exact⟨by decide +kernel,by decide +kernel⟩
 |some z=>exact N.plain z (GO e)
theorem Lined.plain(h:Lined nm L C){ws:List Str}(m:ws∈bU nm L C):∀z∈ws,dm z:=by
 have d:=lY h.nm;have c:∀z∈(["ware", "must", "may", "one", "from", "to", "of", "most", "needs", "bans"]:List Str),dm z:=λz a=>by
  have k:∀z∈(["ware", "must", "may", "one", "from", "to", "of", "most", "needs", "bans"]:List Str),iG z=true:=by decide +kernel
  exact(bN (k z a)).2.1
 rcases GL.mp m with y|y
 ·rcases GI.mp y with y|y
  ·rw[y];intro z a;rcases GL.mp a with x|x
   ·rw[GE.mp x];exact c _ (by decide)
   ·exact h.nm.plain z x
  ·obtain⟨b,j,rfl⟩:=Hc.mp y;have e:=h.okb b j;have r:=h.nm.few;have f:=e.few;have o:=e.lo0;have q:=e.lohi;have n:=e.hik;intro z a;rcases GI.mp a with x|x
   ·rw[x];exact d _
   ·rcases GL.mp x with x|x
    ·unfold cU at x
     split at x
     ·rw[GE.mp x];exact c _ (by decide)
     split at x
     ·rw[GE.mp x];exact c _ (by decide)
     split at x
     ·rw[GE.mp x];exact c _ (by decide)
     simp only[GI,Hs,Iw] at x;rcases x with rfl|rfl|rfl|rfl
     ·exact c _ (by decide)
     ·exact(gH (iz (by omega))).1
     ·exact c _ (by decide)
     ·exact(gH (iz (by omega))).1
    ·obtain⟨k,_,rfl⟩:=Hc.mp x;exact d _
 ·obtain⟨t,g,rfl⟩:=Hc.mp y;have i:=h.sm t g
  cases t with
  |bough u lo hi ks=>exact absurd rfl (h.nb _ g u lo hi ks)
  |needs x y=>
   intro z a;simp only[cy,GI,Hs,Iw] at a;rcases a with rfl|rfl|rfl
   ·exact d _
   ·exact c _ (by decide)
   ·exact d _
  |bans x y=>
   intro z a;simp only[cy,GI,Hs,Iw] at a;rcases a with rfl|rfl|rfl
   ·exact d _
   ·exact c _ (by decide)
   ·exact d _
  |most top ps=>
   intro z a;rcases GL.mp a with x|x
   ·simp only[GI,Hs,Iw] at x;rcases x with rfl|rfl|rfl
    ·exact c _ (by decide)
    ·exact(gH i.1).1
    ·exact c _ (by decide)
   ·obtain⟨p,l,x⟩:=J3.mp x;simp only[GI,Hs,Iw] at x;rcases x with rfl|rfl
    ·exact(gH (i.2.2 p l).2).1
    ·exact d _
theorem FJ(h:Lined nm L C){ws:List Str}(a:ws∈bU nm L C):ws≠[]/\ws.length<=30/\∀z∈ws,dL z:=by
 have c:=h.short a;refine⟨(h.whole a).1,c.1,λz b=>⟨(h.whole a).2 z b,?_,Hm (c.2 z b) (by decide)⟩⟩;exact h.plain a z b
theorem iN{c:List (List Str)}(e:c≠[])(d:c.length<=40)(first:(c.getD 0 []).length<=11)(k:∀a∈c,a≠[]/\a.length<=60/\∀z∈a,dL z):TextL c:=
 ⟨e,λa h=>(k a h).1,λa h z b=>((k a h).2.2 z b).1,λa h z b=>((k a h).2.2 z b).2.1,λa h z b=>((k a h).2.2 z b).2.2,d,λa h=>(k a h).2.1,first⟩
theorem Lined.lines_ok(h:Lined nm L C):∀d∈bU nm L C,d≠[]/\d.length<=60/\∀z∈d,dL z:=λd e=>by
 obtain⟨a,b,c⟩:=FJ h e;exact⟨a,by omega,c⟩
theorem vD(N:Names nm){t:Tie}(f:iO t=true)(d:Tie.Small nm.length t):cy nm t≠[]/\(cy nm t).length<=60/\∀z∈cy nm t,dL z:=by
 have b:∀k,dL (bK nm k):=λk=>⟨lX N k,lY N k,Hm (ie (λz a=>fH (N.name z a)) k) (by decide)⟩
 have g:∀n:Int,n.natAbs<10^60->dL (bX n):=λn e=>⟨kH n,(gH e).1,Hm (gH e).2.2.2.2 (by decide)⟩
 have c:∀z∈(["most", "of", "needs", "bans"]:List Str),dL z:=λz a=>by
  have k:∀z∈(["most", "of", "needs", "bans"]:List Str),iG z=true:=by decide +kernel
  exact bN (k z a)
 have i:=qJ (ns:=nm) (λz a=>fH (N.name z a)) d;refine⟨?_,by have:=i.1;omega,?_⟩
 ·cases t with
  |bough u lo hi ks=>cases f
  |needs x y=>simp[cy]
  |bans x y=>simp[cy]
  |most top ps=>simp[cy]
 ·cases t with
  |bough u lo hi ks=>cases f
  |needs x y=>exact bH (b x) (bH (c _ (by decide)) (fM (b y)))
  |bans x y=>exact bH (b x) (bH (c _ (by decide)) (fM (b y)))
  |most top ps=>
   refine jb (bH (c _ (by decide)) (bH (g _ d.1) (fM (c _ (by decide))))) λz a=>?_;obtain⟨p,h,x⟩:=J3.mp a;simp only[GI,Hs,Iw] at x;rcases x with rfl|rfl
   ·exact g _ (d.2.2 p h).2
   ·exact b _
theorem rL(h:Lined nm L C)(a:List Tie)(k:∀t∈a,iO t=true/\Tie.Small nm.length t/\Tie.Rise t)(f:a.length<=9)(d:8<(C++a).length\/∃t∈a,fm (nm.length:Int) t.toD=false):NoWoodL (bU nm L C++a.map (cy nm)) nm:=by
 have j:=h.fewb;have l:=h.fewc;have m:=h.nm.few;refine⟨iN ?_ ?_ ?_ ?_,?_,R,h.nm.ten,L,C++a,?_,?_,?_⟩
 ·simp[bU,dF]
 ·rw[GC,Gz,fQ];omega
 ·show((["ware"]:List Str)++nm).length<=11;rw[GC];show 1+_<=11;omega
 ·intro i g;rcases GL.mp g with y|y
  ·exact h.lines_ok i y
  ·obtain⟨t,c,rfl⟩:=Hc.mp y;exact vD h.nm (k t c).1 (k t c).2.1
 ·rw[GC,Gz,fQ];omega
 ·show(eL ("ware" :: nm)).bind (λe=>(cz e ((bU nm L C).drop 1++a.map (cy nm)) [] []).map λp=>(e,p.1,p.2))=_;rw[iJ h.nm.ten];show(cz nm ((bU nm L C).drop 1++a.map (cy nm)) [] []).map _=_;rw[gL,h.go];show(cz nm (a.map (cy nm)) L C).map _=_;rw[kW a L C h.nm.ten k]
  rfl
 ·rw[h.kids];omega
 ·rcases d with b|⟨t,c,b⟩
  ·exact Aj b
  ·exact zN (GL.mpr (.inr c)) b
theorem vU(h:Lined nm L C)(ws:List Str)(b:Bg)(cl:dq ws=false)(d:dQ nm ws=some b)(k1:b.ks.length=1)(g:ws≠[]/\ws.length<=60/\∀z∈ws,dL z):NoWoodL (dF nm L++[ws]++C.map (cy nm)) nm:=by
 have i:=h.fewb;have j:=h.fewc;have l:=h.nm.few;have k:0<nm.length:=Hx.mpr h.nm.ne;refine⟨iN ?_ ?_ ?_ ?_,?_,R,h.nm.ten,L++[b],C,?_,?_,?_⟩
 ·simp[dF]
 ·simp only[GC,Gz,dF,GN,Ly];omega
 ·show((["ware"]:List Str)++nm).length<=11;rw[GC];show 1+_<=11;omega
 ·intro w f;rcases GL.mp f with y|y
  ·rcases GL.mp y with y|y
   ·exact h.lines_ok w (GL.mpr (.inl y))
   ·rw[GE.mp y];exact g
  ·exact h.lines_ok w (GL.mpr (.inr y))
 ·simp only[GC,Gz,dF,GN,Ly];omega
 ·show(eL ("ware" :: nm)).bind (λc=>(cz c (L.map (λb=>cE nm b.u b.lo.toNat b.hi.toNat b.ks)++[ws]++C.map (cy nm)) [] []).map λp=>(c,p.1,p.2))=_;rw[iJ h.nm.ten];show(cz nm (L.map (λb=>cE nm b.u b.lo.toNat b.hi.toNat b.ks)++[ws]++C.map (cy nm)) [] []).map _=_;rw[gL,gL,h.goB];show((cz nm [ws] L []).bind _).map _=_;have e:cz nm [ws] L []=some (L++[b],[]):=by
   show(if dq ws=true then _ else if ([]:List Tie)≠[] then none else (dQ nm ws).bind λx=>cz nm [] (L++[x]) [])=_;rw[GY (by rw[cl];exact Hh),GY (λz=>z rfl),d]
   rfl
  rw[e];show(cz nm (C.map (cy nm)) (L++[b]) []).map _=_;rw[kW C (L++[b]) [] h.nm.ten λt a=>⟨h.cross a,h.sm t a,h.rise a⟩]
  rfl
 ·rw[Ip,GC,h.kids];show _+(b.ks++[]).length<=60;rw[HZ];omega
 ·refine wI ?_;rw[Ip,GC,h.kids];show _+(b.ks++[]).length≠_;rw[HZ];omega
end
section
variable{nm:List Str}{L:List Bg}{C:List Tie}
theorem ya(h:Lined nm L C):NoWoodL (bU nm L C++[[bK nm 0, "needs",bK nm 0]]) nm:=by
 have a:0<nm.length:=Hx.mpr h.nm.ne;refine rL h [.needs 0 0] (λt b=>?_) (by decide) (.inr ⟨_,GE.mpr rfl,(twice_no _ _).1⟩);rw[GE.mp b];exact⟨R,⟨a,a⟩,trivial⟩
theorem ye(h:Lined nm L C){k:Nat}(a:k<nm.length):NoWoodL (bU nm L C++[[bK nm k, "bans",bK nm k]]) nm:=by
 refine rL h [.bans k k] (λt b=>?_) (by show 1<=9;decide) (.inr ⟨_,GE.mpr rfl,(twice_no _ _).2⟩);rw[GE.mp b];exact⟨R,⟨a,a⟩,trivial⟩
theorem yb(h:Lined nm L C):NoWoodL (bU nm L C++List.replicate (9-C.length) (["most", "9", "of", "1",bK nm 0]:List Str)) nm:=by
 have c:0<nm.length:=Hx.mpr h.nm.ne;have d:=h.fewc;have e:cy nm (.most 9 [(0,1)])=(["most", "9", "of", "1",bK nm 0]:List Str):=by
  show(["most",bX 9, "of"]:List Str)++[bX 1,bK nm 0]=_;rw[show bX 9 = "9" from by decide +kernel,show bX 1 = "1" from by decide +kernel]
  rfl
 have:=rL h (List.replicate (9-C.length) (.most 9 [(0,1)])) (λt b=>by
  rw[(List.mem_replicate.mp b).2];refine⟨R,⟨by decide,by decide,λp a=>?_⟩,by simp,by simp⟩;rw[GE.mp a];exact⟨c,by decide⟩) (by rw[Ix];omega) (.inl (by rw[GC,Ix];omega))
 rw[List.map_replicate,e] at this;exact this
theorem E8{u k:Nat}{a b:Str}{x y:Int}(N:gy nm)(l:u<nm.length)(i:k<nm.length)(h1:cN a=some x)(f:cN b=some y)(g:ef x y 1=(["from",a, "to",b]:List Str)):dQ nm [bK nm u, "from",a, "to",b,bK nm k]=some ⟨u,x,y,[k]⟩:=by
 have m:cV [bK nm u, "from",a, "to",b,bK nm k]=5:=by
  unfold cV;rw[Hl]
  rfl
 unfold dQ;rw[m];show(dw nm (bK nm u)).bind (λu=>(c9 nm ([k].map (bK nm))).bind λd=>(du ["from",a, "to",b] d.length).bind λc=>if ef c.1 c.2 d.length=(["from",a, "to",b]:List Str) then some (⟨u,c.1,c.2,d⟩:Bg) else none)=_;rw[jI N.nd l,l8 (ks:=[k]) N.nd (by simp) (by simp) (λj h=>by rw[GE.mp h];exact i)];show(du ["from",a, "to",b] 1).bind _=_;have e:du ["from",a, "to",b] 1=some (x,y):=by
  unfold du;rw[GY (by simp),GY (by simp),GY (by simp),Hl ⟨R,R⟩];show(cN a).bind (λp=>(cN b).map λq=>(p,q))=_;rw[h1,f]
  rfl
 rw[e];show(if ef x y 1=(["from",a, "to",b]:List Str) then _ else _)=_;rw[Hl g]
theorem i6(N:Names nm)(k:Nat):dL (bK nm k):=⟨lX N k,lY N k,Hm (ie (λz a=>fH (N.name z a)) k) (by decide)⟩
theorem not_most(N:Names nm){k:Nat}(a:k<nm.length):bK nm k ≠ "most" := λz=>by
 have:=N.name _ (gG N.nd a).1;rw[z] at this;exact absurd this (by decide +kernel)
theorem zb(h:Lined nm L C):NoWoodL (dF nm L++[[bK nm 0, "must",bK nm (nm.length-1)]]++C.map (cy nm)) nm:=by
 have a:0<nm.length:=Hx.mpr h.nm.ne;have c:nm.length-1<nm.length:=by omega
 have e:cE nm 0 1 1 [nm.length-1]=[bK nm 0, "must",bK nm (nm.length-1)]:=rfl;refine vU h _ ⟨0,1,1,[nm.length-1]⟩ ?_ ?_ rfl ⟨by simp,by show 3<=60;decide,bH (i6 h.nm 0) (bH (bN (by decide +kernel)) (fM (i6 h.nm _)))⟩
 ·rw[<-e];exact j2 (h.nm.name _ (gG h.nm.nd a).1)
 ·rw[<-e];exact kE (lo:=1) (hi:=1) h.nm.nd a (by simp) (by simp) (λk b=>by rw[GE.mp b];exact c) (by decide) (by decide)
theorem rC(h:Lined nm L C){a b:Str}{x y:Int}(h1:cN a=some x)(d:cN b=some y)(e:ef x y 1=(["from",a, "to",b]:List Str))(g:dL a)(i:dL b):NoWoodL (dF nm L++[[bK nm 0, "from",a, "to",b,bK nm (nm.length-1)]]++C.map (cy nm)) nm:=by
 have c:0<nm.length:=Hx.mpr h.nm.ne;have f:nm.length-1<nm.length:=by omega
 refine vU h _ ⟨0,x,y,[nm.length-1]⟩ ?_ (E8 h.nm.ten c f h1 d e) rfl ⟨by simp,by show 6<=60;decide,bH (i6 h.nm 0) (bH (bN (by decide +kernel)) (bH g (bH (bN (by decide +kernel)) (bH i (fM (i6 h.nm _))))))⟩;exact j4 (not_most h.nm c) (.inl (by simp))
theorem k6{z:Str}{n:Int}(h:z=bX n)(a:n.natAbs<10^60):cN z=some n:=by
 rw[h];exact j7 a
theorem AB(h:Lined nm L C):NoWoodL (dF nm L++[[bK nm 0, "from", "9", "to", "1",bK nm (nm.length-1)]]++C.map (cy nm)) nm:=
 rC h (k6 (n:=9) (by decide +kernel) (by decide)) (k6 (n:=1) (by decide +kernel) (by decide)) (by decide +kernel) (bN (by decide +kernel)) (bN (by decide +kernel))
theorem Ba(h:Lined nm L C):NoWoodL (dF nm L++[[bK nm 0, "from", "0", "to", "0",bK nm (nm.length-1)]]++C.map (cy nm)) nm:=
 rC h (k6 (n:=0) (by decide +kernel) (by decide)) (k6 (n:=0) (by decide +kernel) (by decide)) (by decide +kernel) (bN (by decide +kernel)) (bN (by decide +kernel))
theorem AD(h:Lined nm L C):NoWoodL (dF nm L++[[bK nm 0, "from", "-1", "to", "1",bK nm (nm.length-1)]]++C.map (cy nm)) nm:=
 rC h (k6 (n := -1) (by decide +kernel) (by decide)) (k6 (n:=1) (by decide +kernel) (by decide)) (by decide +kernel) (bN (by decide +kernel)) (bN (by decide +kernel))
end
def ten:List Str:=["na", "nb", "nc", "nd", "ne", "nf", "ng", "nh", "ni", "nj"]
theorem ten_ok:gy ten:=⟨by decide,by decide,by decide +kernel,λz hz=>by
 have:∀z∈ten,iG z=true:=by decide +kernel
 exact(bN (this z hz)).2.1,by decide +kernel⟩
theorem yc:NoWoodL [(("ware" : Str)::ten),(("na" : Str) :: "may" :: ten.drop 1)] ten:=by
 have e:cE ten 0 0 9 [1,2,3,4,5,6,7,8,9]=(("na" : Str) :: "may" :: ten.drop 1):=by decide +kernel
 have b:∀z∈(("ware" : Str) :: "may" :: ten),iG z=true:=by decide +kernel
 refine⟨iN (by simp) (by decide) (by decide) (λh f=>?_),by decide,R,ten_ok,[⟨0,0,9,[1,2,3,4,5,6,7,8,9]⟩],[],?_,by decide,zT (by decide)⟩
 ·rcases GI.mp f with q|q
  ·rw[q];refine⟨by simp,by decide,λz a=>bN (b z ?_)⟩;rcases GI.mp a with y|y
   ·rw[y];exact GM
   ·exact GP _ (GP _ y)
  ·rw[GE.mp q];refine⟨by simp,by decide,λz a=>bN (b z ?_)⟩;rcases GI.mp a with y|y
   ·rw[y];decide +kernel
   rcases GI.mp y with y|y
   ·rw[y];decide +kernel
   ·exact GP _ (GP _ (HL y))
 ·show(eL ("ware" :: ten)).bind (λd=>(cz d [(("na" : Str) :: "may" :: ten.drop 1)] [] []).map λp=>(d,p.1,p.2))=_;rw[iJ ten_ok,<-e];show(cz ten [cE ten 0 0 9 [1,2,3,4,5,6,7,8,9]] [] []).map _=_;have y:=kE (nm:=ten) (u:=0) (lo:=0) (hi:=9) (ks:=[1,2,3,4,5,6,7,8,9]) ten_ok.nd (by decide) (by simp) (by decide) (by decide) (by decide) (by decide);have c:dq (cE ten 0 0 9 [1,2,3,4,5,6,7,8,9])=false:=j2 (by decide +kernel);have g:cz ten [cE ten 0 0 9 [1,2,3,4,5,6,7,8,9]] [] []=some ([⟨0,0,9,[1,2,3,4,5,6,7,8,9]⟩],[]):=by
   show(if dq (cE ten 0 0 9 [1,2,3,4,5,6,7,8,9])=true then _ else if ([]:List Tie)≠[] then none else (dQ ten (cE ten 0 0 9 [1,2,3,4,5,6,7,8,9])).bind λx=>cz ten [] ([]++[x]) [])=_;rw[GY (by rw[c];exact Hh),GY (λz=>z rfl),y]
   rfl
  rw[g]
  rfl
section
variable{nm:List Str}{L:List Bg}{C:List Tie}{new:Str}
theorem j8{k:Nat}(h:k<nm.length):bK (nm++[new]) k=bK nm k:=by
 unfold bK;rw[He,He,HX h]
theorem ux{b:Bg}(a:Tie.BoughOk nm.length b.u b.lo b.hi b.ks):cE (nm++[new]) b.u b.lo.toNat b.hi.toNat b.ks=cE nm b.u b.lo.toNat b.hi.toNat b.ks/\Tie.BoughOk (nm++[new]).length b.u b.lo b.hi b.ks:=by
 have l:(nm++[new]).length=nm.length+1:=by rw[GC];rfl
 have e:=a.um;have d:=a.few;refine⟨?_,⟨⟨by omega,a.ks0,λk c=>⟨(a.up k c).1,by have:=(a.up k c).2;omega⟩,a.ris,by omega,a.lo0,a.lohi⟩,a.hi1,a.hik⟩⟩;unfold cE;rw[j8 e,JI λk c=>j8 (a.up k c).2]
theorem wv{t:Tie}(g:Tie.Small nm.length t):cy (nm++[new]) t=cy nm t/\Tie.Small (nm++[new]).length t:=by
 have l:(nm++[new]).length=nm.length+1:=by rw[GC];rfl
 cases t with
 |bough u lo hi ks=>exact⟨rfl,trivial⟩
 |needs x y=>
  obtain⟨c,d⟩:=g;refine⟨?_,⟨by omega,by omega⟩⟩;show[bK (nm++[new]) x, "needs",bK (nm++[new]) y]=_;rw[j8 c,j8 d]
  rfl
 |bans x y=>
  obtain⟨c,d⟩:=g;refine⟨?_,⟨by omega,by omega⟩⟩;show[bK (nm++[new]) x, "bans",bK (nm++[new]) y]=_;rw[j8 c,j8 d]
  rfl
 |most top ps=>
  obtain⟨c,d,f⟩:=g;refine⟨?_,⟨c,d,λp a=>⟨by have:=(f p a).1;omega,(f p a).2⟩⟩⟩;show(["most",bX top, "of"]:List Str)++ps.flatMap (λp=>[bX p.2,bK (nm++[new]) p.1])=(["most",bX top, "of"]:List Str)++ps.flatMap λp=>[bX p.2,bK nm p.1]
  congr 1;have e:∀b:List (Nat×Int),(∀p∈b,p.1<nm.length)->b.flatMap (λp=>[bX p.2,bK (nm++[new]) p.1])=b.flatMap λp=>[bX p.2,bK nm p.1]:=by
   intro b
   induction b with
   |nil=>intro _;rfl
   |cons p r ih=>
    intro a;rw[IW,IW,j8 (a p GM),ih λx h=>a x (GP _ h)]
  exact e ps λp a=>(f p a).1
theorem vf:∀z∈cands,dA z=true/\iG z=true:=by decide +kernel
theorem yd(h:Lined nm L C)(n:new∈cands)(o:new∉nm):NoWoodL (((("ware" : Str)::nm)++[new])::(bU nm L C).drop 1) (nm++[new]):=by
 have l:(nm++[new]).length=nm.length+1:=by rw[GC];rfl
 have A:=h.nm.few;have w:0<nm.length:=Hx.mpr h.nm.ne;have s:=h.fewb;have v:=h.fewc;obtain⟨g,i⟩:=vf new n;have f:=bN i;have N:gy (nm++[new]):=by
  refine⟨by simp,by omega,JX.mpr ⟨h.nm.nd,by simp,λx k y m=>?_⟩,λz d=>?_,λz d=>?_⟩
  ·rw[GE.mp m];exact λz=>o (z▸k)
  ·rcases GL.mp d with q|q
   ·exact h.nm.plain z q
   ·rw[GE.mp q];exact f.2.1
  ·rcases GL.mp d with q|q
   ·exact h.nm.name z q
   ·rw[GE.mp q];exact g
 refine⟨iN (by simp) ?_ ?_ ?_,by rw[GN,Hd,fQ];omega,R,N,L,C,?_,?_,wI ?_⟩
 ·rw[GN,Hd,fQ];omega
 ·show((("ware" : Str)::nm)++[new]).length<=11;rw[GC,GN];show _+1+1<=11;omega
 ·intro r j;rcases GI.mp j with q|q
  ·rw[q];refine⟨by simp,by rw[GC,GN];show _+1+1<=60;omega,jb (bH (bN (by decide +kernel)) (j5 h.nm)) (fM f)⟩
  ·exact h.lines_ok r (HL q)
 ·show(eL ("ware" :: (nm++[new]))).bind (λe=>(cz e ((bU nm L C).drop 1) [] []).map λp=>(e,p.1,p.2))=_;rw[iJ N];show(cz (nm++[new]) (L.map (λb=>cE nm b.u b.lo.toNat b.hi.toNat b.ks)++C.map (cy nm)) [] []).map _=_;rw[JI λb c=>(ux (new:=new) (h.okb b c)).1.symm,JI (l:=C) λt a=>(wv (new:=new) (h.sm t a)).1.symm,gL,nK L [] N λb c=>(ux (h.okb b c)).2];show(cz (nm++[new]) (C.map (cy (nm++[new]))) L []).map _=_;rw[kW C L [] N λt a=>⟨h.cross a,(wv (h.sm t a)).2,h.rise a⟩]
  rfl
 ·rw[h.kids];omega
 ·rw[h.kids,l];omega
theorem Dz(k:Nat):(List.range' k (nm.length-k)).map (bK nm)=nm.drop k:=by
 apply List.ext_getElem?;intro i;rw[GQ,K5];by_cases a:i<nm.length-k
 ·rw[List.getElem?_range' a];show some (bK nm (k+1*i))=_;rw[Nat.one_mul,GG (by omega)];unfold bK;rw[He,GG (by omega)]
  rfl
 ·rw[Ja (by rw[IN];omega),Ja (by omega)]
  rfl
theorem BV(N:Names nm)(v:2<nm.length):NoWoodL [(("ware" : Str)::nm),(bK nm 0 :: "may" :: nm.drop 2),[bK nm 2, "may",bK nm 1]] nm:=by
 have w:=N.few;have h:=i6 N;have m:dL "may" := bN (by decide +kernel);have d:(List.range' 2 (nm.length-2)).length=nm.length-2:=IN;have q:cE nm 0 0 (nm.length-2) (List.range' 2 (nm.length-2))=(bK nm 0 :: "may" :: nm.drop 2):=by
  unfold cE cU;rw[d,GY (by omega),Hl ⟨R,R⟩,Dz]
  rfl
 have s:cE nm 2 0 1 [1]=[bK nm 2, "may",bK nm 1]:=rfl;have n:=kE (nm:=nm) (u:=0) (lo:=0) (hi:=nm.length-2) (ks:=List.range' 2 (nm.length-2)) N.nd (by omega) (λz=>by rw[z] at d;simp at d;omega) List.pairwise_lt_range' (λk f=>by have:=Lb.mp f;omega) (by omega) (by omega);have o:=kE (nm:=nm) (u:=2) (lo:=0) (hi:=1) (ks:=[1]) N.nd (by omega) (by simp) (by simp) (λk f=>by rw[GE.mp f];omega) (by decide) (by decide);have i:=j2 (ns:=nm) (u:=0) (lo:=0) (hi:=nm.length-2) (ks:=List.range' 2 (nm.length-2)) (N.name _ (gG N.nd (by omega)).1);have j:=j2 (ns:=nm) (u:=2) (lo:=0) (hi:=1) (ks:=[1]) (N.name _ (gG N.nd (by omega)).1);rw[q] at n i;rw[s] at o j;refine⟨iN (by simp) (by show 3<=40;decide) ?_ ?_,by show 3<=39;decide,R,N.ten,[⟨0,(0:Nat),(nm.length-2:Nat),List.range' 2 (nm.length-2)⟩,⟨2,(0:Nat),(1:Nat),[1]⟩],[],?_,?_,Gx (b:=⟨2,(0:Nat),(1:Nat),[1]⟩) (by simp) ?_⟩
 ·show(("ware" : Str)::nm).length<=11;rw[GN];omega
 ·intro a l;simp only[GI,Hs,Iw] at l;rcases l with rfl|rfl|rfl
  ·exact⟨by simp,by rw[GN];omega,bH (bN (by decide +kernel)) (j5 N)⟩
  ·exact⟨by simp,by rw[GN,GN,Hd];omega,bH (h 0) (bH m λz t=>j5 N z (HL t))⟩
  ·exact⟨by simp,by show 3<=60;decide,bH (h 2) (bH m (fM (h 1)))⟩
 ·show(eL ("ware" :: nm)).bind (λe=>(cz e [(bK nm 0 :: "may" :: nm.drop 2),[bK nm 2, "may",bK nm 1]] [] []).map λp=>(e,p.1,p.2))=_;rw[iJ N.ten];have g:∀(a:List Str)(r:List (List Str))(B:List Bg)(b:Bg),dq a=false->dQ nm a=some b->cz nm (a::r) B []=cz nm r (B++[b]) []:=λa r B b c y=>by
   show(if dq a=true then _ else if ([]:List Tie)≠[] then none else (dQ nm a).bind λx=>cz nm r (B++[x]) [])=_;rw[GY (by rw[c];exact Hh),GY (λz=>z rfl),y]
   rfl
  show(cz nm [(bK nm 0 :: "may" :: nm.drop 2),[bK nm 2, "may",bK nm 1]] [] []).map _=_;rw[g _ _ _ _ i n,g _ _ _ _ j o]
  rfl
 ·show(List.range' 2 (nm.length-2)++([1]++[])).length<=60;rw[GC,d];show _+1<=60;omega
 ·show(dI (.int (2:Int)) 0 ((nm.length:Int)-1)&&(gE (.tuple [.int 1])&&((decide ((2:Int)+1<=1)&&decide ((1:Int)<=(nm.length:Int)-1)&&cZ (nm.length:Int) [] 1)&&_)))=false;simp
end
def bV(a:List (List Str)):List Str:=a.map (Str.join " ")
def EU:Sp:=λh H Q _=>∃(d e:Addr)(c:List Str)(L:List Bg)(C:List Tie)(a:Int),h=[.ref d,.ref e,.int (C.length:Int),.int a]/\H d=some (.lst (bF (bV (bU c L C))))/\H e=some (.lst (bF c))/\Lined c L C/\0<=a/\a<9 /\
 ∀(f:List (List Str))(g:List Str)(p:Addr)(b:Hp),Same H b->b p=some (.lst (bF (bV f)))->NoWoodL f g->Q (.ref p) b
theorem y8{nm:List Str}(h:nm≠[]):eJ (bF nm) (-1)=some (.str (bK nm (nm.length-1))):=by
 have b:0<nm.length:=Hx.mpr h;have l:(bF nm).length=nm.length:=by rw[bF,Gz]
 have e:=fI (ns:=nm) (k:=nm.length-1) (by omega);have a:ir (bF nm).length (-1)=some (nm.length-1):=by
  unfold ir;rw[l,GY (by decide),Hl (by omega)];congr 1;omega
 unfold eJ;rw[a];exact e
theorem kL(a:List (List Str))(ws:List Str):bV (a++[ws])=bV a++[Str.join " " ws]:=by
 unfold bV;rw[GX]
 rfl
theorem rE{g:TA}{D:Ends}{e:St}{H:Hp}{i:Nat}{p:Addr}{a xs:List Str}(m:e[i]?=some (some (.ref p)))(l:H p=some (.lst (bF a)))(n:iq g e xs)(hz:a.length+xs.length<=1000)
  (k:∀(c:Addr)(d:Hp),Same H d->d c=some (.lst (bF (a++xs)))->D.rt (.ref c) d):mV (fF iV (eG i) (gO g)) D e H:=by
 refine⟨_,m,n H _ ?_⟩;have o:(bF xs).length=xs.length:=by rw[bF,Gz]
 have q:(bF a).length=a.length:=by rw[bF,Gz]
 refine⟨bT (by omega),λb j=>?_⟩;have f:=bL j (.lst (bF xs));refine⟨p,b,bF a,bF xs,R,R,f _ _ l,bI,bT (by omega),λc h=>?_⟩;rw[<-ed];exact k c _ (f.trans (bL h _)) bI
theorem oS(x y:Str)(k:Str)(a:Str)(h:a.cps.toList=32::(k.cps.toList++[32])):x++a++y=Str.join " " [x,k,y]:=by
 apply iB;simp only[Str.join,GB,GH,h];simp
 rfl
theorem FQ:bV [(("ware" : Str)::ten),(("na" : Str) :: "may" :: ten.drop 1)]=(["ware na nb nc nd ne nf ng nh ni nj", "na may nb nc nd ne nf ng nh ni nj"]:List Str):=by decide +kernel
theorem Gd(x:Str):("most 9 of 1 " : Str)++x=Str.join " " ["most", "9", "of", "1",x]:=by
 apply iB;simp only[Str.join,GB,GH]
 rfl
theorem vR(xs:List V)(k:Nat):dS xs none (some (k:Int))=xs.take k:=by
 unfold dS;rw[HT.sIx_nat];show(xs.drop 0).take (min k xs.length-0)=_;rw[LD,Nat.sub_zero];by_cases z:k<=xs.length
 ·rw[Jr z]
 ·rw[JN (by omega),HC (GW _),HC (by omega)]
theorem Ej{nm:List Str}(N:Names nm):(Str.join " " ((["ware"]:List Str)++nm)).length<=100:=by
 have e:=N.few;have c:=gD (b:=8) (ws:=(["ware"]:List Str)++nm) λz d=>by
  rcases GL.mp d with q|q
  ·rw[GE.mp q];decide
  ·exact fH (N.name z q)
 have a:=Ic (" " : Str) ((["ware"]:List Str)++nm);rw[show((" " : Str)).length=1 from rfl] at a;rw[GC] at c a;rw[show(["ware"]:List Str).length=1 from rfl] at c a;omega
theorem D0{nm:List Str}{new:Str}:Str.join " " ((["ware"]:List Str)++nm) ++ " " ++ new=Str.join " " ((("ware" : Str)::nm)++[new]):=(kM (a:=("ware" : Str)::nm) (b:=[new]) (by simp) (by simp)).symm
theorem FH{nm:List Str}{x:Str}(h:nm≠[]):x ++ " may " ++ Str.join " " nm=Str.join " " (x :: "may" :: nm):=by
 rw[show(x :: "may" :: nm:List Str)=[x, "may"]++nm from rfl,kM (by simp) h];apply iB;simp only[Str.join,GB,GH]
 rfl
theorem qN(x y a b:Str)(k:Str)(h:k.cps.toList=("from" : Str).cps.toList++(32::(a.cps.toList++(32::(("to" : Str).cps.toList++(32::b.cps.toList)))))):Str.join " " [x,k,y]=Str.join " " [x, "from",a, "to",b,y]:=by
 apply iB;simp only[Str.join,GB,GH,h];simp
 rfl
theorem El(nm:List Str)(L:List Bg)(C:List Tie):(bV (bU nm L C)).take (1+L.length)=bV (dF nm L)/\(bV (bU nm L C)).drop (1+L.length)=bV (C.map (cy nm)):=by
 have l:(dF nm L).length=1+L.length:=by
  unfold dF;rw[GN,Gz];omega
 unfold bV bU;rw[<-II,<-Jb,<-l,LG,List.drop_left];exact⟨R,R⟩
def hX(nm:List Str)(u lo hi:Nat)(ks:List Nat):List Str:=([bK nm u, "from",bX lo, "to",bX hi]:List Str)++ks.map (bK nm)
def DL:Sp:=λf H Q _=>∃(e:Addr)(v:V)(a:List Str)(u lo c:Nat)(b:List Nat),f=[.ref e,v]/\H e=some (.lst (bF a))/\Dn H (Tie.bough u lo c b).toD v/\(∀z∈a,z.length<=8)/\u<a.length/\(∀k∈b,k<a.length)/\lo<=1000/\c<=1000/\b.length<=9/\∀d,Same H d->Q (.str (Str.join " " (hX a u lo c b))) d
theorem Fs{nm:List Str}{u lo hi:Nat}{ks:List Nat}(N:gy nm)(m:u<nm.length)(i:ks≠[])(j:ks.Pairwise (·<·))(h:∀k∈ks,k<nm.length)(f:lo<=1000)(g:hi<=1000)(d:(cU lo hi ks.length).head?≠some "from")(b:bK nm u ≠ "most"):fh nm (hX nm u lo hi ks):=by
 refine kG (j4 b (.inl (by simp))) ?_;have l:cV (hX nm u lo hi ks)=5:=by
  unfold cV;rw[Hl]
  rfl
 unfold dQ;rw[l];show(dw nm (bK nm u)).bind (λu=>(c9 nm (ks.map (bK nm))).bind λa=>(du ["from",bX lo, "to",bX hi] a.length).bind λc=>if ef c.1 c.2 a.length=(["from",bX lo, "to",bX hi]:List Str) then some (⟨u,c.1,c.2,a⟩:Bg) else none)=none;rw[jI N.nd m,l8 N.nd i j h];have e:du ["from",bX lo, "to",bX hi] ks.length=some ((lo:Int),(hi:Int)):=by
  unfold du;rw[GY (by simp),GY (by simp),GY (by simp),Hl ⟨R,R⟩];show(cN (bX lo)).bind (λp=>(cN (bX hi)).map λq=>(p,q))=_;rw[j7 (iz f),j7 (iz g)]
  rfl
 show(du ["from",bX lo, "to",bX hi] ks.length).bind _=_;rw[e];show(if ef (lo:Int) (hi:Int) ks.length=(["from",bX lo, "to",bX hi]:List Str) then _ else none)=none;rw[GY];rw[uq];intro z;rw[z] at d;exact d rfl
def BadLs(a:List (List Str)):Prop:=TextL a/\jo a=none
def eQ(ws:List Str):List Str:=if ws.getD 0 "" = "most" then ws.take 3++(ws.drop 5).take 2++(ws.drop 3).take 2++ws.drop 7 else ws.take (ws.length-2)++[ws.getD (ws.length-1) "",ws.getD (ws.length-2) ""]
def Gj:Sp:=λc H Q _=>∃a:List Str,c=[.str (Str.join " " a)]/\2<=a.length/\a.length<=60/\(∀z∈a,jp 32 z)/\(∀z∈a,z.length<=100)/\∀b,Same H b->Q (.str (Str.join " " (eQ a))) b
theorem FB(ws:List Str){a b:Nat}(h:a<=b):dS (bF ws) (some (a:Int)) (some (b:Int))=bF ((ws.drop a).take (b-a)):=by
 unfold dS bF;rw[HT.sIx_nat,HT.sIx_nat,Gz,<-Jb,<-II];congr 1;by_cases c:a<=ws.length
 ·rw[Jr c];by_cases d:b<=ws.length
  ·rw[Jr d]
  ·rw[JN (by omega),HC (by rw[Hd];omega),HC (by rw[Hd];omega)]
 ·rw[Kt (by omega),Kt (by omega),Li,Li]
theorem E6(ws:List Str):dS (bF ws) none (some (-2))=bF (ws.take (ws.length-2)):=by
 unfold dS bF;rw[Gz];show((ws.map V.str).drop 0).take (HT.sIx ws.length ws.length (some (-2))-0)=_;rw[LD,Nat.sub_zero,<-II];rw[show HT.sIx ws.length ws.length (some (-2))=ws.length-2 from by
  show((-2:Int)+(ws.length:Int)).toNat=_;omega]
theorem Ek(ws:List Str)(k:Nat):dS (bF ws) none (some (k:Int))=bF (ws.take k):=by
 rw[vR];unfold bF;rw[<-II]
theorem u6(ws:List Str)(k:Nat):dS (bF ws) (some (k:Int)) none=bF (ws.drop k):=(jF _ k).trans (kD _ k)
theorem wE{ws:List Str}{k:Nat}(b:0<k)(h:k<=ws.length):eJ (bF ws) (-(k:Int))=some (.str (ws.getD (ws.length-k) "")):=by
 have l:(bF ws).length=ws.length:=by rw[bF,Gz]
 have a:ir (bF ws).length (-(k:Int))=some (ws.length-k):=by
  unfold ir;rw[l,GY (by omega),Hl (by omega)];congr 1;omega
 unfold eJ;rw[a];show(bF ws)[ws.length-k]?=_;unfold bF;rw[GQ,GG (by omega),He,GG (by omega)]
 rfl
theorem vT{ws:List Str}{n:Nat}(h:∀z∈ws,z.length<=n)(k:Nat):(ws.getD k "").length<=n:=by
 rw[He]
 cases e:ws[k]? with
 |none=>exact Iv _
 |some z=>exact h z (GO e)
theorem Fm{ws:List Str}(l:ws.length<=60)(h:∀z∈ws,z.length<=100):(eQ ws).length<=100/\∀z∈eQ ws,z.length<=100:=by
 unfold eQ
 split
 ·refine⟨?_,λz a=>?_⟩
  ·rw[GC,GC,GC,G8,G8,G8,Hd,Hd,Hd];omega
  ·simp only[GL] at a;rcases a with((q|q)|q)|q
   ·exact h z (HG q)
   ·exact h z (HL (HG q))
   ·exact h z (HL (HG q))
   ·exact h z (HL q)
 ·refine⟨?_,λz a=>?_⟩
  ·rw[GC,G8];show _+2<=100;omega
  ·simp only[GL,GI,Hs,Iw] at a;rcases a with q|rfl|rfl
   ·exact h z (HG q)
   ·exact vT h _
   ·exact vT h _
section
variable{nm:List Str}{L:List Bg}{C:List Tie}
theorem vm{a c:List Str}{x y:Nat}(b:nm.Nodup)(h:x<y)(d:y<nm.length):c9 nm (a++bK nm y::bK nm x::c)=none:=by
 unfold c9;rw[GY];rintro⟨_,_,p⟩;rw[GX,HD,HD,(gG b d).2,(gG b (show x<nm.length by omega)).2] at p;have:=(IQ.mp (List.pairwise_append.mp p).2.1).1 x GM;omega
theorem two_last{c:Type}{ks:List c}(h:1<ks.length):∃a x y,ks=a++[x,y]:=by
 refine⟨ks.take (ks.length-2),ks[ks.length-2],ks[ks.length-1],?_⟩;have e:ks=ks.take (ks.length-2)++ks.drop (ks.length-2):=(IK _ _).symm;have b:ks.drop (ks.length-2)=[ks[ks.length-2],ks[ks.length-1]]:=by
  rw[J6 (by omega),J6 (by omega),Kt (by omega)];congr 3;omega
 rw[b] at e;exact e
theorem Gc{a:List Str}{x y:Str}(h:(a++[x,y]).getD 0 "" ≠ "most"):eQ (a++[x,y])=a++[y,x]:=by
 unfold eQ;rw[GY h];have l:(a++[x,y]).length=a.length+2:=by rw[GC];rfl
 rw[l,Nat.add_sub_cancel,LG,show a.length+2-1=a.length+1 from rfl,He,He,HP (by omega),HP (by omega),show a.length+1-a.length=1 by omega,KZ]
 rfl
theorem DS{u lo hi:Nat}{ks:List Nat}(N:gy nm)(c:bK nm u ≠ "most")(f:ks.Pairwise (·<·))(d:∀k∈ks,k<nm.length)(k2:1<ks.length):fh nm (eQ (cE nm u lo hi ks))/\(eQ (cE nm u lo hi ks)).Perm (cE nm u lo hi ks):=by
 obtain⟨a,x,y,rfl⟩:=two_last k2;have g:x<y:=(IQ.mp (List.pairwise_append.mp f).2.1).1 y GM;have e:cE nm u lo hi (a++[x,y])=(bK nm u::(cU lo hi (a++[x,y]).length++a.map (bK nm)))++[bK nm x,bK nm y]:=by
  unfold cE;rw[GX,Lm,GH]
  rfl
 rw[e,Gc (by exact c)];refine⟨?_,JT _ (List.Perm.swap ..)⟩;have r:c9 nm (a.map (bK nm)++[bK nm y,bK nm x])=none:=vm N.nd g (d y (by simp));rw[Lm,GH];rcases u8 lo hi (a++[x,y]).length with⟨h,b,n⟩|b
 ·rw[b];exact jC (r:=a.map (bK nm)++[bK nm y,bK nm x]) c (.inl (by rw[GC];show _+2≠1;omega)) n r
 ·rw[b];exact fz c (.inl r)
theorem Fb{top:Int}{c:List (Nat×Int)}(N:gy nm)(i:(c.map (·.1)).Pairwise (·<·))(g:∀p∈c,p.1<nm.length)(k2:1<c.length):fh nm (eQ (cy nm (.most top c)))/\(eQ (cy nm (.most top c))).Perm (cy nm (.most top c)):=by
 obtain⟨p,q,r,rfl⟩:∃p q r,c=p::q::r:=by
  match c,k2 with
  |p::q::r,_=>exact⟨p,q,r,rfl⟩
 have h:p.1<q.1:=(IQ.mp i).1 q.1 GM;obtain⟨b,f⟩:∃b,b=r.flatMap λp=>[bX p.2,bK nm p.1]:=⟨_,rfl⟩
 have e:cy nm (.most top (p::q::r))=("most" : Str)::bX top::("of" : Str)::bX p.2::bK nm p.1::bX q.2::bK nm q.1::b:=by
  rw[f]
  rfl
 have d:eQ (cy nm (.most top (p::q::r)))=("most" : Str)::bX top::("of" : Str)::bX q.2::bK nm q.1::bX p.2::bK nm p.1::b:=by
  rw[e]
  rfl
 rw[d,e];refine⟨fJ (nM ?_),?_⟩
 ·rw[mZ];show c9 nm (bK nm q.1::cJ (bK nm p.1::b))=none;rw[mZ];exact vm (a:=[]) N.nd h (g q (by simp))
 ·exact .cons _ (.cons _ (.cons _ (List.Perm.append_right (l₁:=[bX q.2,bK nm q.1]++[bX p.2,bK nm p.1]) (l₂:=[bX p.2,bK nm p.1]++[bX q.2,bK nm q.1]) b List.perm_append_comm)))
theorem yB{u k:Nat}(N:gy nm)(e:bK nm u ≠ "most")(g:u<nm.length)(d:k<nm.length):fh nm [bK nm u, "one",bK nm k]:=by
 refine kG (j4 e (.inr ⟨(by decide:("one" : Str) ≠ "needs"),(by decide:("one" : Str) ≠ "bans")⟩)) ?_;have f:cV [bK nm u, "one",bK nm k]=2:=rfl;unfold dQ;rw[f];show(dw nm (bK nm u)).bind (λu=>(c9 nm ([k].map (bK nm))).bind λa=>(du ["one"] a.length).bind λc=>if ef c.1 c.2 a.length=(["one"]:List Str) then some (⟨u,c.1,c.2,a⟩:Bg) else none)=none;rw[jI N.nd g,l8 N.nd (by simp) (by simp) (λj b=>by rw[GE.mp b];exact d)]
 rfl
theorem rA(h:Lined nm L C){k:Nat}{ws:List Str}(i:k+1<(bU nm L C).length)(d:ws≠[]/\ws.length<=60/\∀z∈ws,dL z)(a:fh nm ws):BadLs ((bU nm L C).take (k+1)++[ws]++(bU nm L C).drop (k+2)):=by
 have j:=fQ (ns:=nm) (L:=L) (C:=C);have f:=h.fewb;have g:=h.fewc;have l:=h.nm.few;have e:(bU nm L C).take (k+1)++[ws]++(bU nm L C).drop (k+2)=(("ware" : Str)::nm)::(((bU nm L C).drop 1).take k++[ws]++(bU nm L C).drop (k+2)):=rfl;refine⟨iN (by rw[e];simp) ?_ (by rw[e];show(("ware" : Str)::nm).length<=11;rw[GN];omega) ?_,?_⟩
 ·rw[GC,GC,G8,Hd];show _+1+_<=40;omega
 ·intro w c;rcases GL.mp c with q|q
  ·rcases GL.mp q with q|q
   ·exact h.lines_ok w (HG q)
   ·rw[GE.mp q];exact d
  ·exact h.lines_ok w (HL q)
 ·rw[e];show(eL ("ware" :: nm)).bind (λb=>(cz b (((bU nm L C).drop 1).take k++[ws]++(bU nm L C).drop (k+2)) [] []).map λp=>(b,p.1,p.2))=_;rw[iJ h.nm.ten];show(cz nm _ [] []).map _=none;rw[xz (ws:=ws) (by simp) a]
  rfl
theorem EX(h:Lined nm L C){k:Nat}(a:k<L.length)(n:C≠[]):BadLs ((bU nm L C).take (k+1)++(bU nm L C).drop (k+2)++[(bU nm L C).getD (k+1) []]):=by
 have x:=fQ (ns:=nm) (L:=L) (C:=C);have s:=h.fewb;have v:=h.fewc;have y:=h.nm.few;obtain⟨f,l⟩:∃f:Bg->List Str,f=λb=>cE nm b.u b.lo.toNat b.hi.toNat b.ks:=⟨_,rfl⟩
 have d:bU nm L C=(("ware" : Str)::nm)::(L.map f++C.map (cy nm)):=by rw[l];rfl
 have g:(bU nm L C).getD (k+1) []=f L[k]:=by
  rw[d,List.getD_cons_succ,He,HX (by rw[Gz];exact a),GQ,GG a]
  rfl
 have e:(bU nm L C).take (k+1)++(bU nm L C).drop (k+2)++[(bU nm L C).getD (k+1) []]=(("ware" : Str)::nm)::((L.take k++L.drop (k+1)).map f++(C.map (cy nm)++[f L[k]])):=by
  rw[g,d,KR,List.drop_succ_cons,List.take_append_of_le_length (by rw[Gz];omega),List.drop_append_of_le_length (by rw[Gz];omega),GX,II,Jb];simp
 have r:f L[k]∈bU nm L C:=by
  rw[d];exact GP _ (IP _ (Hc.mpr ⟨_,IH a,R⟩))
 refine⟨iN (by simp) ?_ (by rw[e];show(("ware" : Str)::nm).length<=11;rw[GN];omega) ?_,?_⟩
 ·rw[GC,GC,G8,Hd];show _+_+1<=40;omega
 ·intro w o;rcases GL.mp o with q|q
  ·rcases GL.mp q with q|q
   ·exact h.lines_ok w (HG q)
   ·exact h.lines_ok w (HL q)
  ·rw[GE.mp q,g];exact h.lines_ok _ r
 ·rw[e];show(eL ("ware" :: nm)).bind (λj=>(cz j ((L.take k++L.drop (k+1)).map f++(C.map (cy nm)++[f L[k]])) [] []).map λp=>(j,p.1,p.2))=_;rw[iJ h.nm.ten];show(cz nm _ [] []).map _=none;rw[gL,l,nK _ [] h.nm.ten (λb m=>by
   rcases GL.mp m with q|q
   ·exact h.okb b (HG q)
   ·exact h.okb b (HL q))]
  show(cz nm (C.map (cy nm)++_) _ []).map _=none;rw[gL,kW C _ [] h.nm.ten λt i=>⟨h.cross i,h.sm t i,h.rise i⟩];show(cz nm [cE nm L[k].u L[k].lo.toNat L[k].hi.toNat L[k].ks] _ ([]++C)).map _=none;have c:dq (cE nm L[k].u L[k].lo.toNat L[k].hi.toNat L[k].ks)=false:=j2 (h.nm.name _ (gG h.nm.nd (h.okb _ (IH a)).um).1);show(if dq (cE nm L[k].u L[k].lo.toNat L[k].hi.toNat L[k].ks)=true then _ else if ([]++C)≠[] then none else _).map _=none;rw[GY (by rw[c];exact Hh),Hl (show([]++C)≠[] from n)]
  rfl
theorem EV(h:Lined nm L C):BadLs (bU nm L C++[(["most", "0", "of"]:List Str)]):=by
 have g:=fQ (ns:=nm) (L:=L) (C:=C);have d:=h.fewb;have f:=h.fewc;have i:=h.nm.few;have e:bU nm L C++[(["most", "0", "of"]:List Str)]=(("ware" : Str)::nm)::((bU nm L C).drop 1++[(["most", "0", "of"]:List Str)]):=rfl;refine⟨iN (by simp) ?_ (by rw[e];show(("ware" : Str)::nm).length<=11;rw[GN];omega) ?_,?_⟩
 ·rw[GC];show _+1<=40;omega
 ·intro w a;rcases GL.mp a with q|q
  ·exact h.lines_ok w q
  ·rw[GE.mp q];have:∀z∈(["most", "0", "of"]:List Str),iG z=true:=by decide +kernel
   exact⟨by simp,by show 3<=60;decide,λz b=>bN (this z b)⟩
 ·rw[e];exact wt λc _=>fJ (kv (.inl (by decide)))
end
def Bents(H:Hp)(pa:Addr)(b:List V):Prop:=∀r∈b,∃p a,p≠pa/\r=.ref p/\H p=some (.lst (bF (bV a)))/\BadLs a
theorem Bents.nil{H:Hp}{pa:Addr}:Bents H pa []:=λr h=>nomatch h
theorem Bents.to{H a:Hp}{pa:Addr}{c:List V}(b:Bents H pa c)(s:Same H a):Bents a pa c:=λr d=>by
 obtain⟨p,f,n,e,h,k⟩:=b r d;exact⟨p,f,n,e,s _ _ h,k⟩
theorem Bents.put{H:Hp}{pa p:Addr}{c:List V}{o:HO}{a:List (List Str)}(b:Bents H pa c)(n:p≠pa)(h:H p=some (.lst (bF (bV a))))(k:BadLs a):Bents (upd H pa o) pa (c++[.ref p]):=λr d=>by
 rcases GL.mp d with q|q
 ·obtain⟨p,a,n,e,h,k⟩:=b r q;exact⟨p,a,n,e,by rw[bR n];exact h,k⟩
 ·rw[GE.mp q];exact⟨p,a,n,R,by rw[bR n];exact h,k⟩
def Tw(b:TE)(c:St)(H0:Hp)(xs:List Str):Prop:=∀(H:Hp)(Q:VK),Same H0 H->(∀(p:Addr)(a:Hp),Same H a->H p=none->a p=some (.lst (bF xs))->Q (.ref p) a)->b c H Q
def Tx(b:TE)(c:St)(H0:Hp)(x:Str):Prop:=∀(H:Hp)(Q:VK),Same H0 H->(∀a,Same H a->Q (.str x) a)->b c H Q
def Tn(a:TE)(b:St)(n:Nat):Prop:=∀(H:Hp)(Q:VK),Q (.int (n:Int)) H->a b H Q
section
variable{σ:St}{H0:Hp}{K:PySem.W.Frag}
theorem tw_cat{h tb:TE}{xs ys:List Str}(h1:Tw h σ H0 xs)(l:Tw tb σ H0 ys)(hz:xs.length+ys.length<=1000):Tw (fF iV h tb) σ H0 (xs++ys):=λH Q s q=>by
 have g:∀c:List Str,(bF c).length=c.length:=λc=>by rw[bF,Gz]
 refine h1 H _ s λp i d n j=>l i _ (s.trans d) λr m e o k=>⟨p,r,bF xs,bF ys,R,R,e _ _ j,k,bT (by rw[g,g];exact hz),λb a=>?_⟩
 have f:=d.trans e;rw[<-ed];exact q b _ (f.trans (bL a _)) (f.free a) bI
theorem tw_upto{b:TE}{i:Nat}{l:Addr}{ws:List Str}{n:Nat}(h:σ[i]?=some (some (.ref l)))(c:H0 l=some (.lst (bF ws)))(d:Tn b σ n):Tw (iI (jq K) (eG i) jH (iT b)) σ H0 (ws.take n):=λH Q s q=>by
 refine⟨_,h,d H _ ⟨_,R,l,_,R,SqL.of (s _ _ c),λp a=>?_⟩⟩;rw[Ek];exact q p _ (bL a _) a bI
theorem tw_from{b:TE}{i:Nat}{l:Addr}{ws:List Str}{n:Nat}(h:σ[i]?=some (some (.ref l)))(c:H0 l=some (.lst (bF ws)))(d:Tn b σ n):Tw (iI (jq K) (eG i) (iT b) jH) σ H0 (ws.drop n):=λH Q s q=>by
 refine⟨_,h,d H _ ⟨_,R,l,_,R,SqL.of (s _ _ c),λp a=>?_⟩⟩;rw[u6];exact q p _ (bL a _) a bI
theorem tw_mid{b tb:TE}{i:Nat}{l:Addr}{ws:List Str}{n m:Nat}(h:σ[i]?=some (some (.ref l)))(e:H0 l=some (.lst (bF ws)))(c:Tn b σ n)(d:Tn tb σ m)(f:n<=m):Tw (iI (jq K) (eG i) (iT b) (iT tb)) σ H0 ((ws.drop n).take (m-n)):=λH Q s q=>by
 refine⟨_,h,c H _ ⟨_,R,d H _ ⟨_,R,l,_,R,SqL.of (s _ _ e),λp a=>?_⟩⟩⟩;rw[FB _ f];exact q p _ (bL a _) a bI
theorem tw_less2{b:TE}{i:Nat}{l:Addr}{ws:List Str}(h:σ[i]?=some (some (.ref l)))(c:H0 l=some (.lst (bF ws)))(d:∀(H:Hp) (Q:VK),Q (.int (-2)) H->b σ H Q):Tw (iI (jq K) (eG i) jH (iT b)) σ H0 (ws.take (ws.length-2)):=λH Q s q=>by
 refine⟨_,h,d H _ ⟨_,R,l,_,R,SqL.of (s _ _ c),λp a=>?_⟩⟩;rw[E6];exact q p _ (bL a _) a bI
theorem tw_one{c:TE}{x:Str}(h:Tx c σ H0 x):Tw (gO (gm c gN)) σ H0 [x]:=λH Q s q=>h H _ s λd b=>⟨Ow.w1 _,λp a=>q p _ (b.trans (bL a _)) (b.free a) bI⟩
theorem tw_two{d tb:TE}{x y:Str}(h:Tx d σ H0 x)(h':Tx tb σ H0 y):Tw (gO (gm d (gm tb gN))) σ H0 [x,y]:=λH Q s q=>h H _ s λe a=>h' e _ (s.trans a) λf c=>⟨bT (by show 2<=1000;decide),λp b=>q p _ ((a.trans c).trans (bL b _)) ((a.trans c).free b) bI⟩
theorem wJ{b:TE}{xs:List Str}{a:Str}(h:Tw b σ H0 xs)(hz:(xs.map (·.length)).sum+xs.length*a.length<=1000000):Tx (jY K "str" (oE K) (tC (.str a)) (gm b gN)) σ H0 (Str.join a xs):=λH Q s q=>⟨R,h H _ s λp c d _ e=>⟨a,p,xs,R,R,SqL.of e,hz,q c d⟩⟩
theorem sL{a:TE}{i:Nat}{l:Addr}{ws:List Str}{n:Int}{z:Str}(h:σ[i]?=some (some (.ref l)))(b:H0 l=some (.lst (bF ws)))(c:∀(H:Hp) (Q:VK),Q (.int n) H->a σ H Q)(e:eJ (bF ws) n=some (.str z)):Tx (fF (oY K) (eG i) a) σ H0 z:=λH Q s q=>⟨_,h,c H _ ⟨l,_,_,_,R,R,SqL.of (s _ _ b),e,q H (Same.refl H)⟩⟩
end
end Ow
namespace L2
open PySem Ow Wd
theorem Ex{n:Nat}{f d:St}{H:Hp}{q:TT}{Q:VK}(b:Nat->Bool)(t:f=none::d)(r:n<=1000)
  (x:∀s,s<n->∀a,Same H a->∀R:Bool->Hp->Prop,(∀j,Same H j->R (b s) j)->q (some (.int (s:Int))::d) a R)
  (u:∀a p,Same H a->a p=none->Q (.ref p) (upd a p (.lst (cq ((List.range n).filter b))))):
  ju (gK 0 n) (gn 0) q (eG 0) f H Q:=by
 refine kF (k:=n) (λi g h a=>(∃v,h=v::d)/\Same H a/\g=cq ((List.range i).filter b)) ⟨⟨none,t⟩,Same.refl _,rfl⟩ (λi g h a m pv=>?_) (λi g h a m pv=>?_) (λg h a pv p w=>?_)
 ·obtain⟨_,_,rfl⟩:=pv;rw[Gz];refine bT (Hm (Ie _ _) ?_);rw[IE];omega
 ·obtain⟨⟨v,rfl⟩,l,rfl⟩:=pv;refine x i m a l _ λj o=>?_;have e:cq ((List.range (i+1)).filter b)=cq ((List.range i).filter b)++(if b i=true then [V.int (i:Int)] else []):=by
   rw[LA,JA,cq,GX];congr 1
   cases c:b i
   ·rw[JK (by rw[c];decide),GY (by decide)]
    rfl
   ·rw[JL c,Hl rfl]
    rfl
  cases c:b i
  ·refine cX ?_;rw[c,GY (by decide),HZ] at e;exact⟨⟨_,rfl⟩,o,e.symm⟩
  ·refine dB ?_;rw[c,Hl rfl] at e;exact⟨_,rfl,⟨_,rfl⟩,o,e.symm⟩
 ·obtain⟨_,l,rfl⟩:=pv;exact u a p l w
end L2
namespace Ow
open PySem L2 Wd
theorem Fv{H:Hp}{L:List Bg}{e:List V}(h:DnL H ((L.map Bg.tie).map Tie.toD) e){k:Nat}{b:Bg}(n:L[k]?=some b):∃a c,e[k]?=some (.ref a)/\H a=some (.tup [.int (b.u:Int),.int b.lo,.int b.hi,.ref c])/\H c=some (.tup (cq b.ks))/\Dn H (Tie.bough b.u b.lo b.hi b.ks).toD (.ref a):=by
 obtain⟨x,o,d⟩:=h.get' (i:=k) (d:=b.tie.toD) (by rw[GQ,GQ,n];rfl);have m:=d;obtain⟨a,A,rfl,f,q,v,rfl,rfl,r,w,rfl,rfl,s,y,rfl,rfl,t,z,rfl,⟨c,p,rfl,g,j⟩,rfl⟩:=d;have l:p=cq b.ks:=n6 j;subst l;exact⟨a,c,o,f,g,m⟩
theorem FD{H:Hp}{C:List Tie}{ys:List V}(h:DnL H (C.map Tie.toD) ys)(E:∀t∈C,iO t=true){k:Nat}{t:Tie}(w:C[k]?=some t):∃p m F z,ys[k]?=some (.ref p)/\H p=some (.tup [.str m,F,z])/\((m ≠ "most" /\ ∀top c,t≠.most top c)\/(m = "most" /\ ∃top c g j,t=.most top c/\z=.ref g/\H g=some (.tup j)/\j.length=c.length)):=by
 have D:=E t (GO w);obtain⟨x,l,d⟩:=h.get' (i:=k) (d:=t.toD) (by rw[GQ,w];rfl)
 cases t with
 |bough u lo hi ks=>cases D
 |needs a b=>
  obtain⟨p,y,rfl,f,n,r,rfl,rfl,o,s,rfl,rfl,q,v,rfl,rfl,rfl⟩:=d;exact⟨p,_,_,_,l,f,.inl ⟨by decide,λ_ _ e=>nomatch e⟩⟩
 |bans a b=>
  obtain⟨p,y,rfl,f,n,r,rfl,rfl,o,s,rfl,rfl,q,v,rfl,rfl,rfl⟩:=d;exact⟨p,_,_,_,l,f,.inl ⟨by decide,λ_ _ e=>nomatch e⟩⟩
 |most top c=>
  obtain⟨p,y,rfl,f,n,r,rfl,rfl,o,s,rfl,rfl,q,v,rfl,⟨g,j,rfl,A,B⟩,rfl⟩:=d;exact⟨p,_,_,_,l,f,.inr ⟨R,top,c,g,j,R,R,A,by rw[<-DnL.length B,Gz]⟩⟩
def lZ(nm:List Str)(b:List (List Str))(j:Nat):Prop:=∃a,b[j+1]?=some a/\2<=a.length/\fh nm (eQ a)/\(eQ a).Perm a
section
variable{nm:List Str}{L:List Bg}{C:List Tie}
theorem qE{k:Nat}{b:Bg}(a:L[k]?=some b):(bU nm L C)[k+1]?=some (cE nm b.u b.lo.toNat b.hi.toNat b.ks):=by
 have l:k<L.length:=(GU.mp a).1;show(L.map (λb=>cE nm b.u b.lo.toNat b.hi.toNat b.ks)++C.map (cy nm))[k]?=_;rw[HX (by rw[Gz];exact l),GQ,a]
 rfl
theorem FK{k:Nat}{t:Tie}(a:C[k]?=some t):(bU nm L C)[L.length+k+1]?=some (cy nm t):=by
 show(L.map (λb=>cE nm b.u b.lo.toNat b.hi.toNat b.ks)++C.map (cy nm))[L.length+k]?=_;rw[HP (by rw[Gz];omega),Gz,Ks,GQ,a]
 rfl
theorem Lined.not_most(h:Lined nm L C){b:Bg}(a:b∈L):bK nm b.u ≠ "most" := Ow.not_most h.nm (h.okb b a).um
theorem E4{u lo hi:Nat}{ks:List Nat}:2<=(cE nm u lo hi ks).length:=by
 obtain⟨a,b,e,_⟩:=nA lo hi ks.length;unfold cE;rw[e];simp
theorem Cz(h:Lined nm L C){k:Nat}{b:Bg}(a:L[k]?=some b)(k2:1<b.ks.length):lZ nm (bU nm L C) k:=by
 have c:=GO a;have d:=h.okb b c;obtain⟨e,f⟩:=DS (lo:=b.lo.toNat) (hi:=b.hi.toNat) h.nm.ten (h.not_most c) d.ris (λk a=>(d.up k a).2) k2;exact⟨_,qE a,E4,e,f⟩
theorem CB(h:Lined nm L C){k:Nat}{top:Int}{a:List (Nat×Int)}(b:C[k]?=some (.most top a))(k2:1<a.length):lZ nm (bU nm L C) (L.length+k):=by
 have mt:=GO b;obtain⟨_,f⟩:Tie.Rise (.most top a):=h.rise mt;obtain⟨_,_,g⟩:Tie.Small nm.length (.most top a):=h.sm _ mt;obtain⟨c,d⟩:=Fb (top:=top) h.nm.ten f (λp e=>(g p e).1) k2;refine⟨_,FK b,?_,c,d⟩;show 2<=((["most",bX top, "of"]:List Str)++_).length;rw[GC];show 2<=3+_;omega
def fL(L:List Bg)(k:Nat):Bool:=match L[k]? with
 |some b=>decide ((cU b.lo.toNat b.hi.toNat b.ks.length).head?≠some "from")
 |none=>false
theorem C1{u lo hi:Nat}{ks:List Nat}:∃z,(cE nm u lo hi ks)[1]?=some z/\(cU lo hi ks.length).head?=some z:=by
 obtain⟨a,b,e,_⟩:=nA lo hi ks.length;refine⟨a,?_,by rw[e];rfl⟩;unfold cE;rw[e]
 rfl
def jf(L:List Bg)(k:Nat):Bool:=match L[k]? with
 |some b=>decide (b.ks.length=1)&&decide (b.lo=1)
 |none=>false
def jP(L:List Bg)(k:Nat):Bool:=match L[k]? with
 |some b=>decide (1<b.ks.length)
 |none=>false
theorem Eo(h:Lined nm L C){k:Nat}{b:Bg}(c:L[k]?=some b)(w:fL L k=true):BadLs ((bU nm L C).take (k+1)++[hX nm b.u b.lo.toNat b.hi.toNat b.ks]++(bU nm L C).drop (k+2)):=by
 have g:=GO c;have a:=h.okb b g;have j:=a.few;have s:=h.nm.few;have p:=a.hik;have o:=a.lohi;have r:=fQ (ns:=nm) (L:=L) (C:=C);have q:k<L.length:=(GU.mp c).1;have m:(cU b.lo.toNat b.hi.toNat b.ks.length).head?≠some "from":=by
  unfold fL at w;rw[c] at w;exact GJ w
 have e:b.lo.toNat<=1000:=by omega
 have f:b.hi.toNat<=1000:=by omega
 refine rA h (by omega) ?_ (Fs h.nm.ten a.um a.ks0 a.ris (λk c=>(a.up k c).2) e f m (h.not_most g));have i:∀n:Nat,n<=1000->dL (bX (n:Int)):=λn d=>⟨kH _,(gH (iz d)).1,Hm (me d) (by decide)⟩
 refine⟨by simp[hX],?_,?_⟩
 ·unfold hX;rw[GC,Gz];show 5+_<=60;omega
 ·unfold hX;refine jb (bH (i6 h.nm _) (bH (bN (by decide +kernel)) (bH (i _ e) (bH (bN (by decide +kernel)) (fM (i _ f)))))) λz l=>?_;obtain⟨k,_,rfl⟩:=Hc.mp l;exact i6 h.nm k
theorem Fw(h:Lined nm L C){k k0:Nat}{b:Bg}(a:L[k]?=some b)(e:b.ks=[k0]):BadLs ((bU nm L C).take (k+1)++[[bK nm b.u, "one",bK nm k0]]++(bU nm L C).drop (k+2)):=by
 have c:=GO a;have d:=h.okb b c;have g:=fQ (ns:=nm) (L:=L) (C:=C);have f:k<L.length:=(GU.mp a).1;refine rA h (by omega) ⟨by simp,by show 3<=60;decide,bH (i6 h.nm _) (bH (bN (by decide +kernel)) (fM (i6 h.nm _)))⟩ (yB h.nm.ten (h.not_most c) d.um (d.up k0 (by rw[e];simp)).2)
theorem Ei(h:Lined nm L C){j:Nat}{ws:List Str}(f:(bU nm L C)[j+1]?=some ws)(e:fh nm (eQ ws))(d:(eQ ws).Perm ws):BadLs ((bU nm L C).take (j+1)++[eQ ws]++(bU nm L C).drop (j+2)):=by
 have i:=(GU.mp f).1;obtain⟨a,b,c⟩:=h.lines_ok ws (GO f);refine rA h i ⟨λz=>?_,by rw[d.length_eq];exact b,λz g=>c z (d.mem_iff.mp g)⟩ e;rw[z] at d;exact a d.nil_eq.symm
end
def BI(H0:Hp)(pa:Addr)(n:Nat)(H:Hp):Prop:=Same H0 H/\∃a,H pa=some (.lst a)/\a.length<=n/\Bents H pa a
theorem BI.more{H0 H:Hp}{pa:Addr}{n m:Nat}(h:BI H0 pa n H)(d:n<=m):BI H0 pa m H:=by
 obtain⟨s,e,a,b,c⟩:=h;exact⟨s,e,a,Hm b d,c⟩
theorem BI.same{H0 H e:Hp}{pa:Addr}{n:Nat}(h:BI H0 pa n H)(d:Same H e):BI H0 pa n e:=by
 obtain⟨s,f,a,b,c⟩:=h;exact⟨s.trans d,f,d _ _ a,b,c.to d⟩
theorem nV{K:PySem.W.Frag}{q:TE}{D:Ends}{d:St}{H0 H:Hp}{i:Nat}{pa:Addr}{n:Nat}{m:List (List Str)}(u:d[i]?=some (some (.ref pa)))(f0:H0 pa=none)(b:BI H0 pa n H)(w:n<1000)(t:Tw q d H (bV m))(e:BadLs m)(k:∀g,BI H0 pa (n+1) g->D.nx d g):ou (jY K "list" oh (eG i) (gm q gN)) D d H:=by
 obtain⟨s,o,a,l,c⟩:=b;refine⟨_,u,.inl ⟨R,_,SqL.of a⟩,t H _ (Same.refl H) λp v f j r=>?_⟩;have h:=f _ _ a;refine⟨pa,o,_,R,R,h,HJ (show o.length<=1000 by omega) (by rw[HF];decide),k _ ⟨Wd.Same.put (s.trans f) f0 h,_,bI,by rw[GC];exact Nat.succ_le_succ l,?_⟩⟩;exact(c.to f).put (λz=>by rw[z,a] at j;cases j) r e
theorem q9{K:PySem.W.Frag}{a:Addr}{l:List Nat}{H0:Hp}{pa:Addr}{n:Nat}{S:Option V->Option V->St}{tb:TS}{D:Ends}{d:St}{H:Hp}{g:TG}(C:∀x e c H Q,Q (S (some x) c) H->g x (S e c) H Q)(y:∃e c,d=S e c)(A:H0 a=some (.lst (cq l)))(b:BI H0 pa n H)
  (F:∀j k c o u,l[j]?=some k->BI H0 pa (n+j) o->(∀c p,BI H0 pa (n+j+1) p->Ends.nx u (S (some (.int (k:Int))) c) p)->tb u (S (some (.int (k:Int))) c) o)
  (B:∀e c o,BI H0 pa (n+l.length) o->D.nx (S e c) o):
  ∃W:Nat->Nat->St->Hp->Prop,(∃m,W 0 m d H)/\∀i m d H,W i m d H ->
   ((gP K a).stop i H/\D.nx d H)\/((gP K a).go i H/\∃N:St->Hp->Prop,(∀q h,N q h->∃v,v<m/\W (i+1) v q h)/\∀x h,(gP K a).yld i H x h->g x d h λt p=>tb { D with nx:=N,ct:=N,bk:=D.nx } t p):=by
 refine kK (K:=K) (a:=a) (xs:=cq l) (λi d f=>(∃e c,d=S e c)/\BI H0 pa (n+i) f) ⟨y,b⟩ (λi d f _ z=>SqL.of (z.2.1 _ _ A)) ?_ ?_
 ·rintro i x d f s ⟨⟨e,c,rfl⟩,r⟩;unfold cq at s;rw[GQ] at s;obtain⟨k,E,rfl⟩:=JQ.mp s;exact C _ _ _ _ _ (F i k c f _ E r λG p w=>⟨⟨_,_,R⟩,w⟩)
 ·rintro d f ⟨⟨e,c,rfl⟩,r⟩;rw[cq,Gz] at r;exact B e c f r
theorem EJ(c:List (List Str))(ws:List Str)(a b:Nat):bV (c.take a++[ws]++c.drop b)=(bV c).take a++[Str.join " " ws]++(bV c).drop b:=by
 unfold bV;rw[GX,GX,II,Jb]
 rfl
theorem EF(c:List (List Str))(ws:List Str)(a b:Nat):bV (c.take a++c.drop b++[ws])=(bV c).take a++(bV c).drop b++[Str.join " " ws]:=by
 unfold bV;rw[GX,GX,II,Jb]
 rfl
theorem nY{a:List (List Str)}{k:Nat}{ws:List Str}(h:a[k]?=some ws):(bF (bV a))[k]?=some (.str (Str.join " " ws)):=by
 unfold bF bV;rw[GQ,GQ,h]
 rfl
theorem tw_bent{b:St}{H:Hp}{K:PySem.W.Frag}{e tb f:TE}{i:Nat}{l:Addr}{a:List (List Str)}{ws:List Str}{k:Nat}(h:b[i]?=some (some (.ref l)))(c:H l=some (.lst (bF (bV a))))(j:Tn e b (k+1))(m:Tn tb b (k+2))(n:Tx f b H (Str.join " " ws))(g:a.length<=100):
  Tw (fF iV (fF iV (iI (jq K) (eG i) jH (iT e)) (gO (gm f gN))) (iI (jq K) (eG i) (iT tb) jH)) b H (bV (a.take (k+1)++[ws]++a.drop (k+2))):=by
 have d:(bV a).length=a.length:=by rw[bV,Gz]
 rw[EJ];refine tw_cat (tw_cat (tw_upto h c j) (tw_one n) ?_) (tw_from h c m) ?_
 ·rw[G8,d];show _+1<=1000;omega
 ·rw[GC,G8,Hd,d];show _+1+_<=1000;omega
theorem tw_move{b:St}{H:Hp}{K:PySem.W.Frag}{e tb f:TE}{i:Nat}{l:Addr}{a:List (List Str)}{ws:List Str}{k:Nat}(h:b[i]?=some (some (.ref l)))(c:H l=some (.lst (bF (bV a))))(j:Tn e b (k+1))(m:Tn tb b (k+2))(n:Tx f b H (Str.join " " ws))(g:a.length<=100):
  Tw (fF iV (fF iV (iI (jq K) (eG i) jH (iT e)) (iI (jq K) (eG i) (iT tb) jH)) (gO (gm f gN))) b H (bV (a.take (k+1)++a.drop (k+2)++[ws])):=by
 have d:(bV a).length=a.length:=by rw[bV,Gz]
 rw[EF];refine tw_cat (tw_cat (tw_upto h c j) (tw_from h c m) ?_) (tw_one n) ?_
 ·rw[G8,Hd,d];omega
 ·rw[GC,G8,Hd,d];show _+_+1<=1000;omega
def zY(K:PySem.W.Frag):Sp:=λm H Q _=>∃(a h e f i tb l:Addr)(j:List Int)(k:Int)(c:List Str)(L:List Bg)(C:List Tie),m=[.ref a,.ref e,.ref f,.ref i]/\Pen K H a h j k/\0<=k/\k<=900000/\H e=some (.lst (bF (bV (bU c L C))))/\H f=some (.lst (bF c))/\WoodP H i tb l c.length L C/\Lined c L C /\
 ∀(g:List (List Str))(p:Addr)(d:Int)(b:Hp),SameX a H b->b a=some (.lst [.ref h,.int d])->k<=d->d<=k+1->b p=some (.lst (bF (bV g)))->BadLs g->Q (.ref p) b
end Ow
namespace L2
open PySem
theorem zA{X:Cx}{a b:Expr}{d tb:TE}{c:Pos}{r:R2}(g:jU X r)(e:PEi X a d)(f:PE X b tb)(h:wO b):PEi X (.Subscript a b c) (fF r d tb):=.of (bS g e.pe f h)
theorem yZ{X:Cx}{e:Expr}{b:TE}{a:Pos}(c:PEi X e b):PSi X (.Return (some e) a) (mV b):=.of (ce c.pe)
end L2
namespace Ow
open PySem L2 Wd
section
variable{nm:List Str}{L:List Bg}{C:List Tie}
theorem Lined.root(h:Lined nm L C)(f:1<nm.length):∃b∈L,b.u=0:=by
 have g:=h.gb.kids;rw[qX L] at g;have d:(1:Int)∈(L.flatMap Bg.ks).map λk:Nat=>(k:Int):=by
  refine g.mem_iff.mpr (Hc.mpr ⟨0,Lb.mpr ⟨GW _,by omega⟩,by simp⟩)
 obtain⟨k,a,e⟩:=Hc.mp d;obtain⟨b,c,a⟩:=J3.mp a;refine⟨b,c,?_⟩;have:=((h.okb b c).up k a).1;omega
theorem Ea(ws:List Str)(a:List (List Str)):bV (ws::a)=Str.join " " ws::bV a:=rfl
theorem E1(a:List (List Str))(n:Nat):bV (a.drop n)=(bV a).drop n:=Jb
theorem Ct(h:Lined nm L C){z:Str}(hz:jd nm z):∃i,BadLs i/\bV i=z::(bV (bU nm L C)).drop 1:=by
 obtain⟨f,rfl,j,k,v,m⟩:=hz;have D:=fQ (ns:=nm) (L:=L) (C:=C);have A:=h.fewb;have B:=h.fewc;refine⟨f::(bU nm L C).drop 1,⟨iN (by simp) ?_ k ?_,?_⟩,by rw[Ea,E1]⟩
 ·rw[GN,Hd];omega
 ·intro w g;rcases GI.mp g with q|q
  ·rw[q];exact⟨j,by omega,v⟩
  ·exact h.lines_ok w (HL q)
 ·show(eL f).bind (λd=>(cz d ((bU nm L C).drop 1) [] []).map λp=>(d,p.1,p.2))=none;rcases m with e|e
  ·rw[e]
   rfl
  ·subst e
   cases a:eL f with
   |none=>rfl
   |some d=>
    cases f with
    |nil=>exact absurd rfl j
    |cons w r=>
     unfold eL at a
     split at a
     case isFalse=>cases a
     case isTrue c=>
      injection a with a;have n:d=r:=a.symm;have o:w = "ware" := c.1;have x:r≠[]:=c.2.1;have y:w∉r:=(Jk.mp h.nm.nd).1;have t:1<(w::r).length:=by
       rw[GN];have:=Hx.mpr x;omega
      obtain⟨b,s,l⟩:=h.root t;have g:cE (w::r) b.u b.lo.toNat b.hi.toNat b.ks∈(bU (w::r) L C).drop 1:=by
       show _∈L.map (λb=>cE (w::r) b.u b.lo.toNat b.hi.toNat b.ks)++C.map (cy (w::r));exact IP _ (Hc.mpr ⟨b,s,R⟩)
      show(cz d ((bU (w::r) L C).drop 1) [] []).map _=none;rw[xz g (by
       rw[l,n];exact kI (w:=w) y (by rw[o];decide +kernel))]
      rfl
theorem tR{c:List (List Str)}{ns:List Str}{z:Str}(d:TextL c)(k:c.length<=39)(e:c.getD 0 []=("ware" : Str)::ns)(N:gy ns)(i:cL ns z):∃g,BadLs g/\bV g=bV c++[z]:=by
 obtain⟨l,rfl,n,m,j,b⟩:=i;refine⟨c++[l],⟨⟨by simp,λw a=>?_,λw a=>?_,λw a=>?_,λw a=>?_,?_,λw a=>?_,?_⟩,?_⟩,kL _ _⟩
 ·rcases GL.mp a with q|q
  ·exact d.nel w q
  ·rw[GE.mp q];exact n
 ·rcases GL.mp a with q|q
  ·exact d.whole w q
  ·rw[GE.mp q];exact λx f=>(j x f).1
 ·rcases GL.mp a with q|q
  ·exact d.plain w q
  ·rw[GE.mp q];exact λx f=>(j x f).2.1
 ·rcases GL.mp a with q|q
  ·exact d.len w q
  ·rw[GE.mp q];exact λx f=>(j x f).2.2
 ·rw[GC];show _+1<=40;omega
 ·rcases GL.mp a with q|q
  ·exact d.fewl w q
  ·rw[GE.mp q];exact m
 ·cases c with
  |nil=>cases e
  |cons l0 r=>exact d.first
 ·cases c with
  |nil=>cases e
  |cons l0 r=>
   have e:l0=("ware" : Str)::ns:=e;show jo (l0::(r++[l]))=none;refine wt λo h=>?_;rw[e,iJ N] at h;injection h with h;rw[<-h];exact b
theorem xi{ns:List Str}{new:Str}{k:Nat}(N:gy ns)(b:k<ns.length)(d:new∈cands)(e:new∉ns):OneNew ns (bK ns k) new:=by
 have m:=(gG N.nd b).1;have c:=vf new d;have a:=N.name _ m;exact⟨vP (N.plain _ m) a,bN c.2,fH a,fH c.1,λz=>by rw[z] at a;exact absurd a (by decide +kernel),λz=>by rw[z] at c;exact absurd c.1 (by decide +kernel),e,N.name⟩
theorem TextL.joined{a:List (List Str)}(h:TextL a):((bV a).map (·.length)).sum+(bV a).length*(("\n" : Str)).length<=1000000:=by
 have c:=gD (b:=10000) (ws:=bV a) λz e=>by
  obtain⟨f,d,rfl⟩:=Hc.mp e;exact(h.line d).1
 have g:=h.few;rw[show(bV a).length=a.length from Gz _] at c |-;rw[show(("\n"):Str).length=1 from rfl];omega
theorem BadLs.refuse{K:PySem.W.Frag}{H:Hp}{a:List (List Str)}(h:BadLs a):Refuse K H (.str (Str.join "\n" (bV a))) true:=.inl ⟨a,R,h.1,.inl ⟨R,h.2⟩⟩
theorem NoWoodL.refuse{K:PySem.W.Frag}{H:Hp}{a:List (List Str)}{ns:List Str}(h:NoWoodL a ns):Refuse K H (.str (Str.join "\n" (bV a))) false:=by
 obtain⟨B,C,b,c,d⟩:=h.no;exact .inl ⟨a,R,h.tl,.inr ⟨R,ns,B,C,b,c,d⟩⟩
theorem Lined.textl(h:Lined nm L C):TextL (bU nm L C):=by
 have c:=fQ (ns:=nm) (L:=L) (C:=C);have a:=h.fewb;have b:=h.fewc;have d:=h.nm.few;refine iN (by simp[bU,dF]) (by omega) ?_ h.lines_ok;show((["ware"]:List Str)++nm).length<=11;rw[GC];show 1+_<=11;omega
end
theorem gA{H:Hp}{r pen sp:Addr}{a:List Str}{k:Int}(h1:H r=some (.lst (bF a)))(b:H pen=some (.lst [.ref sp,.int k])):r≠pen:=λz=>by
 rw[z,b] at h1;injection h1 with h1;injection h1 with h1
 cases a with
 |nil=>cases h1
 |cons x r=>
  injection h1 with h1
  cases h1
def jJ(nm:List Str)(L:List Bg)(C:List Tie):PyData:=.tuple [iX nm,rS nm.length L C]
theorem Da{n:Nat}{c:List PyData}{e:PyData}(h1:c.all (cI n)=true)(h:cI n e=true)(i:n<=60):SeqAt.shaped (.tuple [.list c,e])=true:=by
 obtain⟨a,b⟩:=lN n _ h1;obtain⟨d,g⟩:=lN n [e] (by rw[Jw,h];rfl);unfold SeqAt.shaped;rw[Ha];have f:PyData.canLay0 e=true:=by simpa [PyData.canLayAll0] using d
 refine⟨by simp[PyData.canLay0,PyData.canLayAll0,a,f],GF ?_⟩;simp only[PyData.depth,PyData.depthAll] at b g |-;omega
theorem C5{H:Hp}{g tb f:Addr}{m:Nat}{L:List Bg}{C:List Tie}(h:WoodP H g tb f m L C):cI 5 (rS m L C)=true:=by
 have i:=h.m9;have a:((L.map Bg.tie).map Tie.toD).all (cI 3)=true:=qR (m:=m) (λt e=>h.ok t (GL.mpr (.inl e))) (by omega);have b:(C.map Tie.toD).all (cI 3)=true:=qR h.okc (by omega);show(decide ((3:Nat)<=1000)&&(cI 4 (.int (m:Int))&&(cI 4 (.tuple ((L.map Bg.tie).map Tie.toD))&&(cI 4 (.tuple (C.map Tie.toD))&&true))))=true;have c:cI 4 (.tuple ((L.map Bg.tie).map Tie.toD))=true:=by
  show(decide (_<=1000)&&_)=true;rw[a,GF (by rw[Gz,Gz];have:=h.fewb;omega)]
  rfl
 have d:cI 4 (.tuple (C.map Tie.toD))=true:=by
  show(decide (_<=1000)&&_)=true;rw[b,GF (by rw[Gz];have:=h.fewc;omega)]
  rfl
 rw[c,d]
 rfl
theorem DG{ws:List Str}(h:fS ws):(ws.map PyData.str).all (cI 5)=true:=by
 rw[Hv];intro d a;obtain⟨z,b,rfl⟩:=Hc.mp a;exact h z b
theorem Di{H:Hp}{c tb b:Addr}{nm:List Str}{L:List Bg}{C:List Tie}(h:WoodP H c tb b nm.length L C)(a:fS nm):SeqAt.shaped (jJ nm L C)=true:=Da (DG a) (C5 h) (by decide)
theorem nZ{H:Hp}{p pn a tb d:Addr}{nm:List Str}{L:List Bg}{C:List Tie}(c:H p=some (.tup [.ref pn,.ref a]))(b:H pn=some (.lst (bF nm)))(h:WoodP H a tb d nm.length L C):Dn H (jJ nm L C) (.ref p):=⟨p,_,R,c,_,_,R,mj b,_,_,R,h.dn,R⟩
def Dp(K:PySem.W.Frag):Sp:=λl H Q _=>∃(a g f h tb j:Addr)(i:List Int)(k:Int)(d:List Str)(L:List Bg)(C:List Tie),l=[.ref a,.str (fV d L C),.ref f,.ref h]/\Pen K H a g i k/\0<=k/\k<=800000/\H f=some (.lst (bF d))/\WoodP H h tb j d.length L C/\Lined d L C /\
 ∀(x:V)(b:Bool)(p:Addr)(e:Int)(c:Hp),SameX a H c->c a=some (.lst [.ref g,.int e])->k<=e->e<=k+10->c p=some (.tup [x,.bl b])->Refuse K c x b->Q (.ref p) c
theorem oU{P:Program}{w:World}{K:PySem.W.Frag}{i:Str->Option Value}{base:Heap}{k:Nat}{f:Addr}{g:FuncData}{j:List Str}{sp d:Sp}(F:cC P w K i base (eh P w) k f g j sp)
  (h:∀b H Q E,d b H Q E->sp b H Q E0):cC P w K i base cK k f g j d:=
 ⟨λb H Q E q=>F.len b H Q E0 (h _ _ _ _ q),λA a s H c u b Q E n m l p o=>J4 (F.run A a s H c u b Q E0 n m l p (h _ _ _ _ o)) λr t x=>by
  cases r with
  |ok v=>cases v<;>exact x
  |error e=>
   obtain⟨_,_,_,_,_,_,_,_,_,_,_,_,_,z⟩:=(x:eh P w a H s E0 e t)
   exact z⟩
theorem xK{z:Str}(h:iG z=true):dm z:=(bN h).2.1
theorem Ft{D:Addr}{a:List V}{H:Hp}{Q:VK}{E:XK}(h:ve a H Q E):vC D a H Q E0:=by
 obtain⟨l,f,rfl,b,N,q⟩:=h;have d:=N.few;refine⟨l,_,R,b,by simp,by rw[GN];omega,λz c=>?_,λn e=>?_,λe=>?_⟩
 ·rcases GI.mp c with y|y
  ·rw[y];exact xK (by decide +kernel)
  ·exact N.plain z y
 ·rw[iJ N.ten] at e
  cases e
  exact q
 ·rw[iJ N.ten] at e
  cases e
theorem Ae{D:Addr}{i:List V}{H:Hp}{Q:VK}{E:XK}(h:xb i H Q E):xA D i H Q E0:=by
 obtain⟨l,n,o,t,rfl,j,k,N,d,f,g,q⟩:=h;have p:=N.few;obtain⟨a,b,c⟩:=vD N d f;refine⟨l,n,o,_,R,j,k,by omega,a,b,λz m=>(c z m).2.1,qC d,λu e=>?_,λe=>?_⟩
 ·rw[rB N.ten d f g] at e
  cases e
  exact q
 ·rw[rB N.ten d f g] at e
  cases e
theorem Gy{D:Addr}{r:List V}{H:Hp}{Q:VK}{E:XK}(h:vo r H Q E):we D r H Q E0:=by
 obtain⟨l,w,i,u,lo,f,g,rfl,t,v,N,C,m,n,B,p,o,q⟩:=h;have G:=N.few;have y:=kE (lo:=lo) (hi:=f) N.nd C B p o m n;have F:g.length<=i.length:=by
  have A:g.Nodup:=p.imp λa=>Hq a;have:=A.length_le_of_subset (l₂:=List.range i.length) λk s=>Ih.mpr (o k s)
  rwa [IE] at this
 have j:(cU lo f g.length).length<=4/\∀z∈cU lo f g.length,dm z:=by
  unfold cU;have d:∀z∈(["must", "may", "one", "from", "to"]:List Str),dm z:=λz c=>by
   have k:∀z∈(["must", "may", "one", "from", "to"]:List Str),iG z=true:=by decide +kernel
   exact xK (k z c)
  split
  ·exact⟨by show 1<=4;decide,λz c=>by rw[GE.mp c];exact d _ (by decide)⟩
  split
  ·exact⟨by show 1<=4;decide,λz c=>by rw[GE.mp c];exact d _ (by decide)⟩
  split
  ·exact⟨by show 1<=4;decide,λz c=>by rw[GE.mp c];exact d _ (by decide)⟩
  refine⟨by show 4<=4;decide,λz c=>?_⟩;simp only[GI,Hs,Iw] at c;rcases c with rfl|rfl|rfl|rfl
  ·exact d _ (by decide)
  ·exact(gH (iz m)).1
  ·exact d _ (by decide)
  ·exact(gH (iz n)).1
 refine⟨l,w,i,_,R,t,v,by omega,by simp[cE],?_,λz c=>?_,λb e=>?_,λe=>?_⟩
 ·unfold cE;rw[GN,GC,Gz];have:=j.1;omega
 ·rcases GI.mp c with x|x
  ·rw[x];exact lY N _
  rcases GL.mp x with x|x
  ·exact j.2 z x
  ·obtain⟨k,_,rfl⟩:=Hc.mp x;exact lY N _
 ·rw[y] at e
  cases e
  exact q
 ·rw[y] at e
  cases e
def top(i:Nat):Stmt:=PySem.Challenge.pw_optionwood_k81_texts_refused.main.body.getD i (.Pass ⟨0,0,0,0⟩)
abbrev qU:Stmt:=top 13
abbrev pR:Stmt:=top 14
abbrev pG:Stmt:=top 15
abbrev qz:Stmt:=top 16
abbrev pJ:Stmt:=top 17
abbrev qp:Stmt:=top 18
abbrev pj:Stmt:=top 19
abbrev pC:Stmt:=top 20
abbrev pz:Stmt:=top 21
abbrev qA:Stmt:=top 22
abbrev pK:Stmt:=top 23
abbrev pU:Stmt:=top 24
abbrev qS:Stmt:=top 31
abbrev qd:Stmt:=top 32
abbrev qO:Stmt:=top 33
abbrev ql:Stmt:=top 34
abbrev pO:Stmt:=top 35
abbrev pZ:Stmt:=top 36
abbrev qm:Stmt:=top 37
abbrev pS:Stmt:=top 38
abbrev qF:Stmt:=top 39
abbrev qo:Stmt:=top 40
abbrev pD:Stmt:=top 41
abbrev pN:Stmt:=top 42
abbrev pQ:Stmt:=top 43
abbrev qg:Stmt:=top 44
abbrev qM:Stmt:=top 45
abbrev pi:Stmt:=top 46
abbrev lM:Stmt:=top 48
abbrev qr:Stmt:=top 49
abbrev pH:Stmt:=top 50
abbrev j3:Stmt:=top 51
abbrev qi:Stmt:=top 52
abbrev jZ:Stmt:=top 53
abbrev lL:Stmt:=top 55
abbrev pB:Stmt:=top 56
abbrev pT:Stmt:=top 57
abbrev pP:Stmt:=top 58
abbrev pM:Stmt:=top 59
abbrev pF:Stmt:=top 60
abbrev pI:Stmt:=top 61
abbrev lK:Stmt:=top 62
abbrev pX:Stmt:=top 63
abbrev pW:Stmt:=top 64
abbrev sr:Stmt:=top 65
set_option genInjectivity false
set_option genSizeOfSpec false
set_option genSizeOf false
structure Adr where
 (f_wood_of f_check_boughs f_check_cross_ties f_is_whole f_is_whole_within f_is_option f_is_tuple_of_length f_is_filled_tuple f_are_rising_options f_is_bough f_is_cross_tie f_are_pairs f_read f_names_in f_is_name f_is_number f_is_made_of f_number_in f_option_in f_rising_in f_bough_in f_bounds_in f_words_of_bounds f_is_cross_line f_cross_tie_in f_most_in f_shown f_words_of_cross_tie f_law_take f_law_bough f_law_boughs f_law_most f_law_cross f_law_wood f_law_names f_law_first_lines f_law_fresh f_law_no_lines f_law_no_wood f_law_from_line f_law_turned_line f_law_bent_lines f_law_spoiled f_law_refused f_law:Addr)
 (x_WoodError x_NoWood x_NoCount x_NoWares x_NoOffer x_Unlike x_NoText x_NoRow x_NoName x_NO_NAMES:Addr)
structure Fds where
 (f_wood_of f_check_boughs f_check_cross_ties f_is_whole f_is_whole_within f_is_option f_is_tuple_of_length f_is_filled_tuple f_are_rising_options f_is_bough f_is_cross_tie f_are_pairs f_read f_names_in f_is_name f_is_number f_is_made_of f_number_in f_option_in f_rising_in f_bough_in f_bounds_in f_words_of_bounds f_is_cross_line f_cross_tie_in f_most_in f_shown f_words_of_cross_tie f_law_take f_law_bough f_law_boughs f_law_most f_law_cross f_law_wood f_law_names f_law_first_lines f_law_fresh f_law_no_lines f_law_no_wood f_law_from_line f_law_turned_line f_law_bent_lines f_law_spoiled f_law_refused f_law:FuncData)
structure Txt(K:PySem.W.Frag)(mg:Str->Option Value)(a:Adr)(d:Fds):Prop where
 m_ValueError:mg "ValueError" = none
 m_range:mg "range" = none
 m_len:mg "len" = none
 m_isinstance:mg "isinstance" = none
 m_min:mg "min" = none
 m_all:mg "all" = none
 m_int:mg "int" = none
 m_bool:mg "bool" = none
 m_list:mg "list" = none
 m_tuple:mg "tuple" = none
 m_str:mg "str" = none
 m_sorted:mg "sorted" = none
 m_enumerate:mg "enumerate" = none
 m_zip:mg "zip" = none
 m_set:mg "set" = none
 c_MOST_OPTIONS:∃t,mg "MOST_OPTIONS" = some (Value.int 9 t)
 c_MOST_CROSS_TIES:∃t,mg "MOST_CROSS_TIES" = some (Value.int 8 t)
 c_LETTERS:∃t,mg "LETTERS" = some (Value.str "abcdefghijklmnopqrstuvwxyz" t)
 c_FIGURES:∃t,mg "FIGURES" = some (Value.str "0123456789" t)
 c_LONGEST_NAME:∃t,mg "LONGEST_NAME" = some (Value.int 8 t)
 c_MOST_FIGURES:∃t,mg "MOST_FIGURES" = some (Value.int 60 t)
 g_NO_NAMES:mg "NO_NAMES" = some (.ref a.x_NO_NAMES)
 q_NO_NAMES:mP K a.x_NO_NAMES ["must", "may", "one", "from", "needs", "bans", "most"]=true
 K_wood_of:Df K mg "wood_of" qU a.f_wood_of d.f_wood_of ["many", "boughs", "cross"]
 K_check_boughs:Df K mg "check_boughs" pR a.f_check_boughs d.f_check_boughs ["many", "boughs"]
 K_check_cross_ties:Df K mg "check_cross_ties" pG a.f_check_cross_ties d.f_check_cross_ties ["many", "cross"]
 K_is_whole:Df K mg "is_whole" qz a.f_is_whole d.f_is_whole ["thing"]
 K_is_whole_within:Df K mg "is_whole_within" pJ a.f_is_whole_within d.f_is_whole_within ["thing", "least", "greatest"]
 K_is_option:Df K mg "is_option" qp a.f_is_option d.f_is_option ["many", "thing"]
 K_is_tuple_of_length:Df K mg "is_tuple_of_length" pj a.f_is_tuple_of_length d.f_is_tuple_of_length ["thing", "length"]
 K_is_filled_tuple:Df K mg "is_filled_tuple" pC a.f_is_filled_tuple d.f_is_filled_tuple ["thing"]
 K_are_rising_options:Df K mg "are_rising_options" pz a.f_are_rising_options d.f_are_rising_options ["many", "things", "floor"]
 K_is_bough:Df K mg "is_bough" qA a.f_is_bough d.f_is_bough ["many", "bough"]
 K_is_cross_tie:Df K mg "is_cross_tie" pK a.f_is_cross_tie d.f_is_cross_tie ["many", "tie"]
 K_are_pairs:Df K mg "are_pairs" pU a.f_are_pairs d.f_are_pairs ["many", "pairs"]
 K_read:Df K mg "read" qS a.f_read d.f_read ["text"]
 K_names_in:Df K mg "names_in" qd a.f_names_in d.f_names_in ["words"]
 K_is_name:Df K mg "is_name" qO a.f_is_name d.f_is_name ["word"]
 K_is_number:Df K mg "is_number" ql a.f_is_number d.f_is_number ["word"]
 K_is_made_of:Df K mg "is_made_of" pO a.f_is_made_of d.f_is_made_of ["word", "signs"]
 K_number_in:Df K mg "number_in" pZ a.f_number_in d.f_number_in ["word"]
 K_option_in:Df K mg "option_in" qm a.f_option_in d.f_option_in ["names", "word"]
 K_rising_in:Df K mg "rising_in" pS a.f_rising_in d.f_rising_in ["names", "words"]
 K_bough_in:Df K mg "bough_in" qF a.f_bough_in d.f_bough_in ["names", "words"]
 K_bounds_in:Df K mg "bounds_in" qo a.f_bounds_in d.f_bounds_in ["words", "many_kids"]
 K_words_of_bounds:Df K mg "words_of_bounds" pD a.f_words_of_bounds d.f_words_of_bounds ["low", "high", "many_kids"]
 K_is_cross_line:Df K mg "is_cross_line" pN a.f_is_cross_line d.f_is_cross_line ["words"]
 K_cross_tie_in:Df K mg "cross_tie_in" pQ a.f_cross_tie_in d.f_cross_tie_in ["names", "words"]
 K_most_in:Df K mg "most_in" qg a.f_most_in d.f_most_in ["names", "words"]
 K_shown:Df K mg "shown" qM a.f_shown d.f_shown ["names", "wood"]
 K_words_of_cross_tie:Df K mg "words_of_cross_tie" pi a.f_words_of_cross_tie d.f_words_of_cross_tie ["names", "tie"]
 K_law_take:Df K mg "_law_take" lM a.f_law_take d.f_law_take ["_law_state", "_law_most_here"]
 K_law_bough:Df K mg "_law_bough" qr a.f_law_bough d.f_law_bough ["_law_state", "_law_up", "_law_kids"]
 K_law_boughs:Df K mg "_law_boughs" pH a.f_law_boughs d.f_law_boughs ["_law_state", "_law_many"]
 K_law_most:Df K mg "_law_most" j3 a.f_law_most d.f_law_most ["_law_state", "_law_many"]
 K_law_cross:Df K mg "_law_cross" qi a.f_law_cross d.f_law_cross ["_law_state", "_law_many"]
 K_law_wood:Df K mg "_law_wood" jZ a.f_law_wood d.f_law_wood ["_law_state"]
 K_law_names:Df K mg "_law_names" lL a.f_law_names d.f_law_names ["_law_state", "_law_many"]
 K_law_first_lines:Df K mg "_law_first_lines" pB a.f_law_first_lines d.f_law_first_lines ["_law_names_here"]
 K_law_fresh:Df K mg "_law_fresh" pT a.f_law_fresh d.f_law_fresh ["_law_names_here"]
 K_law_no_lines:Df K mg "_law_no_lines" pP a.f_law_no_lines d.f_law_no_lines ["_law_one", "_law_names_here"]
 K_law_no_wood:Df K mg "_law_no_wood" pM a.f_law_no_wood d.f_law_no_wood ["_law_lines", "_law_names_here", "_law_cross_here", "_law_way"]
 K_law_from_line:Df K mg "_law_from_line" pF a.f_law_from_line d.f_law_from_line ["_law_names_here", "_law_bough_here"]
 K_law_turned_line:Df K mg "_law_turned_line" pI a.f_law_turned_line d.f_law_turned_line ["_law_line"]
 K_law_bent_lines:Df K mg "_law_bent_lines" lK a.f_law_bent_lines d.f_law_bent_lines ["_law_state", "_law_lines", "_law_names_here", "_law_wood_here"]
 K_law_spoiled:Df K mg "_law_spoiled" pX a.f_law_spoiled d.f_law_spoiled ["_law_state", "_law_text", "_law_names_here", "_law_wood_here"]
 K_law_refused:Df K mg "_law_refused" pW a.f_law_refused d.f_law_refused ["_law_thing", "_law_is_text"]
 K_law:Df K mg "law" sr a.f_law d.f_law ["_law_script"]
 g_WoodError:mg "WoodError" = some (.ref a.x_WoodError)
 g_NoWood:mg "NoWood" = some (.ref a.x_NoWood)
 g_NoCount:mg "NoCount" = some (.ref a.x_NoCount)
 g_NoWares:mg "NoWares" = some (.ref a.x_NoWares)
 g_NoOffer:mg "NoOffer" = some (.ref a.x_NoOffer)
 g_Unlike:mg "Unlike" = some (.ref a.x_Unlike)
 g_NoText:mg "NoText" = some (.ref a.x_NoText)
 g_NoRow:mg "NoRow" = some (.ref a.x_NoRow)
 g_NoName:mg "NoName" = some (.ref a.x_NoName)
 x_WoodError:gw K a.x_WoodError
 x_NoWood:gw K a.x_NoWood
 x_NoCount:gw K a.x_NoCount
 x_NoWares:gw K a.x_NoWares
 x_NoOffer:gw K a.x_NoOffer
 x_Unlike:gw K a.x_Unlike
 x_NoText:gw K a.x_NoText
 x_NoRow:gw K a.x_NoRow
 x_NoName:gw K a.x_NoName
 k_NoWood_WoodError:PySem.W.kitOne K (.ref a.x_NoWood) (.ref a.x_WoodError)=some true
 k_NoWood_NoWood:PySem.W.kitOne K (.ref a.x_NoWood) (.ref a.x_NoWood)=some true
 k_NoWood_NoCount:PySem.W.kitOne K (.ref a.x_NoWood) (.ref a.x_NoCount)=some false
 k_NoWood_NoWares:PySem.W.kitOne K (.ref a.x_NoWood) (.ref a.x_NoWares)=some false
 k_NoWood_NoOffer:PySem.W.kitOne K (.ref a.x_NoWood) (.ref a.x_NoOffer)=some false
 k_NoWood_Unlike:PySem.W.kitOne K (.ref a.x_NoWood) (.ref a.x_Unlike)=some false
 k_NoWood_NoText:PySem.W.kitOne K (.ref a.x_NoWood) (.ref a.x_NoText)=some false
 k_NoWood_NoRow:PySem.W.kitOne K (.ref a.x_NoWood) (.ref a.x_NoRow)=some false
 k_NoWood_NoName:PySem.W.kitOne K (.ref a.x_NoWood) (.ref a.x_NoName)=some false
 v_NoWood:PySem.W.kitOne K (.ref a.x_NoWood) (.type "ValueError")=some true
 s_NoWood_WoodError:jS K a.x_NoWood a.x_WoodError=true
 k_NoText_WoodError:PySem.W.kitOne K (.ref a.x_NoText) (.ref a.x_WoodError)=some true
 k_NoText_NoWood:PySem.W.kitOne K (.ref a.x_NoText) (.ref a.x_NoWood)=some false
 k_NoText_NoCount:PySem.W.kitOne K (.ref a.x_NoText) (.ref a.x_NoCount)=some false
 k_NoText_NoWares:PySem.W.kitOne K (.ref a.x_NoText) (.ref a.x_NoWares)=some false
 k_NoText_NoOffer:PySem.W.kitOne K (.ref a.x_NoText) (.ref a.x_NoOffer)=some false
 k_NoText_Unlike:PySem.W.kitOne K (.ref a.x_NoText) (.ref a.x_Unlike)=some false
 k_NoText_NoText:PySem.W.kitOne K (.ref a.x_NoText) (.ref a.x_NoText)=some true
 k_NoText_NoRow:PySem.W.kitOne K (.ref a.x_NoText) (.ref a.x_NoRow)=some false
 k_NoText_NoName:PySem.W.kitOne K (.ref a.x_NoText) (.ref a.x_NoName)=some false
 v_NoText:PySem.W.kitOne K (.ref a.x_NoText) (.type "ValueError")=some true
 s_NoText_WoodError:jS K a.x_NoText a.x_WoodError=true
theorem sc_wood_of:cR ["many", "boughs", "cross", "wood"] ["many", "boughs", "cross"] (cF qU):=de rfl rfl rfl rfl rfl
theorem sc_check_boughs:cR ["many", "boughs", "kids", "place", "bough"] ["many", "boughs"] (cF pR):=de rfl rfl rfl rfl rfl
theorem sc_check_cross_ties:cR ["many", "cross", "place", "tie"] ["many", "cross"] (cF pG):=de rfl rfl rfl rfl rfl
theorem C4:cR ["thing"] ["thing"] (cF qz):=de rfl rfl rfl rfl rfl
theorem B7:cR ["thing", "least", "greatest"] ["thing", "least", "greatest"] (cF pJ):=de rfl rfl rfl rfl rfl
theorem CN:cR ["many", "thing"] ["many", "thing"] (cF qp):=de rfl rfl rfl rfl rfl
theorem B2:cR ["thing", "length"] ["thing", "length"] (cF pj):=de rfl rfl rfl rfl rfl
theorem B8:cR ["thing"] ["thing"] (cF pC):=de rfl rfl rfl rfl rfl
theorem sc_are_rising_options:cR ["many", "things", "floor", "last", "thing"] ["many", "things", "floor"] (cF pz):=de rfl rfl rfl rfl rfl
theorem sc_is_bough:cR ["many", "bough", "up", "high", "kids"] ["many", "bough"] (cF qA):=de rfl rfl rfl rfl rfl
theorem Ci:cR ["many", "tie"] ["many", "tie"] (cF pK):=de rfl rfl rfl rfl rfl
theorem sc_are_pairs:cR ["many", "pairs", "pair"] ["many", "pairs"] (cF pU):=de rfl rfl rfl rfl rfl
theorem sc_read:cR ["text", "lines", "names", "boughs", "cross", "words"] ["text"] (cF qS):=de rfl rfl rfl rfl rfl
theorem sc_names_in:cR ["words", "names"] ["words"] (cF qd):=de rfl rfl rfl rfl rfl
theorem DZ:cR ["word"] ["word"] (cF qO):=de rfl rfl rfl rfl rfl
theorem sc_is_number:cR ["word", "figures"] ["word"] (cF ql):=de rfl rfl rfl rfl rfl
theorem Cu:cR ["word", "signs"] ["word", "signs"] (cF pO):=de rfl rfl rfl rfl rfl
theorem CO:cR ["word"] ["word"] (cF pZ):=de rfl rfl rfl rfl rfl
theorem CS:cR ["names", "word"] ["names", "word"] (cF qm):=de rfl rfl rfl rfl rfl
theorem sc_rising_in:cR ["names", "words", "options"] ["names", "words"] (cF pS):=de rfl rfl rfl rfl rfl
theorem sc_bough_in:cR ["names", "words", "up", "start", "kids", "bounds"] ["names", "words"] (cF qF):=de rfl rfl rfl rfl rfl
theorem CG:cR ["words", "many_kids"] ["words", "many_kids"] (cF qo):=de rfl rfl rfl rfl rfl
theorem tz:cR ["low", "high", "many_kids"] ["low", "high", "many_kids"] (cF pD):=de rfl rfl rfl rfl rfl
theorem Cm:cR ["words"] ["words"] (cF pN):=de rfl rfl rfl rfl rfl
theorem Cf:cR ["names", "words"] ["names", "words"] (cF pQ):=de rfl rfl rfl rfl rfl
theorem sc_most_in:cR ["names", "words", "numbers", "options"] ["names", "words"] (cF qg):=de rfl rfl rfl rfl rfl
theorem sc_shown:cR ["names", "wood", "lines", "up", "low", "high", "kids", "tie"] ["names", "wood"] (cF qM):=de rfl rfl rfl rfl rfl
theorem sc_words_of_cross_tie:cR ["names", "tie", "words", "k", "number"] ["names", "tie"] (cF pi):=de rfl rfl rfl rfl rfl
theorem sc_law_take:cR ["_law_state", "_law_most_here", "_law_at", "_law_script", "_law_mingled"] ["_law_state", "_law_most_here"] (cF lM):=de rfl rfl rfl rfl rfl
theorem sc_law_bough:cR ["_law_state", "_law_up", "_law_kids", "_law_size", "_law_way", "_law_high"] ["_law_state", "_law_up", "_law_kids"] (cF qr):=de rfl rfl rfl rfl rfl
theorem sc_law_boughs:cR ["_law_state", "_law_many", "_law_groups", "_law_k", "_law_up", "_law_mates"] ["_law_state", "_law_many"] (cF pH):=de rfl rfl rfl rfl rfl
theorem sc_law_most:cR ["_law_state", "_law_many", "_law_way", "_law_far", "_law_pairs", "_law_k"] ["_law_state", "_law_many"] (cF j3):=de rfl rfl rfl rfl rfl
theorem sc_law_cross:cR ["_law_state", "_law_many", "_law_one", "_law_other"] ["_law_state", "_law_many"] (cF qi):=de rfl rfl rfl rfl rfl
theorem sc_law_wood:cR ["_law_state", "_law_many", "_law_boughs_here", "_law_count"] ["_law_state"] (cF jZ):=de rfl rfl rfl rfl rfl
theorem sc_law_names:cR ["_law_state", "_law_many", "_law_letters", "_law_turn", "_law_tail", "_law_names_here", "_law_barred"] ["_law_state", "_law_many"] (cF lL):=de rfl rfl rfl rfl rfl
theorem sc_law_first_lines:cR ["_law_names_here", "_law_whole", "_law_some", "_law_words"] ["_law_names_here"] (cF pB):=de rfl rfl rfl rfl rfl
theorem sc_law_fresh:cR ["_law_names_here", "_law_some"] ["_law_names_here"] (cF pT):=de rfl rfl rfl rfl rfl
theorem sc_law_no_lines:cR ["_law_one", "_law_names_here", "_law_new", "_law_some", "_law_word"] ["_law_one", "_law_names_here"] (cF pP):=de rfl rfl rfl rfl rfl
theorem sc_law_no_wood:cR ["_law_lines", "_law_names_here", "_law_cross_here", "_law_way", "_law_one", "_law_other", "_law_at", "_law_word"] ["_law_lines", "_law_names_here", "_law_cross_here", "_law_way"] (cF pM):=de rfl rfl rfl rfl rfl
theorem sc_law_from_line:cR ["_law_names_here", "_law_bough_here", "_law_up", "_law_low", "_law_high", "_law_kids", "_law_words"] ["_law_names_here", "_law_bough_here"] (cF pF):=de rfl rfl rfl rfl rfl
theorem sc_law_turned_line:cR ["_law_line", "_law_words"] ["_law_line"] (cF pI):=de rfl rfl rfl rfl rfl
theorem sc_law_bent_lines:cR ["_law_state", "_law_lines", "_law_names_here", "_law_wood_here", "_law_boughs_here", "_law_worded", "_law_single", "_law_turned", "_law_k", "_law_some", "_law_words"] ["_law_state", "_law_lines", "_law_names_here", "_law_wood_here"] (cF lK):=de rfl rfl rfl rfl rfl
theorem sc_law_spoiled:cR ["_law_state", "_law_text", "_law_names_here", "_law_wood_here", "_law_lines", "_law_cross_here", "_law_way", "_law_some", "_law_bent"] ["_law_state", "_law_text", "_law_names_here", "_law_wood_here"] (cF pX):=de rfl rfl rfl rfl rfl
theorem sc_law_refused:cR ["_law_thing", "_law_is_text", "_law_caught", "error"] ["_law_thing", "_law_is_text"] (cF pW):=de rfl rfl rfl rfl rfl
theorem sc_law:cR ["_law_script", "_law_state", "_law_wood_here", "_law_names_here", "_law_text", "_law_k", "_law_thing", "_law_is_text"] ["_law_script"] (cF sr):=de rfl rfl rfl rfl rfl
section
variable{P:Program}{w:World}{K:PySem.W.Frag}{mg:Str -> Option Value}{base:Heap}{a:Adr}{d:Fds}
theorem pA(T:Txt K mg a d):cC P w K mg base cK 1 a.f_is_tuple_of_length d.f_is_tuple_of_length ["thing", "length"] Gm:=by
 refine T.K_is_tuple_of_length.ok B2 (λm H Q E h=>?_) (λj A f s H m Q E o h=>?_)
 ·obtain⟨d,v,n,rfl,_⟩:=h
  rfl
 obtain⟨d,v,n,rfl,g,q⟩:=h;refine⟨_,(bP (ce (ii (cA (ik (K:=K)) rfl T.m_isinstance Hr (bE (pv 0) (bE (gY (v:=.ty "tuple") rfl T.m_tuple HM rfl) bG))) (ig (gg cP (cA (da (K:=K)) rfl T.m_len Hg (bE (pv 0) bG)) (pv 1) (cf _)))))),?_⟩;refine⟨_,R,_,_,_,_,R,kg g,xt d,_,R,?_⟩;refine cx (λc=>?_) (λc=>?_)
 ·obtain⟨b,rfl⟩:=uY c;obtain⟨p,i,rfl,l,k⟩:=iP g;refine⟨_,R,p,_,R,.inr (bW l),_,R,R,?_⟩;have e:decide (V.int (i.length:Nat)=V.int n)=hU (.tuple b) n:=by
   rw[ma,<-k.length];show _=decide ((b.length:Int)=n);by_cases z:(b.length:Int)=n
   ·rw[GF z]
    simpa using z
   ·rw[GZ z]
    simpa using z
  show Q (.bl (decide (V.int (i.length:Nat)=V.int n))) H;rw[e];exact q
 ·have e:hU d n=false:=by
   cases d<;>first|rfl|exact absurd rfl c
  rw[e] at q;exact q
theorem pY(T:Txt K mg a d):cC P w K mg base cK 1 a.f_is_whole d.f_is_whole ["thing"] yK:=by
 refine T.K_is_whole.ok C4 (λi H Q E h=>?_) (λg A b s H i Q E j h=>?_)
 ·obtain⟨d,v,rfl,_⟩:=h
  rfl
 obtain⟨d,v,rfl,f,q⟩:=h;refine⟨_,(bP (ce (ii (cA (ik (K:=K)) rfl T.m_isinstance Hr (bE (pv 0) (bE (gY (v:=.ty "int") rfl T.m_int JF rfl) bG))) (ig (AI (cA (ik (K:=K)) rfl T.m_isinstance Hr (bE (pv 0) (bE (gY (v:=.ty "bool") rfl T.m_bool PyProof.Rows.boot_bool rfl) bG)))))))),?_⟩;refine⟨_,R,_,_,_,_,R,kg f,Ap d,_,R,?_⟩;refine cx (λc=>?_) (λc=>?_)
 ·refine⟨_,R,_,_,_,_,R,kg f,yQ d,_,R,?_⟩;have e:(!xI d)=jy d:=by
   cases d<;>first|rfl|cases c
  rw[e];exact q
 ·have e:jy d=false:=by
   cases d<;>first|rfl|exact absurd rfl c
  rw[e] at q;exact q
theorem lJ(T:Txt K mg a d):cC P w K mg base cK 2 a.f_is_whole_within d.f_is_whole_within ["thing", "least", "greatest"] FW:=by
 have k:=pY (P:=P) (w:=w) (base:=base) T;refine T.K_is_whole_within.ok B7 (λn H Q E h=>?_) (λl A g s H n Q E m h=>?_)
 ·obtain⟨d,v,lo,b,rfl,_⟩:=h
  rfl
 obtain⟨d,v,lo,b,rfl,j,q⟩:=h;refine⟨_,(bP (ce (ii (bY k m.lv rfl T.K_is_whole (bE (pv 0) bG)) (ig (wq lA lA (pv 1) (pv 0) (pv 2)))))),?_⟩;refine⟨_,R,d,v,R,j,_,R,?_⟩;refine cx (λc=>?_) (λc=>?_)
 ·obtain⟨i,rfl⟩:=rz c
  cases ji j
  refine⟨_,R,_,R,_,_,R,R,_,R,?_⟩;refine cx (λf=>?_) (λf=>?_)
  ·refine⟨_,R,_,_,R,R,?_⟩;have e:dI (.int i) lo b=decide (i<=b):=by
    show(decide (lo<=i)&&decide (i<=b))=_;rw[f,HV]
   rw[e] at q;exact q
  ·have e:dI (.int i) lo b=false:=by
    show(decide (lo<=i)&&decide (i<=b))=_;rw[Ho.mpr f,HE]
   rw[e] at q;exact q
 ·have e:dI d lo b=false:=by
   cases d<;>first|rfl|exact absurd rfl c
  rw[e] at q;exact q
theorem tv(T:Txt K mg a d):cC P w K mg base cK 3 a.f_are_rising_options d.f_are_rising_options ["many", "things", "floor"] (Fh K):=by
 have G:=lJ (P:=P) (w:=w) (base:=base) T;refine T.K_are_rising_options.ok sc_are_rising_options (λL H Q E h=>?_) (λI A D s H L Q E J h=>?_)
 ·obtain⟨f,g,p,b,t,m,rfl,_⟩:=h
  rfl
 obtain⟨f,g,p,b,t,m,rfl,u,B,q⟩:=h;refine⟨_,(bQ (cj (i:=3) sc_are_rising_options.nd rfl (Or.inl rfl) (pv 2))
   (bQ (eV HU rfl (Ar (pv 1)) (cG (i:=4) sc_are_rising_options.nd rfl (Or.inl rfl)) (bQ (cg (dY (dO (bY G J.lv rfl T.K_is_whole_within (bE (pv 4) (bE (bO eE (pv 3) bJ) (bE (bO jg (pv 0) bJ) bG)))))) (bP (ce eY)) cu)
   (bP (cj (i:=3) sc_are_rising_options.nd rfl (Or.inl rfl) (pv 4)))))
   (bP (ce eY)))),?_⟩
 refine⟨_,R,?_⟩;have F:∀(l:Int),cZ f (t.drop m.length) l=true:=λl=>by
  rw[<-B.length,List.drop_length]
  rfl
 cases b with
 |false=>
  refine⟨_,R,p,R,.inl ⟨⟨m,u⟩,kK (K:=K) (a:=p) (xs:=m) (sw f g p t H) ⟨⟨g,none,R,R⟩,R⟩ (λi r n _ z=>by rw[z.2];exact u) ?_ ?_⟩⟩
  ·rintro i x r n C ⟨⟨l,v,rfl,k⟩,rfl⟩;obtain⟨e,y,o⟩:=B.get C;rw[uP y] at k;refine⟨_,R,_,R,_,_,R,R,_,R,_,_,R,R,e,x,_,_,R,o,_,R,?_⟩;refine cx (λc=>?_) (λc=>?_)
   ·have z:dI e (l+1) (f-1)=false:=by simpa using c
    rw[z,HE] at k;rw[<-k] at q;exact q
   ·have z:dI e (l+1) (f-1)=true:=by simpa using c
    rw[z,HV] at k
    cases e with
    |int j=>
     cases ji o
     exact⟨_,R,⟨j,_,R,k⟩,R⟩
    |_=>cases z
  ·rintro r n ⟨⟨l,v,rfl,k⟩,rfl⟩;rw[F l] at k;rw[<-k] at q;exact q
 |true=>
  refine⟨_,R,p,R,.inr ⟨⟨m,u⟩,mf (K:=K) (a:=p) (xs:=m) (sw f g p t H) ⟨⟨g,none,R,R⟩,R⟩ (λi r n _ z=>by rw[z.2];exact u) ?_ ?_⟩⟩
  ·rintro i x r n C ⟨⟨l,v,rfl,k⟩,rfl⟩;obtain⟨e,y,o⟩:=B.get C;rw[uP y] at k;refine⟨_,R,_,R,_,_,R,R,_,R,_,_,R,R,e,x,_,_,R,o,_,R,?_⟩;refine cx (λc=>?_) (λc=>?_)
   ·have z:dI e (l+1) (f-1)=false:=by simpa using c
    rw[z,HE] at k;rw[<-k] at q;exact q
   ·have z:dI e (l+1) (f-1)=true:=by simpa using c
    rw[z,HV] at k
    cases e with
    |int j=>
     cases ji o
     exact⟨_,R,⟨j,_,R,k⟩,R⟩
    |_=>cases z
  ·rintro r n ⟨⟨l,v,rfl,k⟩,rfl⟩;rw[F l] at k;rw[<-k] at q;exact q
theorem tN(T:Txt K mg a d):cC P w K mg base cK 3 a.f_is_option d.f_is_option ["many", "thing"] F2:=by
 have e:=lJ (P:=P) (w:=w) (base:=base) T;refine T.K_is_option.ok CN (λj H Q E h=>?_) (λf A c s H j Q E i h=>?_)
 ·obtain⟨d,v,b,rfl,_⟩:=h
  rfl
 obtain⟨d,v,b,rfl,g,q⟩:=h;refine⟨_,(bP (ce (bY e i.lv rfl T.K_is_whole_within (bE (pv 1) (bE bJ (bE (bO jg (pv 0) bJ) bG)))))),?_⟩;exact⟨_,R,_,R,_,_,R,R,d,v,_,_,R,g,q⟩
theorem tE(T:Txt K mg a d):cC P w K mg base cK 1 a.f_is_filled_tuple d.f_is_filled_tuple ["thing"] Ax:=by
 refine T.K_is_filled_tuple.ok B8 (λm H Q E h=>?_) (λj A f s H m Q E n h=>?_)
 ·obtain⟨d,v,rfl,_⟩:=h
  rfl
 obtain⟨d,v,rfl,g,q⟩:=h;refine⟨_,(bP (ce (ii (cA (ik (K:=K)) rfl T.m_isinstance Hr (bE (pv 0) (bE (gY (v:=.ty "tuple") rfl T.m_tuple HM rfl) bG))) (ig (gg gq (cA (da (K:=K)) rfl T.m_len Hg (bE (pv 0) bG)) bJ (cf _)))))),?_⟩;refine⟨_,R,_,_,_,_,R,kg g,xt d,_,R,?_⟩;refine cx (λc=>?_) (λc=>?_)
 ·obtain⟨b,rfl⟩:=uY c;obtain⟨p,i,rfl,l,k⟩:=iP g;refine⟨_,R,p,_,R,.inr (bW l),_,_,R,R,?_⟩;have e:decide ((0:Int)<((i.length:Nat):Int))=gE (.tuple b):=by
   rw[<-k.length];show _=decide (0<b.length);by_cases z:0<b.length
   ·rw[GF z,GF (by omega)]
   ·rw[GZ z,GZ (by omega)]
  show Q (.bl (decide ((0:Int)<((i.length:Nat):Int)))) H;rw[e];exact q
 ·have e:gE d=false:=by
   cases d<;>first|rfl|exact absurd rfl c
  rw[e] at q;exact q
theorem tZ(T:Txt K mg a d):cC P w K mg base cK 4 a.f_is_bough d.f_is_bough ["many", "bough"] yF:=by
 have X:=tN (P:=P) (w:=w) (base:=base) T;have O:=pA (P:=P) (w:=w) (base:=base) T;have U:=tE (P:=P) (w:=w) (base:=base) T;have S:=tv (P:=P) (w:=w) (base:=base) T;have C:=lJ (P:=P) (w:=w) (base:=base) T;refine T.K_is_bough.ok sc_is_bough (λvs H Q E h=>?_) (λaB A y s H vs Q E f h=>?_)
 ·obtain⟨d,v,b,rfl,_⟩:=h
  rfl
 obtain⟨d,v,b,rfl,G,q⟩:=h;refine⟨_,(bQ (cg (dY (dO (bY O f.lv rfl T.K_is_tuple_of_length (bE (pv 1) (bE bJ bG))))) (bP (ce eY)) cu)
   (bQ (cj (i:=2) sc_is_bough.nd rfl (Or.inl rfl) (bS (cO (K:=K)) (pv 1) bJ (λ_ _=>rfl)))
   (bQ (cj (i:=3) sc_is_bough.nd rfl (Or.inl rfl) (bS (cO (K:=K)) (pv 1) bJ (λ_ _=>rfl)))
   (bQ (cj (i:=4) sc_is_bough.nd rfl (Or.inl rfl) (bS (cO (K:=K)) (pv 1) bJ (λ_ _=>rfl)))
   (bQ (cg (PW.pt (iE (dY (dO (bY X f.lv rfl T.K_is_option (bE (pv 0) (bE (pv 2) bG))))) (iQ (dY (dO (bY U f.lv rfl T.K_is_filled_tuple (bE (pv 4) bG))))))) (bP (ce eY)) cu)
   (bQ (cg (dY (dO (bY S f.lv rfl T.K_are_rising_options (bE (pv 0) (bE (pv 4) (bE (pv 2) bG)))))) (bP (ce eY)) cu)
   (bP (ce (ii (bY C f.lv rfl T.K_is_whole_within (bE (pv 3) (bE bJ (bE (cA (da (K:=K)) rfl T.m_len Hg (bE (pv 4) bG)) bG)))) (ig (bY C f.lv rfl T.K_is_whole_within (bE (bS (cO (K:=K)) (pv 1) bJ (λ_ _=>rfl)) (bE bJ (bE (pv 3) bG)))))))))))))),?_⟩
 refine⟨_,R,d,v,4,R,G,_,R,?_⟩;refine cx (λc=>?_) (λc=>?_)
 ·have z:hU d 4=false:=by simpa using c
  rw[zg z] at q;exact q
 have z:hU d (4:Nat)=true:=by simpa using c
 obtain⟨ds,rfl,Z⟩:=qB z;obtain⟨u,l,h,k,rfl⟩:=BJ Z;obtain⟨p,xs,rfl,m,xu,r1,rfl,L,xl,r2,rfl,ao,xh,r3,rfl,I,xk,r4,rfl,J,Y⟩:=iP G
 cases(show r4=[] from Y)
 refine⟨_,R,p,_,_,_,R,R,bW m,fg,?_⟩;refine⟨_,R,p,_,_,_,R,R,bW m,gQ,?_⟩;refine⟨_,R,p,_,_,_,R,R,bW m,mI,?_⟩;have eb:gF b (.tuple [u,l,h,k])=(dI u 0 (b-1)&&(gE k&&(lD b u k&&(oF h k&&mO l h)))):=rfl;rw[eb] at q;refine⟨_,R,_,R,u,xu,b,R,L,_,R,?_⟩;refine cx (λr=>?_) (λr=>?_)
 ·have n:dI u 0 (b-1)=false:=by simpa using r
  rw[n,HE] at q;exact q
 have n:dI u 0 (b-1)=true:=by simpa using r
 obtain⟨g,rfl,u0,u1⟩:=iu n
 cases ji L
 rw[n,HV] at q;refine⟨_,R,k,xk,R,J,_,R,?_⟩;refine cx (λt=>?_) (λt=>?_)
 ·have o:gE k=false:=by simpa using t
  rw[o,HE] at q;exact q
 have o:gE k=true:=by simpa using t
 rw[o,HV] at q;obtain⟨e,rfl,k0⟩:=m8 o;obtain⟨M,N,rfl,D,F⟩:=iP J;refine⟨_,R,_,R,_,R,b,g,M,true,e,N,R,bW D,F,_,R,?_⟩;refine cx (λx=>?_) (λx=>?_)
 ·have B:lD b (.int g) (.tuple e)=false:=by
   show cZ b e g=false
   simpa using x
  rw[B,HE] at q;exact q
 have B:lD b (.int g) (.tuple e)=true:=by
  show cZ b e g=true
  simpa using x
 rw[B,HV] at q;refine⟨_,R,_,R,M,_,R,.inr (bW D),h,xh,_,_,R,I,_,R,?_⟩;have e4:oF h (.tuple e)=dI h 1 (N.length:Nat):=by
  show dI h 1 (e.length:Nat)=_;rw[F.length]
 rw[e4] at q;refine cx (λj=>?_) (λj=>?_)
 ·rw[j,HV] at q;obtain⟨hi,rfl,h0,h1⟩:=iu j
  cases ji I
  exact⟨_,R,p,_,_,_,R,R,bW m,fO,_,R,l,xl,_,_,R,ao,q⟩
 ·rw[Ho.mpr j,HE] at q;exact q
theorem Cg(T:Txt K mg a d):cC P w K mg base cK 5 a.f_check_boughs d.f_check_boughs ["many", "boughs"] Gg:=by
 have aa:=tZ (P:=P) (w:=w) (base:=base) T;refine T.K_check_boughs.ok sc_check_boughs (λvs H Q E h=>?_) (λaB A C s H vs Q E X h=>?_)
 ·obtain⟨c,p,o,l,rfl,_⟩:=h
  rfl
 obtain⟨c,p,o,l,rfl,U,S,G,m1,Z,ar,q⟩:=h;refine⟨_,(bQ (cj (i:=2) sc_check_boughs.nd rfl (Or.inl rfl) (cB bG))
   (bQ (eV HU rfl (oj rfl T.m_enumerate (bE (pv 1) bG)) (i3 (K:=K) (n:=2) rfl (eU (cG (i:=3) sc_check_boughs.nd rfl (Or.inl rfl)) (eU (cG (i:=4) sc_check_boughs.nd rfl (Or.inl rfl)) jc))) (bQ (cg (dY (dO (bY aa X.lv rfl T.K_is_bough (bE (pv 0) (bE (pv 4) bG))))) (bP ja) cu)
   (bP (eA (cM (K:=K) Hn Kc Kd uE (pv 2) (bE (bS (cO (K:=K)) (pv 4) bJ (λ_ _=>rfl)) bG))))))
   (bP (cg (cm (qx X.units) (cA ud rfl T.m_sorted Kb (bE (pv 2) bG)) (dW (tG rfl) rfl T.m_list IG (bE (dW vS rfl T.m_range Lr (bE bJ (bE (pv 0) bG))) bG)) (cf _)) (bP ja) cu)))),?_⟩
 refine⟨bT (by decide),λj u=>?_⟩;refine⟨_,R,true,p,R,⟨o,bW ((bL u _) _ _ U)⟩,?_⟩;refine nP (K:=K) (b:=true) (a:=p) (xs:=o) (λi r e=>(∃F I,r=[some (.int c),some (.ref p),some (.ref j),F,I])/\Same H e/\e j=some (.lst (((l.take i).flatMap eH).map V.int))) ⟨⟨none,none,R⟩,bL u _,bI⟩ (λi r e _ z=>bW (z.2.1 _ _ U)) ?_ ?_
 ·rintro i x r e hx ⟨⟨F,I,rfl⟩,D,m⟩ TT N;obtain⟨b,y,O⟩:=S.get hx;have M:=G.each b (GO y);have g:Same H (upd e TT (.tup [.int i,x])):=D.trans (bL N _);have t:upd e TT (.tup [.int i,x]) j=some (.lst (((l.take i).flatMap eH).map V.int)):=(bL N _) _ _ m;refine⟨TT,_,R,bW bI,R,_,_,R,_,_,R,R,?_⟩;refine⟨_,R,_,R,b,x,c,R,Dn.same g _ _ O,_,R,?_⟩;rw[M];refine cX ?_;obtain⟨pb,xu,xl,xh,pk,rfl,aq,ak⟩:=uh M (Dn.same g _ _ O);have v:=vM G Z (i+1);rw[kA y,GC] at v;refine⟨_,R,.inl ⟨R,_,SqL.of t⟩,_,R,pb,_,_,_,R,R,bW aq,mI,j,pk,_,_,R,R,t,ak,?_,?_⟩
  ·rw[Gz,Gz];exact bT (by omega)
  ·refine⟨⟨_,_,R⟩,Wd.Same.put g u t,?_⟩
   ·rw[bI,kA y,GX]
 ·rintro r e ⟨⟨F,I,rfl⟩,D,m⟩;rw[<-S.length,Hy] at m;have v:=vM G Z l.length;rw[Hy] at v;have k:(2:Int)^62=4611686018427387904:=by decide
  refine⟨_,R,j,_,R,SqL.of m,by omega,λf pm ps B am=>?_⟩;have ao:=D.trans (bL am (.lst (f.map V.int)));refine⟨_,R,_,_,R,λrp J=>?_⟩;refine⟨rp,1,c,R,bI,by rw[k];omega,by rw[k];omega,by rw[k];omega,by rw[k];omega,by omega,λY L=>?_⟩;have g:=(ao.trans (bL J (.rng 1 c))).trans (bL L (.lst ((List.range' 0 (c-1).toNat).map λi:Nat=>V.int (1+(i:Int)))));have e1:f=(List.range' 0 (c-1).toNat).map λi:Nat=>(1:Int)+i:=PySem.W.ksm_same (pm.trans G.kids) ps (qb 1 _ 0);have h1:upd (upd (upd e B (.lst (f.map V.int))) rp (.rng 1 c)) Y (.lst ((List.range' 0 (c-1).toNat).map λi:Nat=>V.int (1+(i:Int)))) B=some (.lst (f.map V.int)):=(bL L _) _ _ ((bL J _) _ _ bI);refine⟨B,Y,f,f,R,R,SqL.of h1,?_,_,R,?_⟩
  ·refine SqL.of ?_;rw[bI,e1,HN]
   rfl
  ·refine sM rfl ?_;exact q _ g
theorem CP(T:Txt K mg a d):cC P w K mg base cK 4 a.f_are_pairs d.f_are_pairs ["many", "pairs"] yL:=by
 have aa:=pA (P:=P) (w:=w) (base:=base) T;have af:=tE (P:=P) (w:=w) (base:=base) T;have ae:=tv (P:=P) (w:=w) (base:=base) T;have ag:=pY (P:=P) (w:=w) (base:=base) T;refine T.K_are_pairs.ok sc_are_pairs (λvs H Q E h=>?_) (λaB A O s H vs Q E G h=>?_)
 ·obtain⟨d,v,b,rfl,_⟩:=h
  rfl
 obtain⟨d,v,b,rfl,hd,ak,q⟩:=h;refine⟨_,(bQ (cg (dY (dO (bY af G.lv rfl T.K_is_filled_tuple (bE (pv 1) bG)))) (bP (ce eY)) cu)
   (bQ (eV HU rfl (jW (K:=K) (pv 1)) (cG (i:=2) sc_are_pairs.nd rfl (Or.inl rfl)) (bP (cg (PW.pt (iE (dY (dO (bY aa G.lv rfl T.K_is_tuple_of_length (bE (pv 2) (bE bJ bG))))) (iQ (dY (dO (bY ag G.lv rfl T.K_is_whole (bE (bS (cO (K:=K)) (pv 2) bJ (λ_ _=>rfl)) bG))))))) (bP (ce eY)) cu)))
   (bP (ce (bY ae G.lv rfl T.K_are_rising_options (bE (pv 0) (bE (hZ (N':=["pair"]) (n:=1) (kp:=[]) rfl (jW (K:=K) (pv 1)) rfl rfl rfl (λ_ _ _ _ _=>(cG (i:=0) (GJ rfl) rfl (Or.inl rfl))) (λ_ _ _ _ _=>fA) (λ_ _ _ _ _=>(bS (cO (K:=K)) (pv 0) bJ (λ_ _=>rfl)))) (bE (my mq bJ) bG)))))))),?_⟩
 refine⟨_,R,d,v,R,hd,_,R,?_⟩;refine cx (λc=>?_) (λc=>?_)
 ·have z:gE d=false:=by simpa using c
  have e:lV b d=false:=by
   cases d with
   |tuple f=>
    show(decide (0<f.length)&&f.all gI&&cZ b (f.map fX) (-1))=false;rw[show decide (0<f.length)=false from z,HE,HE]
   |_=>rfl
  rw[e] at q;exact q H (Same.refl H)
 have z:gE d=true:=by simpa using c
 obtain⟨f,rfl,k0⟩:=m8 z;obtain⟨p,m,rfl,F,D⟩:=iP hd;have e:lV b (.tuple f)=(f.all gI&&cZ b (f.map fX) (-1)):=by
  show(decide (0<f.length)&&f.all gI&&cZ b (f.map fX) (-1))=_;rw[show decide (0<f.length)=true from GF k0,HV]
 rw[e] at q;refine⟨_,R,p,R,⟨m,bW F⟩,mf (K:=K) (a:=p) (xs:=m) (λi j g=>(∃v,j=[some (.int b),some (.ref p),v])/\g=H/\(f.take i).all gI=true) ⟨⟨none,R⟩,R,R⟩ (λi j g _ z=>by rw[z.2.1];exact bW F) ?_ ?_⟩
 ·rintro i x j g I ⟨⟨v,rfl⟩,rfl,B⟩;obtain⟨k,t,u⟩:=D.get I;refine⟨_,R,k,x,2,R,u,_,R,?_⟩;refine cx (λL=>?_) (λL=>?_)
  ·have X:hU k 2=false:=by simpa using L
   rw[wG t (Aw X),HE] at q;exact q g (Same.refl g)
  have X:hU k (2:Nat)=true:=by simpa using L
  obtain⟨es,rfl,ao⟩:=qB X;obtain⟨o,n,rfl⟩:=two ao;obtain⟨U,r,rfl,J,xo,r1,rfl,ho,xn,r2,rfl,hn,Z⟩:=iP u
  cases(show r2=[] from Z)
  refine⟨_,R,U,_,_,_,R,R,bW J,fO,n,xn,R,hn,_,R,?_⟩;refine cx (λM=>?_) (λM=>?_)
  ·have Y:gI (.tuple [o,n])=false:=by
    show jy n=false
    simpa using M
   rw[wG t Y,HE] at q;exact q g (Same.refl g)
  ·have Y:gI (.tuple [o,n])=true:=by
    show jy n=true
    simpa using M
   exact⟨⟨_,R⟩,R,FU t B Y⟩
 ·rintro j g ⟨⟨v,rfl⟩,rfl,B⟩;rw[<-D.length,Hy] at B;rw[B,HV] at q;refine⟨_,R,_,R,p,R,⟨m,bW F⟩,?_⟩;refine rO (K:=K) (a:=p) (xs:=m) (λi r j C=>(∃v,j=[v])/\C=g/\i<=m.length/\DnL g ((f.take i).map fX) r) ⟨⟨none,R⟩,R,Iv _,R⟩ (λi r j C N pv=>?_) (λi r j C N pv=>?_) (λi x r j C I pv=>?_) (λr j C pv l aq=>?_)
  ·obtain⟨_,_,h1,y⟩:=pv;have k:=y.length;rw[Gz,G8] at k;have e2:=D.length;have e3:f.length<=1000:=ak;exact bT (by omega)
  ·rw[pv.2.1];exact bW F
  ·obtain⟨⟨v,rfl⟩,rfl,h1,y⟩:=pv;obtain⟨k,t,u⟩:=D.get I;have S:gI k=true:=by
    rw[Hv] at B;exact B k (GO t)
   cases k with
   |tuple es=>
    match es,S,u with
    |[o,n],S,u=>
     obtain⟨U,zs,rfl,J,xo,r1,rfl,ho,xn,r2,rfl,hn,Z⟩:=iP u;refine⟨_,R,U,_,_,_,R,R,bW J,fg,⟨_,R⟩,R,(GU.mp I).1,?_⟩;obtain⟨N,ee⟩:=GU.mp t;rw[Ji N,GX,ee];exact y.append ⟨xo,[],R,ho,R⟩
   |_=>cases S
  ·obtain⟨_,rfl,_,y⟩:=pv;rw[<-D.length,Hy] at y;exact⟨_,R,b,-1,l,false,f.map fX,r,R,SqL.of bI,DnL.same (bL aq _) _ _ y,q _ (bL aq _)⟩
theorem tF(T:Txt K mg a d):cC P w K mg base cK 5 a.f_is_cross_tie d.f_is_cross_tie ["many", "tie"] AQ:=by
 have N:=tN (P:=P) (w:=w) (base:=base) T;have Z:=pA (P:=P) (w:=w) (base:=base) T;have af:=CP (P:=P) (w:=w) (base:=base) T;have ag:=pY (P:=P) (w:=w) (base:=base) T;refine T.K_is_cross_tie.ok Ci (λvs H Q E h=>?_) (λaB A I s H vs Q E n h=>?_)
 ·obtain⟨d,v,b,rfl,_⟩:=h
  rfl
 obtain⟨d,v,b,rfl,U,h3,q⟩:=h;refine⟨_,(bQ (cg (PW.pt (iE (dY (dO (bY Z n.lv rfl T.K_is_tuple_of_length (bE (pv 1) (bE bJ bG))))) (iQ (dY (dO (cA (ik (K:=K)) rfl T.m_isinstance Hr (bE (bS (cO (K:=K)) (pv 1) bJ (λ_ _=>rfl)) (bE (gY (v:=.ty "str") rfl T.m_str HY rfl) bG)))))))) (bP (ce eY)) cu)
   (bQ (cg (cm cP (bS (cO (K:=K)) (pv 1) bJ (λ_ _=>rfl)) bM (cf _)) (bP (ce (ii (bY ag n.lv rfl T.K_is_whole (bE (bS (cO (K:=K)) (pv 1) bJ (λ_ _=>rfl)) bG)) (ig (bY af n.lv rfl T.K_are_pairs (bE (pv 0) (bE (bS (cO (K:=K)) (pv 1) bJ (λ_ _=>rfl)) bG))))))) cu)
   (bQ (cg (cm mY (bS (cO (K:=K)) (pv 1) bJ (λ_ _=>rfl)) (dN (bE bM (bE bM bG))) (by with_unfolding_all rfl)) (bP (ce eY)) cu)
   (bP (ce (ii (bY N n.lv rfl T.K_is_option (bE (pv 0) (bE (bS (cO (K:=K)) (pv 1) bJ (λ_ _=>rfl)) bG))) (ii (bY N n.lv rfl T.K_is_option (bE (pv 0) (bE (bS (cO (K:=K)) (pv 1) bJ (λ_ _=>rfl)) bG))) (ig (gg kh (bS (cO (K:=K)) (pv 1) bJ (λ_ _=>rfl)) (bS (cO (K:=K)) (pv 1) bJ (λ_ _=>rfl)) (cf _)))))))))),?_⟩
 refine⟨_,R,d,v,3,R,U,_,R,?_⟩;refine cx (λc=>?_) (λc=>?_)
 ·have z:hU d 3=false:=by simpa using c
  rw[AU z] at q;exact q H (Same.refl H)
 have z:hU d (3:Nat)=true:=by simpa using c
 obtain⟨ds,rfl,aj⟩:=qB z;obtain⟨k,x,y,rfl⟩:=AV aj;obtain⟨p,xs,rfl,l,xk,r1,rfl,X,L,r2,rfl,F,M,r3,rfl,G,ai⟩:=iP U
 cases(show r3=[] from ai)
 have J:∀m,Same H m->Q (.bl (mL b x y k)) m:=q;refine⟨_,R,p,_,_,_,R,R,bW l,fg,_,_,_,_,R,kg X,Am k,_,R,?_⟩;refine cx (λu=>?_) (λu=>?_)
 ·have z1:mL b x y k=false:=by
   cases k with
   |str s=>cases u
   |_=>rfl
  rw[z1] at J;exact J H (Same.refl H)
 obtain⟨s,rfl⟩:∃s,k=.str s:=by
  cases k with
  |str s=>exact⟨s,rfl⟩
  |_=>exact absurd rfl u
 cases(show xk=.str s from X)
 have e:∀m,Same H m->Q (.bl (gu b s x y)) m:=J;unfold gu at e;refine⟨_,R,p,_,_,_,R,R,bW l,fg,R,_,R,?_⟩;refine cx (λB=>?_) (λB=>?_)
 ·have C:s=("most" : Str):=GJ ((jE _ _).symm.trans B);rw[Hl C] at e;refine⟨_,R,p,_,_,_,R,R,bW l,fO,x,L,R,F,_,R,?_⟩;refine cx (λf=>?_) (λf=>?_)
  ·rw[f,HV] at e;exact⟨_,R,_,R,p,_,_,_,R,R,bW l,gQ,y,M,b,R,G,h3,e⟩
  ·rw[Ho.mpr f,HE] at e;exact e H (Same.refl H)
 have C:¬s=("most" : Str):=Kq ((jE _ _).symm.trans (Ho.mpr B));rw[GY C] at e;refine⟨_,R,p,_,_,_,R,R,bW l,fg,bT (by show 2<=1000;decide),λY ak=>?_⟩;refine⟨Y,_,R,.inr (bW bI),R,R,_,R,?_⟩;have g:=bL ak (.tup [.str ("needs" : Str),.str ("bans" : Str)]);have o:upd H Y (.tup [.str ("needs" : Str),.str ("bans" : Str)]) p=some (.tup [.str s,L,M]):=g _ _ l;have am:(if true=true then !jx (.str s) [.str ("needs" : Str),.str ("bans" : Str)] else jx (.str s) [.str ("needs" : Str),.str ("bans" : Str)])=!decide (s=("needs" : Str)\/s=("bans" : Str)):=by
  show(!(((("needs" : Str)==s)||((("bans" : Str)==s)||false))))=_;by_cases O:s=("needs" : Str)
  ·subst O;simp
  ·by_cases S:s=("bans" : Str)
   ·subst S;simp
   ·have g1:((("needs" : Str)==s)=false):=by
     rw[Ho];intro z;exact O (eq_of_beq z).symm
    have g2:((("bans" : Str)==s)=false):=by
     rw[Ho];intro z;exact S (eq_of_beq z).symm
    rw[g1,g2,GZ (by rintro(z|z)<;>contradiction)]
    rfl
 rw[am];refine cx (λf=>?_) (λf=>?_)
 ·have D:¬(s=("needs" : Str)\/s=("bans" : Str)):=by simpa using f
  rw[GY D] at e;exact e _ g
 have D:s=("needs" : Str)\/s=("bans" : Str):=by
  by_cases z:s=("needs" : Str)\/s=("bans" : Str)
  ·exact z
  ·exact absurd (by rw[GZ z];rfl) f
 rw[Hl D] at e;refine⟨_,R,_,R,p,_,_,_,R,R,bW o,fO,x,L,b,R,Dn.same g _ _ F,_,R,?_⟩;refine cx (λr=>?_) (λr=>?_)
 ·rw[r,HV] at e;refine⟨_,R,_,R,p,_,_,_,R,R,bW o,gQ,y,M,b,R,Dn.same g _ _ G,_,R,?_⟩;refine cx (λt=>?_) (λt=>?_)
  ·rw[t,HV] at e;obtain⟨i,rfl,_⟩:=iu r;obtain⟨j,rfl,_⟩:=iu t
   cases ji F
   cases ji G
   refine⟨_,R,p,_,_,_,R,R,bW o,fO,_,R,p,_,_,_,R,R,bW o,gQ,R,?_⟩;have e5:(!decide (V.int i=V.int j))=su (.int i) (.int j):=by
    show _=!decide (i=j);rw[ma];by_cases z:i=j
    ·rw[GF z]
     simpa using z
    ·rw[GZ z]
     simpa using z
   rw[e5];exact e _ g
  ·rw[Ho.mpr t,HE] at e;exact e _ g
 ·rw[Ho.mpr r,HE] at e;exact e _ g
theorem Ca(T:Txt K mg a d):cC P w K mg base cK 6 a.f_check_cross_ties d.f_check_cross_ties ["many", "cross"] FT:=by
 have y:=tF (P:=P) (w:=w) (base:=base) T;obtain⟨_,u⟩:=T.c_MOST_CROSS_TIES;refine T.K_check_cross_ties.ok sc_check_cross_ties (λS H Q E h=>?_) (λC A k s H S Q E N h=>?_)
 ·obtain⟨c,p,f,X,rfl,_⟩:=h
  rfl
 obtain⟨c,p,f,Y,rfl,j,t,G,Z,q⟩:=h;refine⟨_,(bQ (cg (cm gq (cA (da (K:=K)) rfl T.m_len Hg (bE (pv 1) bG)) (fU (v:=.int 8) rfl u ⟨_,R⟩) (cf _)) (bP ja) cu)
   (bP (eV HU rfl (oj rfl T.m_enumerate (bE (pv 1) bG)) (i3 (K:=K) (n:=2) rfl (eU (cG (i:=2) sc_check_cross_ties.nd rfl (Or.inl rfl)) (eU (cG (i:=3) sc_check_cross_ties.nd rfl (Or.inl rfl)) jc))) (bP (cg (dY (dO (bY y N.lv rfl T.K_is_cross_tie (bE (pv 0) (bE (pv 3) bG))))) (bP ja) cu))))),?_⟩
 refine⟨_,R,p,_,R,.inr (bW j),_,_,R,R,_,R,?_⟩;have D:decide ((8:Int)<((f.length:Nat):Int))=false:=by
  rw[<-t.length];exact GZ (by omega)
 rw[D];refine cX ?_;refine⟨_,R,true,p,R,⟨f,bW j⟩,?_⟩;refine nP (K:=K) (b:=true) (a:=p) (xs:=f) (λi g e=>(∃m o,g=[some (.int c),some (.ref p),m,o])/\Same H e) ⟨⟨none,none,R⟩,Same.refl H⟩ (λi g e _ z=>bW (z.2 _ _ j)) ?_ ?_
 ·rintro i x g e O ⟨⟨m,o,rfl⟩,l⟩ TT J;obtain⟨b,L,M⟩:=t.get O;obtain⟨I,F⟩:=G b (GO L);have r:Same H (upd e TT (.tup [.int i,x])):=l.trans (bL J _);refine⟨TT,_,R,bW bI,R,_,_,R,_,_,R,R,?_⟩;refine⟨_,R,_,R,b,x,c,R,Dn.same r _ _ M,F,λU B=>⟨_,R,?_⟩⟩;rw[I];refine cX ?_;exact⟨⟨_,_,R⟩,r.trans B⟩
 ·rintro g e ⟨⟨m,o,rfl⟩,l⟩;exact q e l
theorem DK(T:Txt K mg a d):cC P w K mg base cK 7 a.f_wood_of d.f_wood_of ["many", "boughs", "cross"] zE:=by
 have O:=lJ (P:=P) (w:=w) (base:=base) T;have S:=Cg (P:=P) (w:=w) (base:=base) T;have N:=Ca (P:=P) (w:=w) (base:=base) T;obtain⟨_,U⟩:=T.c_MOST_OPTIONS;refine T.K_wood_of.ok sc_wood_of (λvs H Q E h=>?_) (λaB A o s H vs Q E n h=>?_)
 ·obtain⟨b,p,r,e,f,C,D,rfl,_⟩:=h
  rfl
 obtain⟨b,p,r,e,f,C,D,rfl,F,x,hl,X,G,I,J,b9,L,c8,q⟩:=h;refine⟨_,(bQ (cg (dY (dO (bY O n.lv rfl T.K_is_whole_within (bE (pv 0) (bE bJ (bE (fU (v:=.int 9) rfl U ⟨_,R⟩) bG)))))) (bP ja) cu)
   (bQ (cg (dY (dO (cA (ik (K:=K)) rfl T.m_isinstance Hr (bE (pv 1) (bE (gY (v:=.ty "list") rfl T.m_list IG rfl) bG))))) (bP ja) cu)
   (bQ (cg (dY (dO (cA (ik (K:=K)) rfl T.m_isinstance Hr (bE (pv 2) (bE (gY (v:=.ty "list") rfl T.m_list IG rfl) bG))))) (bP ja) cu)
   (bQ (cj (i:=3) sc_wood_of.nd rfl (Or.inl rfl) (dN (bE (pv 0) (bE (dW i5 rfl T.m_tuple HM (bE (pv 1) bG)) (bE (dW i5 rfl T.m_tuple HM (bE (pv 2) bG)) bG)))))
   (bQ (eA (bY S n.lv rfl T.K_check_boughs (bE (pv 0) (bE (bS (cO (K:=K)) (pv 3) bJ (λ_ _=>rfl)) bG))))
   (bQ (eA (bY N n.lv rfl T.K_check_cross_ties (bE (pv 0) (bE (bS (cO (K:=K)) (pv 3) bJ (λ_ _=>rfl)) bG))))
   (bP (ce (pv 3))))))))),?_⟩
 refine⟨_,R,.int b,.int b,1,9,R,R,_,R,?_⟩;have ew:dI (.int b) 1 9=true:=by
  show(decide (1<=b)&&decide (b<=9))=true;rw[GF I,GF J]
  rfl
 rw[ew];refine cX ?_;refine⟨_,R,_,_,_,_,R,.lst F,tK,_,R,?_⟩;refine cX ?_;refine⟨_,R,_,_,_,_,R,.lst x,tK,_,R,?_⟩;refine cX ?_;refine⟨_,R,_,R,p,e,R,.inl ⟨SqL.of F,λtb Z=>?_⟩⟩;have y:=bL Z (.tup e);refine⟨_,R,r,f,R,.inl ⟨SqL.of (y _ _ x),λc t=>?_⟩⟩;have Y:=y.trans (bL t (.tup f));refine⟨bT (by show 3<=1000;decide),λg l=>?_⟩;have m:=Y.trans (bL l (.tup [.int b,.ref tb,.ref c]));have B:upd (upd (upd H tb (.tup e)) c (.tup f)) g (.tup [.int b,.ref tb,.ref c]) tb=some (.tup e):=(bL l _) _ _ ((bL t _) _ _ bI);have z:upd (upd (upd H tb (.tup e)) c (.tup f)) g (.tup [.int b,.ref tb,.ref c]) c=some (.tup f):=(bL l _) _ _ bI;refine⟨_,R,_,R,g,_,_,_,R,R,bW bI,fO,b,tb,e,C,R,B,DnL.same m _ _ hl,G,I,J,b9,λH4 j=>?_⟩;have u:=j _ _ (show upd (upd (upd H tb (.tup e)) c (.tup f)) g (.tup [.int b,.ref tb,.ref c]) g=some (.tup [.int b,.ref tb,.ref c]) from bI);refine⟨_,R,_,R,g,_,_,_,R,R,bW u,gQ,b,c,f,D,R,j _ _ z,DnL.same (m.trans j) _ _ X,L,c8,λM k=>?_⟩;exact⟨_,R,q g tb c M (m.trans (j.trans k)) (k _ _ u) (k _ _ (j _ _ B)) (k _ _ (j _ _ z))⟩
theorem tH(T:Txt K mg a d):cC P w K mg base cK 1 a.f_is_made_of d.f_is_made_of ["word", "signs"] AA:=by
 refine T.K_is_made_of.ok Cu (λr H Q E h=>?_) (λk A g s H r Q E t h=>?_)
 ·obtain⟨z,y,rfl,_⟩:=h
  rfl
 obtain⟨z,y,rfl,j,q⟩:=h;refine⟨_,(bP (ce (cA (ua rfl) rfl T.m_all PyProof.Rows.boot_all (bE (hZ (N':=["sign", "signs"]) (n:=1) (kp:=[1]) rfl (Az (pv 0)) rfl rfl rfl (λ_ _ _ _ _=>(cG (i:=0) (GJ rfl) rfl (Or.inl rfl))) (λ_ _ _ _ _=>fA) (λ_ _ _ _ _=>(gg ER (pv 0) (pv 1) (by with_unfolding_all rfl)))) bG)))),?_⟩;refine⟨_,R,z,R,j.1,?_⟩;refine Ab (x:=z) (λi e f b=>(∃v,f=[v,some (.str y)])/\b=H/\e=((z.cps.toList.take i).map λc=>jw c y).map V.bl) ⟨⟨none,R⟩,R,R⟩ (λi e f b m pv=>?_) (λi c e f b l pv=>?_) (λe f b pv p o=>?_)
 ·obtain⟨_,_,rfl⟩:=pv;rw[Gz,Gz,G8];exact bT (Hm (Nat.min_le_left _ _) (Hm m j.2))
 ·obtain⟨⟨v,rfl⟩,rfl,rfl⟩:=pv;refine⟨_,R,_,R,_,_,R,R,⟨_,R⟩,R,?_⟩;rw[HQ,show z.cps.toList[i]?=some c from by rw[JE];exact l,GX,GX]
  rfl
 ·obtain⟨_,rfl,rfl⟩:=pv;refine⟨p,_,R,SqL.of bI,?_⟩;rw[show(z.cps.toList.take z.cps.size)=z.cps.toList from by rw[<-HH,Hy],List.all_map];exact q _ (bL o _)
theorem DP(T:Txt K mg a d):cC P w K mg base cK 2 a.f_is_name d.f_is_name ["word"] zR:=by
 have n:=tH (P:=P) (w:=w) (base:=base) T;obtain⟨_,m⟩:=T.c_LONGEST_NAME;obtain⟨_,o⟩:=T.c_LETTERS;refine T.K_is_name.ok DZ (λx H Q E h=>?_) (λt A j s H x Q E u h=>?_)
 ·obtain⟨z,rfl,_⟩:=h
  rfl
 obtain⟨z,rfl,k,q⟩:=h;have y:z.length<=sizeLine:=bT k.2;refine⟨_,(bP (ce (ii (wq lA lA bJ (cA tP rfl T.m_len Hg (bE (pv 0) bG)) (fU (v:=.int 8) rfl m ⟨_,R⟩)) (ii (bY n u.lv rfl T.K_is_made_of (bE (pv 0) (bE (fU (v:=.str "abcdefghijklmnopqrstuvwxyz") rfl o ⟨_,R⟩) bG))) (ig (gg mY (pv 0) (fU (v:=.ref a.x_NO_NAMES) rfl T.g_NO_NAMES rfl) (by with_unfolding_all rfl))))))),?_⟩;refine⟨_,R,z,R,y,_,_,R,R,_,R,?_⟩;refine cx (λf=>?_) (λf=>?_)
 ·have p:(1:Int)<=z.length:=GJ f;refine⟨_,_,R,R,_,R,?_⟩;refine cx (λg=>?_) (λg=>?_)
  ·have r:(z.length:Int)<=8:=GJ g;have e:dA z=(fR z kN&&!noNames.contains z):=by
    unfold dA;rw[GF (by omega),HV]
   rw[e] at q;refine⟨_,R,z,_,R,k,λb l=>⟨_,R,?_⟩⟩;refine cx (λi=>?_) (λi=>?_)
   ·have c:fR z kN=true:=i;rw[c,HV] at q;refine⟨_,R,a.x_NO_NAMES,bF noNames,R,.inr (y9 T.q_NO_NAMES b),R,lO _,?_⟩;rw[Hl rfl,lQ];exact q b l
   ·have c:fR z kN=false:=Ho.mpr i;rw[c,HE] at q;exact q b l
  ·have r:¬(z.length:Int)<=8:=λh=>g (GF h);have e:dA z=false:=by
    unfold dA;rw[GZ (by omega),HE]
   rw[e] at q;exact q H (Same.refl H)
 ·have p:¬(1:Int)<=z.length:=λh=>f (GF h);have e:dA z=false:=by
   unfold dA;rw[GZ (by omega),HE]
  rw[e] at q;refine⟨_,R,cX ?_⟩;exact q H (Same.refl H)
theorem qf(T:Txt K mg a d):cC P w K mg base (eh P w) 3 a.f_names_in d.f_names_in ["words"] (vC a.x_NoText):=by
 have aa:=DP (P:=P) (w:=w) (base:=base) T;refine T.K_names_in.okR sc_names_in (λvs H Q E h=>?_) (λaB A U s H vs Q E hr h=>?_)
 ·obtain⟨l,Z,rfl,_⟩:=h
  rfl
 obtain⟨l,Z,rfl,hl,ne,am,pw,qy,M⟩:=h;obtain⟨j,b,rfl⟩:∃j wr,Z=j::wr:=by
  cases Z with
  |nil=>exact absurd rfl ne
  |cons x r=>exact⟨x,r,rfl⟩
 rw[GN] at am;have m:eL (j::b)=if j = "ware" /\ b≠[]/\b.all dA=true/\b.Nodup then some b else none:=rfl
 refine⟨_,(bQ (cj (i:=1) sc_names_in.nd rfl (Or.inl rfl) (dX dZ (pv 0) (dJ bJ) eK))
   (bQ (cg (PW.pt (iE (cm kh (bS (cD (K:=K)) (pv 0) bJ (λ_ _=>rfl)) bM (cf _)) (iQ (cm cP (cA (da (K:=K)) rfl T.m_len Hg (bE (pv 1) bG)) bJ (cf _))))) (bP (fv rfl rfl T.g_NoText T.x_NoText.cl (bE bM bG) (λ_ _ _ _ _ _ _ I e S=>fu I e S))) cu)
   (bQ (cg (PW.pt (iE (dY (dO (cA (ua rfl) rfl T.m_all PyProof.Rows.boot_all (bE (hZ (N':=["name"]) (n:=1) (kp:=[]) rfl (eR (K:=K) (pv 1)) rfl rfl rfl (λ_ _ _ _ _=>(cG (i:=0) (GJ rfl) rfl (Or.inl rfl))) (λ_ _ _ _ _=>fA) (λ_ _ _ _ _=>(bY aa hr.lv rfl T.K_is_name (bE (pv 0) bG)))) bG)))) (iQ (cm sg (cA (D1 (P:=P) (w:=w)) rfl T.m_len Hg (bE (dW (Ev (P:=P) (w:=w) rfl) rfl T.m_set PyProof.Rows.boot_set (bE (pv 1) bG)) bG)) (cA (da (K:=K)) rfl T.m_len Hg (bE (pv 1) bG)) (cf _))))) (bP (fv rfl rfl T.g_NoText T.x_NoText.cl (bE bM bG) (λ_ _ _ _ _ _ _ I e S=>fu I e S))) cu)
   (bP (ce (pv 1)))))),?_⟩
 refine⟨_,R,_,R,l,_,R,SqL.of hl,λp hp=>?_⟩;rw[show dS (bF (j::b)) (some 1) none=bF b from jF _ 1];have o:=bL hp (.lst (bF b));have ah:=o _ _ hl;have k:(upd H p (.lst (bF b))) p=some (.lst (bF b)):=bI;generalize upd H p (.lst (bF b))=N at o ah k |-;refine⟨_,R,l,_,_,_,R,R,SqL.of ah,fg,R,_,R,?_⟩;rw[jE];by_cases B:j = "ware"
 ·rw[GF B];refine cX ?_;refine⟨_,R,p,_,R,.inl (SqL.of k),R,_,R,?_⟩;by_cases G:b=[]
  ·rw[show decide (V.int ((bF b).length:Int)=V.int 0)=true from by rw[G];rfl];exact dB ⟨by show 1<=1000;decide,M (by rw[m,GY λc=>c.2.1 G]) N o⟩
  rw[wu G (by rw[bF,Gz])];refine cX ?_;refine⟨_,R,p,R,⟨_,SqL.of k⟩,?_⟩;refine gZ (K:=K) (a:=p) (xs:=bF b) (λi q t f=>(∃v,t=[v])/\Same N f/\q=((b.take i).map dA).map V.bl) ⟨⟨none,R⟩,Same.refl _,R⟩ (λi q t f hi pv=>?_) (λi q t f hi pv=>?_) (λi x q t f e pv=>?_) (λq t f pv J ak=>?_)
  ·obtain⟨_,_,rfl⟩:=pv;rw[Gz,Gz,G8];exact bT (by omega)
  ·exact SqL.of (pv.2.1 _ _ k)
  ·obtain⟨⟨v,rfl⟩,Y,rfl⟩:=pv;unfold bF at e;rw[GQ] at e
   cases D:b[i]? with
   |none=>
    rw[D] at e
    cases e
   |some z=>
    rw[D] at e
    cases e
    refine⟨_,R,z,R,pw z (GP _ (GO D)),λO s3=>⟨⟨_,R⟩,Y.trans s3,?_⟩⟩;rw[HQ,D,GX,GX]
    rfl
  ·obtain⟨_,Y,rfl⟩:=pv;rw[show(bF b).length=b.length from by rw[bF,Gz],Hy];have ai:=Y.trans (bL ak (.lst ((b.map dA).map V.bl)));have X:=o.trans ai;have u:=ai _ _ k;have a2:(upd f J (.lst ((b.map dA).map V.bl))) J=some (.lst ((b.map dA).map V.bl)):=bI;generalize upd f J (.lst ((b.map dA).map V.bl))=O at X u a2 |-;refine⟨J,_,R,SqL.of a2,_,R,?_⟩;rw[show((b.map dA).all id)=b.all dA from by rw[List.all_map];rfl];by_cases C:b.all dA=true
   ·rw[C];refine cX ?_;refine⟨_,R,p,b,R,SqL.of u,by omega,λg k1 k2 k3 L aj=>?_⟩;have ag:(upd O L (sS P w L g)) p=some (.lst (bF b)):=by
     rw[bR (cY u aj)];exact u
    refine⟨L,g,R,bI,_,R,p,_,R,.inl (SqL.of ag),_,_,R,R,_,R,?_⟩;have s4:=X.trans (bL aj (sS P w L g));by_cases F:b.Nodup
    ·rw[show decide (((g.length:Nat):Int)<(((bF b).length:Nat):Int))=false from by
      rw[bF,Gz,E9 k1 F k2];exact GZ (Int.lt_irrefl _)]
     refine cX ?_;exact⟨_,R,qy b (by rw[m,Hl ⟨B,G,C,F⟩]) p _ s4 hp ag⟩
    ·rw[show decide (((g.length:Nat):Int)<(((bF b).length:Nat):Int))=true from by
      refine GF ?_;rw[bF,Gz];rcases KY g.length b.length with y|y
      ·omega
      ·exact absurd (Gv k1 k2 y) F]
     exact dB ⟨by show 1<=1000;decide,M (by rw[m,GY λc=>F c.2.2.2]) _ s4⟩
   ·rw[Ho.mpr C];exact dB (dB ⟨by show 1<=1000;decide,M (by rw[m,GY λc=>C c.2.2.1]) O X⟩)
 ·rw[GZ B];exact dB (dB ⟨by show 1<=1000;decide,M (by rw[m,GY λc=>B c.1]) N o⟩)
theorem Dl(T:Txt K mg a d):cC P w K mg base cK 3 a.f_names_in d.f_names_in ["words"] ve:=oU (qf T) λ_ _ _ _=>Ft
theorem pE(T:Txt K mg a d):cC P w K mg base cK 1 a.f_is_cross_line d.f_is_cross_line ["words"] Dj:=by
 refine T.K_is_cross_line.ok Cm (λC H Q E h=>?_) (λn A j s H C Q E D h=>?_)
 ·obtain⟨l,k,rfl,_⟩:=h
  rfl
 obtain⟨l,k,rfl,i,B,q⟩:=h;refine⟨_,(bP (ce (sD (gg cP (bS (cD (K:=K)) (pv 0) bJ (λ_ _=>rfl)) bM (cf _)) (ig (ii (gg cP (cA (da (K:=K)) rfl T.m_len Hg (bE (pv 0) bG)) bJ (cf _)) (ig (gg (ss (K:=K)) (bS (cD (K:=K)) (pv 0) bJ (λ_ _=>rfl)) (dN (bE bM (bE bM bG))) (by with_unfolding_all rfl)))))))),?_⟩;obtain⟨f,b,rfl⟩:∃f b,k=f::b:=by
  cases k with
  |nil=>exact absurd rfl B
  |cons x r=>exact⟨x,r,rfl⟩
 refine⟨_,R,l,_,_,_,R,R,SqL.of i,fg,R,_,R,?_⟩;refine cx (λc=>?_) (λc=>?_)
 ·have e:f = "most" := by simpa using c
  subst e;exact q H (Same.refl H)
 have o:((f::b).head?==some ("most" : Str))=false:=by
  rw[Kh];refine IV.mpr λz=>c ?_;injection z with z;subst z;exact GF rfl
 have u:dq (f::b)=(decide ((f::b).length=3)&&(["needs", "bans"]:List Str).contains ((f::b).getD 1 "")):=by
  unfold dq;rw[o,LK]
 rw[u] at q;refine⟨_,R,l,_,R,.inl (SqL.of i),R,_,R,?_⟩;have t:decide (V.int (((bF (f::b)).length:Nat):Int)=V.int 3)=decide ((f::b).length=3):=by
  rw[bF,Gz,IA,HK,HK]
  constructor
  ·intro z;injection z with z;omega
  ·intro z;rw[z]
   rfl
 rw[t];refine cx (λg=>?_) (λg=>?_)
 ·rw[g,HV] at q;have m:b.length=2:=by
   have:=GJ g;rw[GN] at this;omega
  obtain⟨w1,w2,rfl⟩:∃w1 w2,b=[w1,w2]:=by
   match b,m with
   |[x,y],_=>exact⟨x,y,rfl⟩
  refine⟨_,R,l,_,_,_,R,R,SqL.of i,fO,(by rw[HF];show 2<=_;decide),λp v=>?_⟩;refine⟨p,bF ["needs", "bans"],R,.inr (SqT.of bI),R,R,?_⟩;rw[GY (by simp),lQ];exact q _ (bL v _)
 ·rw[show decide ((f::b).length=3)=false from by simpa using g,HE] at q;exact q H (Same.refl H)
theorem pV(T:Txt K mg a d):cC P w K mg base (eh P w) 1 a.f_option_in d.f_option_in ["names", "word"] (zG a.x_NoText):=by
 refine T.K_option_in.okR CS (λt H Q E h=>?_) (λk A f s H t Q E v h=>?_)
 ·obtain⟨l,b,z,rfl,_⟩:=h
  rfl
 obtain⟨l,b,z,rfl,e,m,r,q⟩:=h;refine⟨_,(bQ (cg (cm mY (pv 1) (pv 0) (by with_unfolding_all rfl)) (bP (fv rfl rfl T.g_NoText T.x_NoText.cl (bE bM bG) (λ_ _ _ _ _ _ _ I p n=>fu I p n))) cu)
   (bP (ce (cM (K:=K) Hn PySem.F.slot_list_index PySem.F.type_list_index Ga (pv 0) (bE (pv 1) bG))))),?_⟩
 refine⟨_,R,_,R,l,bF b,R,.inl (SqL.of e),R,lO b,?_⟩;rw[lQ];by_cases c:b.contains z=true
 ·have j:z∈b:=Il.mp c;rw[c];refine⟨_,R,cX ?_⟩;refine⟨_,R,?_,_,R,l,bF b,.str z,b.idxOf z,R,R,e,R,lO b,?_,λi o=>?_,r _ (by unfold dw;rw[Hl c])⟩
  ·exact .inl ⟨R,_,SqL.of e⟩
  ·unfold bF;rw[GQ,rJ j];exact ID some (Ls z)
  ·unfold bF;have u:=KW j;have g:=GG (l:=b) (i:=i) (by omega);rw[GQ,g];exact ID some (IV.mpr (xj o g))
 ·rw[Ho.mpr c];exact⟨_,R,dB ⟨by show 1<=1000;decide,q (by unfold dw;rw[GY c]) H (Same.refl H)⟩⟩
theorem tL(T:Txt K mg a d):cC P w K mg base (eh P w) 2 a.f_rising_in d.f_rising_in ["names", "words"] (yr a.x_NoText):=by
 have aa:=pV (P:=P) (w:=w) (base:=base) T;refine T.K_rising_in.okR sc_rising_in (λvs H Q E h=>?_) (λaB A N s H vs Q E Y h=>?_)
 ·obtain⟨l,L,e,b,rfl,_⟩:=h
  rfl
 obtain⟨l,L,e,b,rfl,hl,Z,ag,ah,qy,O⟩:=h;have sb:∀c:List Str,(bF c).length=c.length:=λc=>by rw[bF,Gz]
 have nl:∀c:List Nat,(cq c).length=c.length:=λc=>by rw[cq,Gz]
 refine⟨_,(bQ (uW (i:=2) sc_rising_in.nd rfl rfl rfl (N':=["word", "names"]) (n:=1) (kp:=[0]) rfl (eR (K:=K) (pv 1)) rfl rfl rfl (λ_ _ _ _ _=>(cG (i:=0) (GJ rfl) rfl (Or.inl rfl))) (λ_ _ _ _ _=>fA) (λ_ _ _ _ _ hB=>(eP aa Y.lv rfl T.K_option_in.g T.K_option_in.kp T.K_option_in.B .nil (w5 hB) (bE (pv 1) (bE (pv 0) bG)))))
   (bQ (cg (PW.pt (iE (cm cP (cA (da (K:=K)) rfl T.m_len Hg (bE (pv 2) bG)) bJ (cf _)) (iQ (cm (qx Y.units) (pv 2) (cA (CW (w:=w) rfl) rfl T.m_sorted Kb (bE (dW (Eg (w:=w) rfl) rfl T.m_set PyProof.Rows.boot_set (bE (pv 2) bG)) bG)) (cf _))))) (bP (fv rfl rfl T.g_NoText T.x_NoText.cl (bE bM bG) (λ_ _ _ _ _ _ _ I f hW=>fu I f hW))) cu)
   (bP (ce (pv 2))))),?_⟩
 refine⟨_,R,L,R,⟨_,SqL.of Z⟩,?_⟩;refine gZ (K:=K) (a:=L) (xs:=bF b) (λi t u j=>(∃v,u=[v,some (.ref l)])/\j=H/\(∀z∈b.take i,z∈e)/\t=cq ((b.take i).map e.idxOf)) ⟨⟨none,R⟩,R,(λ_ z=>nomatch z),R⟩ (λi t u j hi pv=>?_) (λi t u j hi pv=>?_) (λi x t u j f pv=>?_) (λt u j pv p J=>?_)
 ·obtain⟨_,_,_,rfl⟩:=pv;rw[nl,Gz,G8];exact bT (by omega)
 ·rw[pv.2.1];exact SqL.of Z
 ·obtain⟨⟨v,rfl⟩,rfl,m,rfl⟩:=pv;unfold bF at f;rw[GQ] at f
  cases o:b[i]? with
  |none=>
   rw[o] at f
   cases f
  |some z=>
   rw[o] at f
   cases f
   refine⟨_,R,_,R,l,e,z,R,hl,by omega,λk C=>?_,λM H' s'=>?_⟩
   ·unfold dw at C
    split at C
    ·rename_i c
     cases C
     refine⟨⟨_,R⟩,R,λy hy=>?_,?_⟩
     ·rw[HQ,o] at hy;rcases GL.mp hy with q|q
      ·exact m y q
      ·rw[GE.mp q];exact Il.mp c
     ·rw[HQ,o,GX];unfold cq;rw[GX]
      rfl
    ·cases C
   ·refine O ?_ H' s';unfold dw at M;unfold c9;rw[GY];intro c;rw[Hl (Il.mpr (c.2.1 z (GO o)))] at M
    cases M
 ·obtain⟨_,rfl,m,rfl⟩:=pv;rw[sb,Hy] at m |-;refine⟨_,R,p,_,R,.inl (SqL.of bI),R,_,R,?_⟩;by_cases D:b=[]
  ·rw[show decide (V.int ((cq (b.map e.idxOf)).length:Int)=V.int 0)=true from by rw[D];rfl];exact dB ⟨by show 1<=1000;decide,O (by unfold c9;rw[GY λc=>c.1 D]) _ (bL J _)⟩
  rw[wu (l:=b) D (by rw[nl,Gz])];refine cX ?_;have lt:∀v∈b.map e.idxOf,v<10:=λv hv=>by
   obtain⟨z,hz,rfl⟩:=Hc.mp hv;have:=KW (m z hz);omega
  refine⟨_,R,_,R,p,b.map e.idxOf,R,SqL.of bI,lt,by rw[Gz];omega,λr X=>?_⟩;refine⟨r,b.map e.idxOf,R,bI,λms S r2 l' U=>?_⟩;have n1:p≠r:=cY bI X;have G:(upd (upd j p (.lst (cq (b.map e.idxOf)))) r (sN w r (b.map e.idxOf))) p=some (.lst (cq (b.map e.idxOf))):=by
   rw[bR n1];exact bI
  have n2:p≠l':=cY G U;have sm:=(bL J (.lst (cq (b.map e.idxOf)))).trans ((bL X (sN w r (b.map e.idxOf))).trans (bL U (.lst (ms.map V.int))));refine⟨p,l',(b.map e.idxOf).map (λk:Nat=>(k:Int)),ms,R,R,SqL.of ?_,SqL.of bI,_,R,?_⟩
  ·rw[bR n2,G,EM]
  by_cases F:(b.map e.idxOf).Pairwise (·<·)
  ·have em:=yS S F r2;subst em;rw[GF rfl];refine cX ?_;exact⟨_,R,qy _ (by unfold c9;rw[Hl ⟨D,m,F⟩]) p _ sm J (by rw[bR n2];exact G)⟩
  ·rw[GZ λz=>F (by
    rw[<-z] at S;have:=Lc.mp S;exact this.imp λh=>by exact_mod_cast h)]
   exact dB ⟨by show 1<=1000;decide,O (by unfold c9;rw[GY λc=>F c.2.2]) _ sm⟩
theorem wM(c:Nat):decide (V.str ⟨#[c]⟩=V.str "0")=decide (some c=some 48):=by
 rw[show("0" : Str)=⟨#[48]⟩ from rfl,IA,HK,HK]
 constructor
 ·intro h;injection h with h;injection h with h
  simpa using h
 ·intro h;injection h with h;rw[h]
theorem CQ(T:Txt K mg a d):cC P w K mg base cK 2 a.f_is_number d.f_is_number ["word"] Gs:=by
 have O:=tH (P:=P) (w:=w) (base:=base) T;obtain⟨_,N⟩:=T.c_MOST_FIGURES;obtain⟨_,S⟩:=T.c_FIGURES;refine T.K_is_number.ok sc_is_number (λZ H Q E h=>?_) (λU A M s H Z Q E X h=>?_)
 ·obtain⟨z,rfl,_⟩:=h
  rfl
 obtain⟨z,rfl,Y,u,q⟩:=h;have zl:z.length<=sizeLine:=bT Y.2;refine⟨_,(bQ (cj (i:=1) sc_is_number.nd rfl (Or.inl rfl) (vF (dO (cM (K:=K) Hf PySem.F.slot_str_startswith PySem.F.type_str_startswith EG (pv 0) (bE bM bG))) (dX zC (pv 0) (dJ bJ) eK) (pv 0)))
   (bQ (cg (PW.pt (iE (dY (F6 lA lA bJ (cA tP rfl T.m_len Hg (bE (pv 1) bG)) (fU (v:=.int 60) rfl N ⟨_,R⟩))) (iQ (dY (dO (bY O X.lv rfl T.K_is_made_of (bE (pv 1) (bE (fU (v:=.str "0123456789") rfl S ⟨_,R⟩) bG)))))))) (bP (ce eY)) cu)
   (bP (ce (sD (gg cP (pv 0) bM (cf _)) (ig (gg kh (bS rT (pv 1) bJ (λ_ _=>rfl)) bM (cf _)))))))),?_⟩
 refine⟨_,R,R,z,_,R,R,_,R,?_⟩;refine cx (λc=>?_) (λc=>?_)
 ·have y:ff z=StrLaws.sliceText z (some 1) none:=Hl c;refine⟨_,R,_,R,z,R,zl,?_⟩;rw[y] at u;have C:(StrLaws.sliceText z (some 1) none).length<=sizeLine:=bT u.2;have L:gM z=(decide (1<=(StrLaws.sliceText z (some 1) none).length/\(StrLaws.sliceText z (some 1) none).length<=60)&&fR (StrLaws.sliceText z (some 1) none) gW&&(decide (z = "0")||!decide ((StrLaws.sliceText z (some 1) none).cps.toList.head?=some 48))):=by
   unfold gM;rw[y]
  rw[L] at q;have G:¬(1<=(StrLaws.sliceText z (some 1) none).length/\(StrLaws.sliceText z (some 1) none).length<=60)->Q (.bl false) H:=λn=>by
   rw[GZ n,HE,HE] at q;exact q H (Same.refl H)
  refine⟨_,R,StrLaws.sliceText z (some 1) none,R,C,_,_,R,R,_,R,?_⟩;refine cx (λl=>?_) (λl=>?_)
  ·have I:(1:Int)<=(StrLaws.sliceText z (some 1) none).length:=GJ l;refine⟨_,_,R,R,_,R,?_⟩;refine cx (λm=>?_) (λm=>?_)
   ·have J:¬((StrLaws.sliceText z (some 1) none).length:Int)<=60:=by
     have:=(Jh _).mp m;exact Kq this
    exact dB (G (by omega))
   have J:((StrLaws.sliceText z (some 1) none).length:Int)<=60:=by
    exact GJ ((Kk _).mp (Ho.mpr m))
   rw[GF (show 1<=(StrLaws.sliceText z (some 1) none).length/\(StrLaws.sliceText z (some 1) none).length<=60 by omega),HV] at q;refine⟨_,R,StrLaws.sliceText z (some 1) none,_,R,u,λf t=>⟨_,R,?_⟩⟩;refine cx (λo=>?_) (λo=>?_)
   ·have g:fR (StrLaws.sliceText z (some 1) none) gW=false:=(Jh _).mp o;rw[g,HE] at q;exact q f t
   have g:fR (StrLaws.sliceText z (some 1) none) gW=true:=(Kk _).mp (Ho.mpr o);rw[g,HV] at q;refine⟨_,R,R,_,R,?_⟩;refine cx (λp=>?_) (λp=>?_)
   ·have k:z = "0":=by
     have:=GJ p;injection this
    rw[GF k,Bool.true_or] at q;exact q f t
   have k:¬z = "0" := λe=>p (GF (by rw[e]));rw[GZ k,LK] at q;obtain⟨b,B,D⟩:∃b B,(StrLaws.sliceText z (some 1) none).cps.toList=b::B:=by
    cases e:(StrLaws.sliceText z (some 1) none).cps.toList with
    |nil=>
     have:(StrLaws.sliceText z (some 1) none).length=0:=by
      show(StrLaws.sliceText z (some 1) none).cps.size=0;rw[<-HH,e]
      rfl
     omega
    |cons x r=>exact⟨x,r,rfl⟩
   refine⟨_,R,StrLaws.sliceText z (some 1) none,0,b,R,R,C,by rw[D];exact cS (j:=0) rfl,R,?_⟩;rw[D,Kh] at q;rw[show decide (V.str ⟨#[b]⟩=V.str "0")=decide (some b=some 48) from wM b];exact q f t
  ·have I:¬(1:Int)<=(StrLaws.sliceText z (some 1) none).length:=λh=>l (GF h);exact⟨_,R,dB (dB (G (by omega)))⟩
 ·have y:ff z=z:=GY c;refine⟨_,R,?_⟩;rw[y] at u;have C:(z).length<=sizeLine:=bT u.2;have L:gM z=(decide (1<=(z).length/\(z).length<=60)&&fR (z) gW&&(decide (z = "0")||!decide ((z).cps.toList.head?=some 48))):=by
   unfold gM;rw[y]
  rw[L] at q;have G:¬(1<=(z).length/\(z).length<=60)->Q (.bl false) H:=λn=>by
   rw[GZ n,HE,HE] at q;exact q H (Same.refl H)
  refine⟨_,R,z,R,C,_,_,R,R,_,R,?_⟩;refine cx (λl=>?_) (λl=>?_)
  ·have I:(1:Int)<=(z).length:=GJ l;refine⟨_,_,R,R,_,R,?_⟩;refine cx (λm=>?_) (λm=>?_)
   ·have J:¬((z).length:Int)<=60:=by
     have:=(Jh _).mp m;exact Kq this
    exact dB (G (by omega))
   have J:((z).length:Int)<=60:=by
    exact GJ ((Kk _).mp (Ho.mpr m))
   rw[GF (show 1<=(z).length/\(z).length<=60 by omega),HV] at q;refine⟨_,R,z,_,R,u,λf t=>⟨_,R,?_⟩⟩;refine cx (λo=>?_) (λo=>?_)
   ·have g:fR (z) gW=false:=(Jh _).mp o;rw[g,HE] at q;exact q f t
   have g:fR (z) gW=true:=(Kk _).mp (Ho.mpr o);rw[g,HV] at q;refine⟨_,R,R,_,R,?_⟩;refine cx (λp=>?_) (λp=>?_)
   ·have k:z = "0":=by
     have:=GJ p;injection this
    rw[GF k,Bool.true_or] at q;exact q f t
   have k:¬z = "0" := λe=>p (GF (by rw[e]));rw[GZ k,LK] at q;obtain⟨b,B,D⟩:∃b B,(z).cps.toList=b::B:=by
    cases e:(z).cps.toList with
    |nil=>
     have:(z).length=0:=by
      show(z).cps.size=0;rw[<-HH,e]
      rfl
     omega
    |cons x r=>exact⟨x,r,rfl⟩
   refine⟨_,R,z,0,b,R,R,C,by rw[D];exact cS (j:=0) rfl,R,?_⟩;rw[D,Kh] at q;rw[show decide (V.str ⟨#[b]⟩=V.str "0")=decide (some b=some 48) from wM b];exact q f t
  ·have I:¬(1:Int)<=(z).length:=λh=>l (GF h);exact⟨_,R,dB (dB (G (by omega)))⟩
theorem tM(T:Txt K mg a d):cC P w K mg base (eh P w) 3 a.f_number_in d.f_number_in ["word"] (ES a.x_NoText):=by
 have j:=CQ (P:=P) (w:=w) (base:=base) T;refine T.K_number_in.okR CO (λr H Q E h=>?_) (λk A c s H r Q E m h=>?_)
 ·obtain⟨z,rfl,_⟩:=h
  rfl
 obtain⟨z,rfl,b,q,p⟩:=h;refine⟨_,(bQ (cg (dY (dO (bY j m.lv rfl T.K_is_number (bE (pv 0) bG)))) (bP (fv rfl rfl T.g_NoText T.x_NoText.cl (bE bM bG) (λ_ _ _ _ _ _ _ I o l=>fu I o l))) cu)
   (bP (ce (dW Er rfl T.m_int JF (bE (pv 0) bG))))),?_⟩
 refine⟨_,R,z,R,b,uj b,λf i=>⟨_,R,?_⟩⟩;by_cases e:gM z=true
 ·obtain⟨n,g,u,t⟩:=wU b e;rw[e];refine cX ?_;exact⟨_,R,z,n,R,g,by omega,q n (by unfold cN;rw[Hl e];exact g) f i⟩
 ·rw[Ho.mpr e];exact dB ⟨by show 1<=1000;decide,p (by unfold cN;rw[GY e]) f i⟩
theorem Dd(T:Txt K mg a d):cC P w K mg base (eh P w) 4 a.f_most_in d.f_most_in ["names", "words"] (y4 a.x_NoText):=by
 have aa:=tM (P:=P) (w:=w) (base:=base) T;have ae:=tL (P:=P) (w:=w) (base:=base) T;refine T.K_most_in.okR sc_most_in (λvs H Q E h=>?_) (λni A aB s H vs Q E hr h=>?_)
 ·obtain⟨l,D,ns,b,rfl,_⟩:=h
  rfl
 obtain⟨l,D,ns,b,rfl,hl,C,av,ne,ax,pw,qy,F⟩:=h;have sb:∀c:List Str,(bF c).length=c.length:=λc=>by rw[bF,Gz]
 refine⟨_,(bQ (cg (PW.pt (iE (cm sg (cA (da (K:=K)) rfl T.m_len Hg (bE (pv 1) bG)) bJ (cf _)) (iE (cm cP (bO jM (cA (da (K:=K)) rfl T.m_len Hg (bE (pv 1) bG)) bJ) bJ (cf _)) (iQ (cm kh (bS (cD (K:=K)) (pv 1) bJ (λ_ _=>rfl)) bM (cf _)))))) (bP (fv rfl rfl T.g_NoText T.x_NoText.cl (bE bM bG) (λ_ _ _ _ _ _ _ I k hW=>fu I k hW))) cu)
   (bQ (uW (i:=2) sc_most_in.nd rfl rfl rfl (N':=["word"]) (n:=1) (kp:=[]) rfl (eR (K:=K) (wc (pv 1) bJ bJ)) rfl rfl rfl (λ_ _ _ _ _=>(cG (i:=0) (GJ rfl) rfl (Or.inl rfl))) (λ_ _ _ _ _=>fA) (λ_ _ _ _ _ hB=>(eP aa hr.lv rfl T.K_number_in.g T.K_number_in.kp T.K_number_in.B .nil (w5 hB) (bE (pv 0) bG))))
   (bQ (cj (i:=3) sc_most_in.nd rfl (Or.inl rfl) (eP ae hr.lv rfl T.K_rising_in.g T.K_rising_in.kp T.K_rising_in.B .nil fj (bE (pv 0) (bE (wc (pv 1) bJ bJ) bG))))
   (bP (ce (dN (bE bM (bE (eP aa hr.lv rfl T.K_number_in.g T.K_number_in.kp T.K_number_in.B .nil fj (bE (bS (cD (K:=K)) (pv 1) bJ (λ_ _=>rfl)) bG)) (bE (EE (K:=K) rfl rfl T.m_tuple rfl T.m_zip (bE (pv 3) (bE (pv 2) bG))) bG))))))))),?_⟩
 refine⟨_,R,D,_,R,.inl (SqL.of C),_,_,R,R,_,R,?_⟩;rw[sb];by_cases c1:b.length<5
 ·rw[GF (show((b.length:Nat):Int)<5 by omega)];exact dB (dB ⟨by show 1<=1000;decide,F (by unfold eW;rw[Hl (.inl c1)]) H (Same.refl H)⟩)
 rw[GZ (show ¬((b.length:Nat):Int)<5 by omega)];refine cX ?_;refine⟨_,R,D,_,R,.inl (SqL.of C),_,_,R,R,(by decide:(0:Int)<2),R,_,R,?_⟩;rw[sb];by_cases c2:b.length%2=0
 ·rw[show decide (V.int (((b.length:Nat):Int)%2)=V.int 0)=true from GF (ID V.int (by omega))];exact dB (dB ⟨by show 1<=1000;decide,F (by unfold eW;rw[Hl (.inr (.inl c2))]) H (Same.refl H)⟩)
 rw[show decide (V.int (((b.length:Nat):Int)%2)=V.int 0)=false from GZ λz=>by
  injection z with z;omega]
 refine cX ?_;obtain⟨J,w1,O,L,rfl⟩:∃J w1 w2 L,b=J::w1::w2::L:=by
  match b,c1 with
  |a0::N::a2::r,_=>exact⟨a0,N,a2,r,rfl⟩
  |[],h=>exact absurd (by decide) h
  |[_],h=>exact absurd (by show 1<5;decide) h
  |[_,_],h=>exact absurd (by show 2<5;decide) h
 refine⟨_,R,D,_,_,_,R,R,SqL.of C,gQ,R,_,R,?_⟩;rw[jE];by_cases c3:O = "of"
 ·have S:eW ns (J::w1::O::L)=(eI (cJ ((J::w1::O::L).drop 3))).bind λah=>(c9 ns (cJ ((J::w1::O::L).drop 4))).bind λm=>(cN w1).map λtop=>.most top (m.zip ah):=by
   unfold eW;rw[GY (by
    rintro(q|q|q)
    ·exact c1 q
    ·exact c2 q
    ·exact q c3)]
   rfl
  rw[GF c3];refine cX ?_;obtain⟨b,ak⟩:∃b,b=J::w1::O::L:=⟨_,rfl⟩
  have aq:(bF b)[1]?=some (.str w1):=by rw[ak];rfl
  have ar:dm w1:=pw w1 (by simp);rw[<-ak] at C pw ax c1 c2 S qy F;refine⟨_,R,D,_,3,R,R,R,C,λX ao=>?_⟩;rw[uu];have s1:=bL ao (.lst (bF (cJ (b.drop 3))));have N:(upd H X (.lst (bF (cJ (b.drop 3))))) X=some (.lst (bF (cJ (b.drop 3)))):=bI;generalize upd H X (.lst (bF (cJ (b.drop 3))))=H1 at s1 N |-;have l3:=nI (b.drop 3);have l4:=nI (b.drop 4);rw[Hd] at l3 l4;refine⟨X,R,⟨_,SqL.of N⟩,?_⟩;refine gZ (K:=K) (a:=X) (xs:=bF (cJ (b.drop 3))) (λi Z σ u=>(∃v,σ=[v])/\Same H1 u/\∃f,eI ((cJ (b.drop 3)).take i)=some f/\Z=f.map V.int) ⟨⟨none,R⟩,Same.refl _,[],R,R⟩ (λi Z σ u hi pv=>?_) (λi Z σ u hi pv=>?_) (λi x Z σ u k pv=>?_) (λZ σ u pv p hp=>?_)
  ·obtain⟨_,_,f,e,rfl⟩:=pv;rw[Gz,qQ e,G8];exact bT (by omega)
  ·exact SqL.of (pv.2.1 _ _ N)
  ·obtain⟨⟨v,rfl⟩,sm,f,y,rfl⟩:=pv;unfold bF at k;rw[GQ] at k
   cases ek:(cJ (b.drop 3))[i]? with
   |none=>
    rw[ek] at k
    cases k
   |some z=>
    rw[ek] at k
    cases k
    have mz:=GO ek;refine⟨_,R,z,R,pw z (HL (uz mz)),λn hn M o=>⟨⟨_,R⟩,sm.trans o,f++[n],Dy i z n y ek hn,by rw[GX];rfl⟩,λU M o=>F ?_ M (s1.trans (sm.trans o))⟩;rw[S,uD mz U]
    rfl
  ·obtain⟨_,sm,f,y,rfl⟩:=pv;rw[sb,Hy] at y;have lm:=qQ y;have s2:=s1.trans (sm.trans (bL hp (.lst (f.map V.int))));have a2:(upd u p (.lst (f.map V.int))) p=some (.lst (f.map V.int)):=bI;generalize upd u p (.lst (f.map V.int))=M at s2 a2 |-;refine⟨_,R,_,R,D,_,4,R,R,R,s2 _ _ C,λp3 au=>?_⟩;rw[uu];have aj:=bL au (.lst (bF (cJ (b.drop 4))));have o:=s2.trans aj;have a3:(upd M p3 (.lst (bF (cJ (b.drop 4))))) p3=some (.lst (bF (cJ (b.drop 4)))):=bI;have ai:=aj _ _ a2;generalize upd M p3 (.lst (bF (cJ (b.drop 4))))=H4 at o a3 ai |-;refine⟨l,p3,ns,cJ (b.drop 4),R,o _ _ hl,a3,av,by omega,λm G pk H5 s5 nk hk=>?_,λU H5 s5=>F (by rw[S,y,U];rfl) H5 (o.trans s5)⟩;have lk:m.length=(cJ (b.drop 4)).length:=by
    unfold c9 at G
    split at G
    ·cases G
     rw[Gz]
    ·cases G
   have s6:=o.trans s5;refine⟨_,R,D,_,_,_,R,R,SqL.of (s6 _ _ C),cS (j:=1) aq,w1,R,ar,λtop ht H6 Y=>?_,λU H6 Y=>F (by rw[S,y,G,U];rfl) H6 (s6.trans Y)⟩;have am:=Y _ _ hk;have ay:=(s5.trans Y) _ _ ai;refine⟨_,R,_,R,pk,p,_,_,R,SqL.of am,SqL.of ay,by rw[cq,Gz,Gz];omega,λt zs H7 s8 nt aw pv=>?_⟩;refine⟨bT (by show 3<=1000;decide),λz hz=>?_⟩;have sz:=bL hz (.tup [.str ("most" : Str),.int top,.ref t]);have az:rR H7 (cq ((m.zip f).map (·.1))) ((m.zip f).map λp=>V.int p.2) zs:=by
    rw[List.map_fst_zip (by omega),show((m.zip f).map λp=>V.int p.2)=((m.zip f).map Prod.snd).map V.int from by rw[HN];rfl,List.map_snd_zip (by omega)];exact pv
   exact qy (.most top (m.zip f)) (by rw[S,y,G,ht];rfl) _ _ (s6.trans (Y.trans (s8.trans sz))) ⟨z,_,R,bI,_,_,R,R,_,_,R,R,_,_,R,⟨t,zs,R,sz _ _ aw,DnL.same sz _ _ (wg az)⟩,R⟩
 ·rw[GZ c3];exact dB ⟨by show 1<=1000;decide,F (by unfold eW;rw[Hl (.inr (.inr c3))]) H (Same.refl H)⟩
theorem pL(T:Txt K mg a d):cC P w K mg base (eh P w) 5 a.f_cross_tie_in d.f_cross_tie_in ["names", "words"] (xA a.x_NoText):=by
 have L:=pV (P:=P) (w:=w) (base:=base) T;have S:=Dd (P:=P) (w:=w) (base:=base) T;refine T.K_cross_tie_in.okR Cf (λvs H Q E h=>?_) (λZ A F s H vs Q E C h=>?_)
 ·obtain⟨l,k,e,J,rfl,_⟩:=h
  rfl
 obtain⟨l,k,e,J,rfl,v,o,U,O,Y,pw,u,G,p⟩:=h;obtain⟨c,f,rfl⟩:∃c f,J=c::f:=by
  cases J with
  |nil=>exact absurd rfl O
  |cons x r=>exact⟨x,r,rfl⟩
 refine⟨_,(bQ (cg (cm cP (bS (cD (K:=K)) (pv 1) bJ (λ_ _=>rfl)) bM (cf _)) (bP (ce (eP S C.lv rfl T.K_most_in.g T.K_most_in.kp T.K_most_in.B .nil fj (bE (pv 0) (bE (pv 1) bG))))) cu)
   (bP (ce (dN (bE (bS (cD (K:=K)) (pv 1) bJ (λ_ _=>rfl)) (bE (eP L C.lv rfl T.K_option_in.g T.K_option_in.kp T.K_option_in.B .nil fj (bE (pv 0) (bE (bS (cD (K:=K)) (pv 1) bJ (λ_ _=>rfl)) bG))) (bE (eP L C.lv rfl T.K_option_in.g T.K_option_in.kp T.K_option_in.B .nil fj (bE (pv 0) (bE (bS (cD (K:=K)) (pv 1) bJ (λ_ _=>rfl)) bG))) bG))))))),?_⟩
 refine⟨_,R,k,_,_,_,R,R,SqL.of o,fg,R,_,R,?_⟩;rw[jE];by_cases m:c = "most"
 ·have n:eF e (c::f)=eW e (c::f):=by
   unfold eF;rw[Hl (show(c::f).getD 0 "" = "most" from m)]
  rw[GF m];refine dB ?_;rw[n] at G p;exact⟨_,R,_,R,l,k,e,_,R,v,o,U,O,Y,pw,G,p⟩
 ·rw[GZ m];refine cX ?_;have M:f.length=2/\(["needs", "bans"]:List Str).contains (f.getD 0 "")=true:=by
   unfold dq at u;rw[JG] at u;rcases u with q|q
   ·have q':some c=some ("most" : Str):=by simpa using q
    exact absurd (HI q') m
   ·rw[Ha] at q;have:=GJ q.1;rw[GN] at this;exact⟨by omega,q.2⟩
  obtain⟨i,j,rfl⟩:∃i j,f=[i,j]:=by
   match f,M.1 with
   |[a1,a2],_=>exact⟨a1,a2,rfl⟩
  have X:i = "needs" \/ i = "bans":=by
   have:=Il.mp M.2
   simpa using this
  have n:eF e [c,i,j]=(dw e c).bind λa=>(dw e j).map λb=>if i = "needs" then .needs a b else .bans a b:=by
   unfold eF;rw[GY (show ¬([c,i,j]:List Str).getD 0 "" = "most" from m)]
   rfl
  have w3:∀x y z:V,([x,y,z]:List V).length<=sizeLine:=λx y z=>by rw[HF];show 3<=_;decide
  refine⟨_,R,k,_,_,_,R,R,SqL.of o,fO,_,R,_,R,k,_,_,_,R,R,SqL.of o,fg,l,e,c,R,v,by omega,λa N=>?_,λD t I=>p (by rw[n,D];rfl) t I⟩;refine⟨_,R,_,R,k,_,_,_,R,R,SqL.of o,gQ,l,e,j,R,v,by omega,λb hb=>?_,λD t I=>p (by rw[n,N,D];rfl) t I⟩;refine⟨w3 _ _ _,λz hz=>?_⟩;have et:eF e [c,i,j]=some (if i = "needs" then .needs a b else .bans a b):=by
   rw[n,N,hb]
   rfl
  refine G _ et _ _ (bL hz _) ?_;rcases X with q|q
  ·rw[Hl q];exact⟨z,_,R,bI,_,_,R,ID V.str q,_,_,R,R,_,_,R,R,R⟩
  ·rw[GY (by rw[q];decide +kernel)];exact⟨z,_,R,bI,_,_,R,ID V.str q,_,_,R,R,_,_,R,R,R⟩
theorem Ch(T:Txt K mg a d):cC P w K mg base cK 5 a.f_cross_tie_in d.f_cross_tie_in ["names", "words"] xb:=oU (pL T) λ_ _ _ _=>Ae
theorem Cr(T:Txt K mg a d):cC P w K mg base (eh P w) 4 a.f_bounds_in d.f_bounds_in ["words", "many_kids"] (Es a.x_NoText):=by
 have aa:=tM (P:=P) (w:=w) (base:=base) T;refine T.K_bounds_in.okR CG (λvs H Q E h=>?_) (λni A aB s H vs Q E v h=>?_)
 ·obtain⟨l,e,m,rfl,_⟩:=h
  rfl
 obtain⟨l,e,m,rfl,Y,pw,ne,av,l4,au,G,F⟩:=h;have pl:∀s:Str,s∈(["must", "may", "one", "from", "to"]:List Str)->PyData.strOk s=true:=by decide +kernel
 have pb:fS e:=λz hz=>kC (pw z hz);have pm:fS ["must"]:=λx j=>pl x (by rw[GE.mp j];decide);have py:fS ["may"]:=λx j=>pl x (by rw[GE.mp j];decide);have po:fS ["one"]:=λx j=>pl x (by rw[GE.mp j];decide);refine⟨_,(bQ (cg (cm (nF v.units) (pv 0) (cB (bE bM bG)) (cf _)) (bP (ce (dN (bE (pv 1) (bE (pv 1) bG))))) cu)
   (bQ (cg (cm (nF v.units) (pv 0) (cB (bE bM bG)) (cf _)) (bP (ce (dN (bE bJ (bE (pv 1) bG))))) cu)
   (bQ (cg (cm (nF v.units) (pv 0) (cB (bE bM bG)) (cf _)) (bP (ce (dN (bE bJ (bE bJ bG))))) cu)
   (bQ (cg (PW.pt (iD (cm cP (bS (cD (K:=K)) (pv 0) bJ (λ_ _=>rfl)) bM (cf _)) (iC (cm cP (bS (cD (K:=K)) (pv 0) bJ (λ_ _=>rfl)) bM (cf _))))) (bP (ce (dN (bE (eP aa v.lv rfl T.K_number_in.g T.K_number_in.kp T.K_number_in.B .nil fj (bE (bS (cD (K:=K)) (pv 0) bJ (λ_ _=>rfl)) bG)) (bE (eP aa v.lv rfl T.K_number_in.g T.K_number_in.kp T.K_number_in.B .nil fj (bE (bS (cD (K:=K)) (pv 0) bJ (λ_ _=>rfl)) bG)) bG))))) cu)
   (bP (fv rfl rfl T.g_NoText T.x_NoText.cl (bE bM bG) (λ_ _ _ _ _ _ _ I j hW=>fu I j hW))))))),?_⟩
 refine⟨_,R,w1 _,λp hp=>⟨l,p,e,["must"],R,R,by rw[bR (cY Y hp)];exact Y,bI,pb,pm,_,R,?_⟩⟩;have y:=bL hp (.lst [V.str "must"]);have D:=y _ _ Y;generalize upd H p (.lst [V.str "must"])=H1 at y D |-;refine cx (λc=>?_) (λc=>?_)
 ·refine⟨_,R,_,R,w2 _ _,λt f=>?_⟩;exact G ((m:Int),(m:Int)) (by unfold du;rw[Hl (GJ c)]) t _ (y.trans (bL f _)) (y.free f) bI
 have Z:e≠(["must"]:List Str):=λz=>c (GF z);refine⟨_,R,w1 _,λp2 ah=>⟨l,p2,e,["may"],R,R,by rw[bR (cY D ah)];exact D,bI,pb,py,_,R,?_⟩⟩;have ak:=bL ah (.lst [V.str "may"]);have J:=y.trans ak;have C:=ak _ _ D;generalize upd H1 p2 (.lst [V.str "may"])=H2 at J C |-;refine cx (λc=>?_) (λc=>?_)
 ·refine⟨_,R,w2 _ _,λt f=>?_⟩;exact G (0,(m:Int)) (by unfold du;rw[GY Z,Hl (GJ c)]) t _ (J.trans (bL f _)) (J.free f) bI
 have n2:e≠(["may"]:List Str):=λz=>c (GF z);refine⟨_,R,w1 _,λp3 am=>⟨l,p3,e,["one"],R,R,by rw[bR (cY C am)];exact C,bI,pb,po,_,R,?_⟩⟩;have aj:=bL am (.lst [V.str "one"]);have i:=J.trans aj;have q:=aj _ _ C;generalize upd H2 p3 (.lst [V.str "one"])=H3 at i q |-;refine cx (λc=>?_) (λc=>?_)
 ·refine⟨w2 _ _,λt f=>?_⟩;exact G (1,1) (by unfold du;rw[GY Z,GY n2,Hl (GJ c)]) t _ (i.trans (bL f _)) (i.free f) bI
 have n3:e≠(["one"]:List Str):=λz=>c (GF z);have U:du e m=if e.getD 0 "" = "from" /\ e.getD 2 "" = "to" then (cN (e.getD 1 "")).bind λa=>(cN (e.getD 3 "")).map λb=>(a,b) else none:=by
  unfold du;rw[GY Z,GY n2,GY n3]
 obtain⟨N,O,rfl⟩:∃N O,e=N::O:=by
  cases e with
  |nil=>exact absurd rfl ne
  |cons x r=>exact⟨x,r,rfl⟩
 refine⟨_,R,l,_,_,_,R,R,SqL.of q,fg,R,_,R,?_⟩;rw[jE];by_cases u:N = "from"
 ·obtain⟨n,S,o,rfl⟩:∃n S o,O=[n,S,o]:=by
   have:=l4 u
   match O,this with
   |[a1,a2,a3],_=>exact⟨a1,a2,a3,rfl⟩
  rw[GF u];refine dB ?_;refine⟨_,R,l,_,_,_,R,R,SqL.of q,gQ,R,_,R,?_⟩;rw[jE];by_cases M:S = "to"
  ·rw[GF M];refine dB ?_;have X:du (N::[n,S,o]) m=(cN n).bind λa=>(cN o).map λb=>(a,b):=by
    rw[U,Hl ⟨u,M⟩]
    rfl
   refine⟨_,R,l,_,_,_,R,R,SqL.of q,fO,n,R,pw n (by simp),λao ai H4 k=>?_,λno H4 k=>F (by rw[X,no];rfl) H4 (i.trans k)⟩;refine⟨_,R,l,_,_,_,R,R,SqL.of (k _ _ q),mI,o,R,pw o (by simp),λaq ar H5 L=>?_,λno H5 L=>F (by rw[X,ai,no];rfl) H5 (i.trans (k.trans L))⟩;refine⟨w2 _ _,λt f=>?_⟩;exact G (ao,aq) (by rw[X,ai,ar];rfl) t _ ((i.trans (k.trans L)).trans (bL f _)) ((i.trans (k.trans L)).free f) bI
  ·rw[GZ M];exact cX ⟨by show 1<=1000;decide,F (by rw[U,GY λc=>M c.2]) H3 i⟩
 ·rw[GZ u];exact cX (cX ⟨by show 1<=1000;decide,F (by rw[U,GY λc=>u c.1]) H3 i⟩)
theorem Cb(T:Txt K mg a d):cC P w K mg base cK 1 a.f_words_of_bounds d.f_words_of_bounds ["low", "high", "many_kids"] FF:=by
 refine T.K_words_of_bounds.ok tz (λC H Q E h=>?_) (λo A j s H C Q E F h=>?_)
 ·obtain⟨lo,b,m,rfl,_⟩:=h
  rfl
 obtain⟨lo,b,m,rfl,t,v,q⟩:=h;have w1:∀x:Str,([V.str x]:List V).length<=sizeLine:=λx=>by rw[HF];show 1<=_;decide
 have D:∀x y z u:V,([x,y,z,u]:List V).length<=sizeLine:=λx y z u=>by rw[HF];show 4<=_;decide
 refine⟨_,(bQ (cg (PW.pt (iD (cm cP (pv 0) (pv 2) (cf _)) (iC (cm cP (pv 1) (pv 2) (cf _))))) (bP (ce (cB (bE bM bG)))) cu)
   (bQ (cg (PW.pt (iD (cm cP (pv 0) bJ (cf _)) (iC (cm cP (pv 1) (pv 2) (cf _))))) (bP (ce (cB (bE bM bG)))) cu)
   (bQ (cg (PW.pt (iD (cm cP (pv 0) bJ (cf _)) (iC (cm cP (pv 1) bJ (cf _))))) (bP (ce (cB (bE bM bG)))) cu)
   (bP (ce (cB (bE bM (bE (dW jz rfl T.m_str HY (bE (pv 0) bG)) (bE bM (bE (dW jz rfl T.m_str HY (bE (pv 1) bG)) bG)))))))))),?_⟩
 have f:∀l:List Str,cU lo b m=l->∀p,H p=none->Q (.ref p) (upd H p (.lst (l.map V.str))):=λl e p r=>by
  rw[<-e];exact q p r
 refine⟨_,R,_,R,R,_,R,?_⟩;refine k7 (b2:=decide (V.int (b:Int)=V.int (m:Int))) (λk=>⟨_,R,_,R,R,_,R,k⟩) ?_;refine cx (λc=>?_) (λc=>?_)
 ·rw[kT] at c;exact⟨w1 _,f ["must"] (by unfold cU;rw[Hl (GJ c)])⟩
 rw[kT] at c;have i:¬(lo=m/\b=m):=λz=>c (GF z);refine⟨_,R,R,_,R,?_⟩;refine k7 (b2:=decide (V.int (b:Int)=V.int (m:Int))) (λk=>⟨_,R,_,R,R,_,R,k⟩) ?_;refine cx (λc=>?_) (λc=>?_)
 ·have g:=(kT lo 0 b m).symm.trans c;exact⟨w1 _,f ["may"] (by unfold cU;rw[GY i,Hl (GJ g)])⟩
 have n:¬(lo=0/\b=m):=λz=>c ((kT lo 0 b m).trans (GF z));refine⟨_,R,R,_,R,?_⟩;refine k7 (b2:=decide (V.int (b:Int)=V.int 1)) (λk=>⟨_,R,R,_,R,k⟩) ?_;refine cx (λc=>?_) (λc=>?_)
 ·have g:=(kT lo 1 b 1).symm.trans c;exact⟨w1 _,f ["one"] (by unfold cU;rw[GY i,GY n,Hl (GJ g)])⟩
 have B:¬(lo=1/\b=1):=λz=>c ((kT lo 1 b 1).trans (GF z));exact⟨_,R,lo,R,nJ t,_,R,b,R,nJ v,D _ _ _ _,f ["from",bX lo, "to",bX b] (by unfold cU;rw[GY i,GY n,GY B])⟩
theorem kX(a b x y:Int):(decide (V.int a=V.int b)&&decide (V.int x=V.int y))=decide (a=b/\x=y):=by
 rw[IA,Ha,HK,HK,HK];exact⟨λh=>⟨by injection h.1,by injection h.2⟩,λh=>⟨by rw[h.1],by rw[h.2]⟩⟩
theorem B9(T:Txt K mg a d):cC P w K mg base cK 1 a.f_words_of_bounds d.f_words_of_bounds ["low", "high", "many_kids"] D5:=by
 refine T.K_words_of_bounds.ok tz (λC H Q E h=>?_) (λo A j s H C Q E F h=>?_)
 ·obtain⟨lo,b,m,rfl,_⟩:=h
  rfl
 obtain⟨lo,b,m,rfl,t,v,q⟩:=h;have w1:∀x:Str,([V.str x]:List V).length<=sizeLine:=λx=>by rw[HF];show 1<=_;decide
 have D:∀x y z u:V,([x,y,z,u]:List V).length<=sizeLine:=λx y z u=>by rw[HF];show 4<=_;decide
 refine⟨_,(bQ (cg (PW.pt (iD (cm cP (pv 0) (pv 2) (cf _)) (iC (cm cP (pv 1) (pv 2) (cf _))))) (bP (ce (cB (bE bM bG)))) cu)
   (bQ (cg (PW.pt (iD (cm cP (pv 0) bJ (cf _)) (iC (cm cP (pv 1) (pv 2) (cf _))))) (bP (ce (cB (bE bM bG)))) cu)
   (bQ (cg (PW.pt (iD (cm cP (pv 0) bJ (cf _)) (iC (cm cP (pv 1) bJ (cf _))))) (bP (ce (cB (bE bM bG)))) cu)
   (bP (ce (cB (bE bM (bE (dW jz rfl T.m_str HY (bE (pv 0) bG)) (bE bM (bE (dW jz rfl T.m_str HY (bE (pv 1) bG)) bG)))))))))),?_⟩
 have f:∀l:List Str,ef lo b m=l->∀p,H p=none->Q (.ref p) (upd H p (.lst (l.map V.str))):=λl e p r=>by
  rw[<-e];exact q p r
 refine⟨_,R,_,R,R,_,R,?_⟩;refine k7 (b2:=decide (V.int b=V.int (m:Int))) (λk=>⟨_,R,_,R,R,_,R,k⟩) ?_;refine cx (λc=>?_) (λc=>?_)
 ·rw[kX] at c;exact⟨w1 _,f ["must"] (by unfold ef;rw[Hl (GJ c)])⟩
 rw[kX] at c;have i:¬(lo=m/\b=m):=λz=>c (GF z);refine⟨_,R,R,_,R,?_⟩;refine k7 (b2:=decide (V.int b=V.int (m:Int))) (λk=>⟨_,R,_,R,R,_,R,k⟩) ?_;refine cx (λc=>?_) (λc=>?_)
 ·have g:=(kX lo 0 b m).symm.trans c;exact⟨w1 _,f ["may"] (by unfold ef;rw[GY i,Hl (GJ g)])⟩
 have n:¬(lo=0/\b=m):=λz=>c ((kX lo 0 b m).trans (GF z));refine⟨_,R,R,_,R,?_⟩;refine k7 (b2:=decide (V.int b=V.int 1)) (λk=>⟨_,R,R,_,R,k⟩) ?_;refine cx (λc=>?_) (λc=>?_)
 ·have g:=(kX lo 1 b 1).symm.trans c;exact⟨w1 _,f ["one"] (by unfold ef;rw[GY i,GY n,Hl (GJ g)])⟩
 have B:¬(lo=1/\b=1):=λz=>c ((kX lo 1 b 1).trans (GF z));exact⟨_,R,lo,R,og t,_,R,b,R,og v,D _ _ _ _,f ["from",bX lo, "to",bX b] (by unfold ef;rw[GY i,GY n,GY B])⟩
theorem qa(T:Txt K mg a d):cC P w K mg base (eh P w) 5 a.f_bough_in d.f_bough_in ["names", "words"] (we a.x_NoText):=by
 have af:=pV (P:=P) (w:=w) (base:=base) T;have ae:=tL (P:=P) (w:=w) (base:=base) T;have ag:=Cr (P:=P) (w:=w) (base:=base) T;have aa:=B9 (P:=P) (w:=w) (base:=base) T;refine T.K_bough_in.okR sc_bough_in (λvs H Q E h=>?_) (λni A aB s H vs Q E t h=>?_)
 ·obtain⟨l,C,D,e,rfl,_⟩:=h
  rfl
 obtain⟨l,C,D,e,rfl,hl,J,aU,ne,aW,pw,qy,qn⟩:=h;obtain⟨O,wr,aF⟩:∃O wr,e=O::wr:=by
  cases e with
  |nil=>exact absurd rfl ne
  |cons x r=>exact⟨x,r,rfl⟩
 have aV:(bF e)[0]?=some (.str O):=by rw[aF];rfl
 have p:dQ D e=(dw D O).bind λu=>(c9 D (e.drop (cV e))).bind λf=>(du ((e.drop 1).take (cV e-1)) f.length).bind λb=>if ef b.1 b.2 f.length=(e.drop 1).take (cV e-1) then some ⟨u,b.1,b.2,f⟩ else none:=by
  rw[aF]
  rfl
 refine⟨_,(bQ (cj (i:=2) sc_bough_in.nd rfl (Or.inl rfl) (eP af t.lv rfl T.K_option_in.g T.K_option_in.kp T.K_option_in.B .nil fj (bE (pv 0) (bE (bS (cD (K:=K)) (pv 1) bJ (λ_ _=>rfl)) bG))))
   (bQ (cj (i:=3) sc_bough_in.nd rfl (Or.inl rfl) (vF (cm (nF t.units) (dX dZ (pv 1) (dJ bJ) (dJ bJ)) (cB (bE bM bG)) (cf _)) bJ bJ))
   (bQ (cj (i:=4) sc_bough_in.nd rfl (Or.inl rfl) (eP ae t.lv rfl T.K_rising_in.g T.K_rising_in.kp T.K_rising_in.B .nil fj (bE (pv 0) (bE (dX dZ (pv 1) (dJ (pv 3)) eK) bG))))
   (bQ (cj (i:=5) sc_bough_in.nd rfl (Or.inl rfl) (eP ag t.lv rfl T.K_bounds_in.g T.K_bounds_in.kp T.K_bounds_in.B .nil fj (bE (dX dZ (pv 1) (dJ bJ) (dJ (pv 3))) (bE (cA (da (K:=K)) rfl T.m_len Hg (bE (pv 4) bG)) bG))))
   (bQ (cg (cm (DB t.units) (bY aa t.lv rfl T.K_words_of_bounds (bE (bS (cO (K:=K)) (pv 5) bJ (λ_ _=>rfl)) (bE (bS (cO (K:=K)) (pv 5) bJ (λ_ _=>rfl)) (bE (cA (da (K:=K)) rfl T.m_len Hg (bE (pv 4) bG)) bG)))) (dX dZ (pv 1) (dJ bJ) (dJ (pv 3))) (cf _)) (bP (fv rfl rfl T.g_NoText T.x_NoText.cl (bE bM bG) (λ_ _ _ _ _ _ _ I L hW=>fu I L hW))) cu)
   (bP (ce (dN (bE (pv 2) (bE (bS (cO (K:=K)) (pv 5) bJ (λ_ _=>rfl)) (bE (bS (cO (K:=K)) (pv 5) bJ (λ_ _=>rfl)) (bE (dW i5 rfl T.m_tuple HM (bE (pv 4) bG)) bG)))))))))))),?_⟩
 refine⟨_,R,_,R,C,_,_,_,R,R,SqL.of J,cS (j:=0) aV,l,D,O,R,hl,by omega,λu Z=>?_,λM H' s'=>qn (by rw[p,M];rfl) H' s'⟩;refine⟨_,R,_,R,_,R,C,_,R,SqL.of J,λN aS=>?_⟩;rw[show dS (bF e) (some 1) (some 2)=bF ((e.drop 1).take 1) from(rK (a:=1) (b:=2) _ (by decide)).trans (rh e 1 1)];have s1:=bL aS (.lst (bF ((e.drop 1).take 1)));have a1:(upd H N (.lst (bF ((e.drop 1).take 1)))) N=some (.lst (bF ((e.drop 1).take 1))):=bI;generalize upd H N (.lst (bF ((e.drop 1).take 1)))=F at s1 a1 |-;refine⟨w1 _,λm aM=>?_⟩;have aD:=bL aM (.lst (bF ["from"]));have a2:=aD _ _ a1;have b2:(upd F m (.lst (bF ["from"]))) m=some (.lst (bF ["from"])):=bI;have s2:=s1.trans aD;change Same H (upd F m (.lst [V.str "from"])) at s2;change (upd F m (.lst [V.str "from"])) N=_ at a2;change (upd F m (.lst [V.str "from"])) m=_ at b2;generalize upd F m (.lst [V.str "from"])=H2 at s2 a2 b2 |-;have pf:fS ["from"]:=λx L=>by
  rw[GE.mp L];decide +kernel
 have p0:fS ((e.drop 1).take 1):=λx L=>kC (pw x (HL (HG L)));refine⟨N,m,(e.drop 1).take 1,["from"],R,R,a2,b2,p0,pf,_,R,?_⟩;refine zn (A:=λv=>tC v _ _ _) (z:=.int ((cV e:Nat):Int)) ?_ ?_
 ·unfold cV;by_cases c:(e.drop 1).take 1=(["from"]:List Str)
  ·rw[GF c,Hl rfl,Hl c]
   rfl
  ·rw[GZ c,GY (by simp),GY c]
   rfl
 have st:cV e=5\/cV e=2:=by
  unfold cV
  split
  ·exact .inl rfl
  ·exact .inr rfl
 refine⟨_,R,_,R,_,R,_,R,C,_,R,SqL.of (s2 _ _ J),λp3 aL=>?_⟩;rw[jF,kD];have aH:=bL aL (.lst (bF (e.drop (cV e))));have s3:=s2.trans aH;have a3:(upd H2 p3 (.lst (bF (e.drop (cV e))))) p3=some (.lst (bF (e.drop (cV e)))):=bI;generalize upd H2 p3 (.lst (bF (e.drop (cV e))))=H3 at s3 a3 |-;refine⟨l,p3,D,e.drop (cV e),R,s3 _ _ hl,a3,aU,by rw[Hd];omega,λf n pk S s4 nk hk=>?_,λM S s4=>qn (by rw[p,Z,M];rfl) S (s3.trans s4)⟩;have aq:e.drop (cV e)≠[]/\f.length=(e.drop (cV e)).length:=by
  unfold c9 at n
  split at n
  ·rename_i c
   cases n
   exact⟨c.1,by rw[Gz]⟩
  ·cases n
 obtain⟨k1,k2⟩:=aq;have aN:=st;have k3:cV e<e.length:=by
  rcases KY (cV e) e.length with y|y
  ·exact y
  ·exact absurd (Jt y) k1
 rw[Hd] at k2;have s5:=s3.trans s4;refine⟨_,R,_,R,_,R,_,R,C,_,R,SqL.of (s5 _ _ J),λp5 aP=>?_⟩;rw[show dS (bF e) (some 1) (some ((cV e:Nat):Int))=bF ((e.drop 1).take (cV e-1)) from(rK (a:=1) (b:=cV e) _ (by omega)).trans (rh e 1 _)];obtain⟨k,G⟩:∃k,k=(e.drop 1).take (cV e-1):=⟨_,rfl⟩
 rw[<-G] at p |-;have ao:∀z∈k,dm z:=λz o=>by
  rw[G] at o;exact pw z (HL (HG o))
 have ax:k.length=cV e-1:=by
  rw[G,G8,Hd];omega
 have aO:k≠[]:=λz=>by
  rw[z] at ax;have l0:0=cV e-1:=ax;omega
 have aJ:k.getD 0 "" = "from" -> k.length=4:=λz=>by
  rw[ax];rcases st with st|st
  ·rw[st]
  ·exfalso;unfold cV at st
   split at st
   ·cases st
   ·rename_i c
    apply c;obtain⟨x,xr,ex⟩:∃x xr,e.drop 1=x::xr:=by
     cases q:e.drop 1 with
     |nil=>
      have:=ID List.length q;rw[Hd] at this;simp at this;omega
     |cons x r=>exact⟨x,r,rfl⟩
    rw[G,ex] at z;rw[ex];have aT:cV e-1=(cV e-2)+1:=by
     rcases aN with q|q<;>rw[q]
    rw[aT] at z;have:x = "from" := z;rw[this]
    rfl
 have ay:=bL aP (.lst (bF k));have s6:=s5.trans ay;have av:=ay _ _ hk;have a6:(upd S p5 (.lst (bF k))) p5=some (.lst (bF k)):=bI;generalize upd S p5 (.lst (bF k))=H6 at s6 av a6 |-;have kl:(cq f).length=f.length:=by rw[cq,Gz]
 refine⟨_,R,pk,_,R,.inl (SqL.of av),p5,k,f.length,by rw[kl];rfl,a6,ao,aO,by omega,aJ,by omega,λb hb X U s7 nb ar=>?_,λM U s7=>qn (by rw[p,Z,n];show((du k f.length).bind _)=none;rw[M];rfl) U (s6.trans s7)⟩;obtain⟨aE,aC⟩:=CF ao (by omega) hb;have s8:=s6.trans s7;have aA:=s7 _ _ av;refine⟨_,R,X,_,_,_,R,R,bW ar,fg,_,R,X,_,_,_,R,R,bW ar,fO,_,R,pk,_,R,.inl (SqL.of aA),b.1,b.2,f.length,by rw[kl];rfl,aE,aC,λp9 aR=>?_⟩;have aw:=bL aR (.lst (bF (ef b.1 b.2 f.length)));have s9:=s8.trans aw;have a9:(upd U p9 (.lst (bF (ef b.1 b.2 f.length)))) p9=some (.lst (bF (ef b.1 b.2 f.length))):=bI;generalize upd U p9 (.lst (bF (ef b.1 b.2 f.length)))=H9 at aw s9 a9 |-;refine⟨_,R,_,R,_,R,_,R,C,_,R,SqL.of (s9 _ _ J),λaK au=>?_⟩;rw[show dS (bF e) (some 1) (some ((cV e:Nat):Int))=bF k from by rw[G];exact(rK (a:=1) (b:=cV e) _ (by omega)).trans (rh e 1 _)];have ah:=bL au (.lst (bF k));have aG:=s9.trans ah;have aI:fS (ef b.1 b.2 f.length):=CD aE aC;refine⟨p9,aK,_,_,R,R,ah _ _ a9,bI,aI,λz o=>kC (ao z o),_,R,?_⟩;by_cases Y:ef b.1 b.2 f.length=k
 ·rw[GF Y];refine cX ?_;have sx:=aw.trans ah;have az:=sx _ _ ar;have w4:∀x y z u:V,([x,y,z,u]:List V).length<=sizeLine:=λx y z u=>by rw[HF];show 4<=_;decide
  refine⟨_,R,_,R,X,_,_,_,R,R,bW az,fg,_,R,X,_,_,_,R,R,bW az,fO,_,R,pk,_,R,.inl ⟨SqL.of (sx _ _ aA),λtk aQ=>⟨w4 _ _ _ _,λz o=>?_⟩⟩⟩;exact qy ⟨u,b.1,b.2,f⟩ (by rw[p,Z,n];show((du k f.length).bind _)=_;rw[hb];show(if _ then _ else _)=_;rw[Hl Y]) _ _ (aG.trans ((bL aQ _).trans (bL o _))) ⟨z,_,R,bI,_,_,R,R,_,_,R,R,_,_,R,R,_,_,R,⟨tk,_,R,(bL o _) _ _ bI,wY f⟩,R⟩
 ·rw[GZ Y];exact dB ⟨by show 1<=1000;decide,qn (by rw[p,Z,n];show((du k f.length).bind _)=_;rw[hb];show(if _ then _ else _)=_;rw[GY Y]) _ aG⟩
theorem C6(T:Txt K mg a d):cC P w K mg base cK 5 a.f_bough_in d.f_bough_in ["names", "words"] vo:=oU (qa T) λ_ _ _ _=>Gy
theorem zi(T:Txt K mg a d):cC P w K mg base cK 8 a.f_read d.f_read ["text"] zp:=by
 have af:=Dl (P:=P) (w:=w) (base:=base) T;have aa:=pE (P:=P) (w:=w) (base:=base) T;have ae:=Ch (P:=P) (w:=w) (base:=base) T;have ag:=C6 (P:=P) (w:=w) (base:=base) T;have ah:=DK (P:=P) (w:=w) (base:=base) T;refine T.K_read.ok sc_read (λvs H Q E h=>?_) (λni A aB s H vs Q E hr h=>?_)
 ·obtain⟨f,L,C,rfl,_⟩:=h
  rfl
 obtain⟨f,L,C,rfl,g,q⟩:=h;have N:=g.nm;have n9:=N.few;have fb:=g.fewb;have fc:=g.fewc;obtain⟨tl,ts⟩:=g.text;have ll:=fQ (ns:=f) (L:=L) (C:=C);refine⟨_,(bQ (cg (dY (dO (cA (ik (K:=K)) rfl T.m_isinstance Hr (bE (pv 0) (bE (gY (v:=.ty "str") rfl T.m_str HY rfl) bG))))) (bP ja) cu)
   (bQ (i7 (i:=1) sc_read.nd rfl rfl rfl (N':=["line"]) (n:=1) (kp:=[]) rfl (eR (K:=K) (cM (K:=K) Hf Ia Ib iw (pv 0) (bE bM bG))) rfl rfl rfl (λ_ _ _ _ _=>(cG (i:=0) (GJ rfl) rfl (Or.inl rfl))) (λ_ _ _ _ _=>fA) (λ_ _ _ _ _=>(cM (K:=K) Hf Ia Ib iw (pv 0) (bE bM bG))))
   (bQ (cj (i:=2) sc_read.nd rfl (Or.inl rfl) (bY af hr.lv rfl T.K_names_in (bE (bS (cD (K:=K)) (pv 1) bJ (λ_ _=>rfl)) bG)))
   (bQ (cj (i:=3) sc_read.nd rfl (Or.inl rfl) (cB bG))
   (bQ (cj (i:=4) sc_read.nd rfl (Or.inl rfl) (cB bG))
   (bQ (eV HU rfl (eR (K:=K) (dX dZ (pv 1) (dJ bJ) eK)) (cG (i:=5) sc_read.nd rfl (Or.inl rfl)) (bP (cg (dO (bY aa hr.lv rfl T.K_is_cross_line (bE (pv 5) bG))) (bP (eA (cM (K:=K) Hn Ht Hu fG (pv 4) (bE (bY ae hr.lv rfl T.K_cross_tie_in (bE (pv 2) (bE (pv 5) bG))) bG)))) (bP (cg (cm gq (cA (da (K:=K)) rfl T.m_len Hg (bE (pv 4) bG)) bJ (cf _)) (bP ja) (bP (eA (cM (K:=K) Hn Ht Hu fG (pv 3) (bE (bY ag hr.lv rfl T.K_bough_in (bE (pv 2) (bE (pv 5) bG))) bG)))))))))
   (bP (ce (dN (bE (pv 2) (bE (bY ah hr.lv rfl T.K_wood_of (bE (cA (da (K:=K)) rfl T.m_len Hg (bE (pv 2) bG)) (bE (pv 3) (bE (pv 4) bG)))) bG))))))))))),?_⟩
 refine⟨_,R,_,_,_,_,R,.str _,tU,_,R,?_⟩;refine cX ?_;refine⟨_,R,R,_,_,R,R,R,tl,λp1 aV=>?_⟩;rw[ts];have s1:=bL aV (.lst (bF ((bU f L C).map (Str.join " "))));have a1:(upd H p1 (.lst (bF ((bU f L C).map (Str.join " "))))) p1=some (.lst (bF ((bU f L C).map (Str.join " ")))):=bI;change Same H (upd H p1 (.lst (((bU f L C).map (Str.join " ")).map V.str))) at s1;change (upd H p1 (.lst (((bU f L C).map (Str.join " ")).map V.str))) p1=_ at a1;generalize upd H p1 (.lst (((bU f L C).map (Str.join " ")).map V.str))=H1 at s1 a1 |-;refine⟨p1,R,⟨_,SqL.of a1⟩,?_⟩;have lj:(bF ((bU f L C).map (Str.join " "))).length=(bU f L C).length:=by rw[bF,Gz,Gz]
 refine gZ (K:=K) (a:=p1) (xs:=bF ((bU f L C).map (Str.join " "))) (λi m M l=>(∃v,M=[v])/\Same H1 l/\RefsAt l ((bU f L C).take i) m) ⟨⟨none,R⟩,Same.refl _,⟨R,λj ws e=>by rw[LH] at e;cases e⟩⟩ (λi m M l hi pv=>?_) (λi m M l hi pv=>?_) (λi x m M l J pv=>?_) (λm M l pv kl aK=>?_)
 ·obtain⟨_,_,D⟩:=pv;rw[D.1,G8];exact bT (by omega)
 ·exact SqL.of (pv.2.1 _ _ a1)
 ·obtain⟨⟨v,rfl⟩,F,D⟩:=pv;unfold bF at J;rw[GQ,GQ] at J
  cases ek:(bU f L C)[i]? with
  |none=>
   rw[ek] at J
   cases J
  |some ws=>
   rw[ek] at J
   cases J
   obtain⟨wl,aR⟩:=g.words (GO ek);refine⟨_,R,R,_,_,R,R,R,wl,λp2 aJ=>?_⟩;rw[aR];refine⟨⟨_,R⟩,F.trans (bL aJ _),?_⟩;rw[HQ,ek];exact(D.same (bL aJ _)).snoc bI
 obtain⟨_,F,D⟩:=pv;rw[lj,Hy] at D;have aE:=bL aK (.lst m);have s2:=s1.trans (F.trans aE);have a2:(upd l kl (.lst m)) kl=some (.lst m):=bI
 replace D:=D.same aE
 generalize upd l kl (.lst m)=H3 at s2 a2 D |-;clear aE F aK l s1 a1;obtain⟨a0,y0,aH⟩:=D.2 0 _ rfl;refine⟨_,R,kl,_,_,_,R,R,SqL.of a2,cS (j:=0) y0,a0,f,R,aH,N,λpn H4 aw aT az=>?_⟩;have aU:H pn=none:=s2.free aT;have s4:=s2.trans aw;have a4:=aw _ _ a2
 replace D:=D.same aw
 clear aw a2 s2 aH;refine⟨bT (by show 0<=1000;decide),λG aI=>?_⟩;refine⟨bT (by show 0<=1000;decide),λr au=>?_⟩;have aF:G≠r:=cY bI au;have sb:=bL aI (.lst []);have aL:H4 r=none:=sb.free au;have av:=sb.trans (bL au (.lst []));have ab:(upd (upd H4 G (.lst [])) r (.lst [])) G=some (.lst []):=by
  rw[bR aF];exact bI
 have ac:(upd (upd H4 G (.lst [])) r (.lst [])) r=some (.lst []):=bI;generalize upd (upd H4 G (.lst [])) r (.lst [])=H5 at av ab ac |-;clear sb au;refine⟨_,R,_,R,kl,_,R,SqL.of (av _ _ a4),λp6 aj=>?_⟩;rw[show dS m (some 1) none=m.drop 1 from jF _ 1];have aP:p6≠G:=λz=>by rw[z,ab] at aj;cases aj
 have aQ:p6≠r:=λz=>by rw[z,ac] at aj;cases aj
 have ar:=bL aj (.lst (m.drop 1));have s6:=av.trans ar;have a6:(upd H5 p6 (.lst (m.drop 1))) p6=some (.lst (m.drop 1)):=bI
 replace ab:=ar _ _ ab
 replace ac:=ar _ _ ac
 generalize upd H5 p6 (.lst (m.drop 1))=H6 at s6 a6 ab ac |-;clear ar av aj;refine⟨p6,R,⟨_,SqL.of a6⟩,?_⟩;have rd:=D.drop;have ld:(m.drop 1).length=L.length+C.length:=by
  rw[rd.1,Hd,ll];omega
 have fl:∀t∈C,cI 3 t.toD=true:=λt B=>vH (g.okc t B) (by omega);have aC:∀b∈L,cI 3 b.tie.toD=true:=λb X=>nq (by have:=(g.okb b X).few;omega);refine kK (K:=K) (a:=p6) (xs:=m.drop 1) (λi M l=>(∃v5,M=[some (.str (fV f L C)),some (.ref kl),some (.ref pn),some (.ref G),some (.ref r),v5])/\Same H4 l/\l p6=some (.lst (m.drop 1))/\∃y I,l G=some (.lst y)/\l r=some (.lst I)/\DnL l (((L.take i).map Bg.tie).map Tie.toD) y/\DnL l ((C.take (i-L.length)).map Tie.toD) I) ⟨⟨none,R⟩,s6,a6,[],[],ab,ac,R,by rw[Nat.zero_sub];rfl⟩ (λi M l _ z=>SqL.of z.2.2.1) ?_ ?_
 ·rintro i x M l J ⟨⟨v5,rfl⟩,F,h6,y,I,X,hc,db,U⟩;have hi:i<L.length+C.length:=by
   have:=(GU.mp J).1;omega
  by_cases il:i<L.length
  ·have O:=GG il;obtain⟨b,aO⟩:∃b,b=L[i]:=⟨_,rfl⟩
   rw[<-aO] at O;obtain⟨pa,ao,hw⟩:=rd.2 i _ (Fj O);rw[J] at ao
   cases ao
   have Y:=GO O;have Z:=g.okb b Y;have o1:=Z.few;have o2:=Z.lo0;have o3:=Z.lohi;have o4:=Z.hik;have o5:=Z.um;obtain⟨m1,m2⟩:=gG N.nd o5;have c0:(C.take (i-L.length))=[]:=by
    rw[show i-L.length=0 by omega]
    rfl
   rw[c0] at U;have aS:I=[]:=U;subst aS;refine⟨_,R,pa,_,R,F _ _ hw,by simp[cE],λH7 S=>?_⟩;rw[j2 (N.name _ m1)];refine⟨_,R,?_⟩;refine cX ?_;have ax:=S _ _ X;have aq:=S _ _ hc;refine⟨_,R,r,_,R,.inl (SqL.of aq),_,_,R,R,_,R,?_⟩;refine cX ?_;have ai:=F.trans S;have l0:(b.lo.toNat:Int)=b.lo:=IU o2;have h0:(b.hi.toNat:Int)=b.hi:=IU (by omega);refine⟨_,R,.inl ⟨R,_,SqL.of ax⟩,_,R,_,R,pn,pa,f,b.u,b.lo.toNat,b.hi.toNat,b.ks,R,ai _ _ az,ai _ _ hw,N,o5,by omega,by omega,Z.ks0,Z.ris,λk hk=>(Z.up k hk).2,λv H8 o dv=>?_⟩;rw[l0,h0] at dv;have aG:=o _ _ ax;have aA:=ai.trans o;have ak:=S.trans o;have tp:gv H8 (upd H8 G (.lst (y++[v]))):=kP aG (λ_ z=>by cases z);have dx:=DnL.same ak _ _ db;have lx:=db.length;rw[Gz,Gz,G8] at lx;refine⟨G,y,_,R,R,aG,HJ (show y.length<=9 by omega) (by rw[HF];decide),⟨_,R⟩,Wd.Same.put aA aI aG,?_,y++[v],[],bI,?_,?_,?_⟩
   ·rw[bR aP];exact ak _ _ h6
   ·rw[bR aF.symm];exact o _ _ aq
   ·rw[HQ,O,GX,GX];refine(DnL.tupS (n:=3) tp ?_ dx).append ⟨v,[],R,Dn.tupS tp (aC b Y) dv,R⟩;rw[Hv];intro e he;obtain⟨t,B,rfl⟩:=Hc.mp he;obtain⟨b',ay,rfl⟩:=Hc.mp B;exact aC b' (HG ay)
   ·rw[show i+1-L.length=0 by omega]
    rfl
  ·have ic:i-L.length<C.length:=by omega
   have O:=GG ic;obtain⟨t,aN⟩:∃t,t=C[i-L.length]:=⟨_,rfl⟩
   rw[<-aN] at O;obtain⟨pa,ao,hw⟩:=rd.2 i _ (Ed (by omega) O);rw[J] at ao
   cases ao
   have Y:=GO O;have cr:=g.cross Y;refine⟨_,R,pa,_,R,F _ _ hw,(g.whole (GL.mpr (.inr (Iq Y)))).1,λH7 S=>?_⟩;rw[qC cr];refine⟨_,R,?_⟩;refine dB ?_;have ax:=S _ _ X;have aq:=S _ _ hc;have ai:=F.trans S;refine⟨_,R,.inl ⟨R,_,SqL.of aq⟩,_,R,_,R,pn,pa,f,t,R,ai _ _ az,ai _ _ hw,N,cr,g.sm t Y,g.rise Y,λv H8 o dv=>?_⟩;have aD:=o _ _ aq;have aA:=ai.trans o;have ak:=S.trans o;have tp:gv H8 (upd H8 r (.lst (I++[v]))):=kP aD (λ_ z=>by cases z);have dx:=DnL.same ak _ _ U;have dy:=DnL.same ak _ _ db;have lx:=U.length;rw[Gz,G8] at lx;refine⟨r,I,_,R,R,aD,HJ (show I.length<=9 by omega) (by rw[HF];decide),⟨_,R⟩,Wd.Same.put aA aL aD,?_,y,I++[v],?_,bI,?_,?_⟩
   ·rw[bR aQ];exact ak _ _ h6
   ·rw[bR aF];exact o _ _ ax
   ·rw[show L.take (i+1)=L.take i from by rw[HC (by omega),HC (by omega)]];refine DnL.tupS (n:=3) tp ?_ dy;rw[Hv];intro e he;obtain⟨t,B,rfl⟩:=Hc.mp he;obtain⟨b',ay,rfl⟩:=Hc.mp B;exact aC b' (HG ay)
   ·rw[show i+1-L.length=i-L.length+1 by omega,HQ,O,GX];refine(DnL.tupS (n:=3) tp ?_ dx).append ⟨v,[],R,Dn.tupS tp (fl t Y) dv,R⟩;rw[Hv];intro e he;obtain⟨t',B,rfl⟩:=Hc.mp he;exact fl t' (HG B)
 ·rintro M l ⟨⟨v5,rfl⟩,F,h6,y,I,X,hc,db,U⟩;rw[ld,HC (by omega)] at db;rw[ld,show L.length+C.length-L.length=C.length by omega,Hy] at U;have el:(bF f).length=f.length:=by rw[bF,Gz]
  have am:=F _ _ az;have n1:1<=f.length:=Hx.mpr N.ne;refine⟨_,R,_,R,pn,_,R,.inl (SqL.of am),_,R,_,R,(f.length:Int),G,r,y,I,_,_,by rw[el];rfl,X,hc,db,U,g.gb,by omega,by omega,by rw[Gz,Gz];omega,λc aM=>?_,by rw[Gz];omega,λwd tb tc H8 o h1 h2 h3=>?_⟩
  ·obtain⟨t,B,rfl⟩:=Hc.mp aM;exact⟨FN (g.okc t B) (g.nb t B),Fk (g.okc t B) n9 (g.nb t B)⟩
  refine⟨w2 _ _,λp hp=>?_⟩;have sp:=bL hp (.tup [.ref pn,.ref wd]);refine q p pn wd tb tc _ (s4.trans (F.trans (o.trans sp))) aU bI (sp _ _ (o _ _ am)) (WoodP.same sp ⟨h1,⟨y,h2,DnL.same o _ _ db⟩,⟨I,h3,DnL.same o _ _ U⟩,λb X=>(g.okb b X).toBoughOkW,g.okc,g.nb,n1,n9,by omega,by omega⟩)
theorem sH{b:Bool}{A B:Prop}(h:b=false)(a:A):if (!b)=true then A else B:=by
 subst h;exact a
theorem B3(T:Txt K mg a d):cC P w K mg base cK 1 a.f_words_of_cross_tie d.f_words_of_cross_tie ["names", "tie"] zW:=by
 refine T.K_words_of_cross_tie.ok sc_words_of_cross_tie (λvs H Q E h=>?_) (λaB A L s H vs Q E hr h=>?_)
 ·obtain⟨l,B,v,t,rfl,_⟩:=h
  rfl
 obtain⟨l,B,v,t,rfl,r,k,ic,D,q⟩:=h;have S:∀x y z:V,([x,y,z]:List V).length<=sizeLine:=λx y z=>by rw[HF];show 3<=_;decide
 refine⟨_,(bQ (cg (cm kh (bS (cO (K:=K)) (pv 1) bJ (λ_ _=>rfl)) bM (cf _)) (bP (ce (cB (bE (bS (cD (K:=K)) (pv 0) (bS (cO (K:=K)) (pv 1) bJ (λ_ _=>rfl)) (λ_ _=>rfl)) (bE (bS (cO (K:=K)) (pv 1) bJ (λ_ _=>rfl)) (bE (bS (cD (K:=K)) (pv 0) (bS (cO (K:=K)) (pv 1) bJ (λ_ _=>rfl)) (λ_ _=>rfl)) bG)))))) cu)
   (bQ (cj (i:=2) sc_words_of_cross_tie.nd rfl (Or.inl rfl) (cB (bE bM (bE (dW jz rfl T.m_str HY (bE (bS (cO (K:=K)) (pv 1) bJ (λ_ _=>rfl)) bG)) (bE bM bG)))))
   (bQ (eV HU rfl (jW (K:=K) (bS (cO (K:=K)) (pv 1) bJ (λ_ _=>rfl))) (i3 (K:=K) (n:=2) rfl (eU (cG (i:=3) sc_words_of_cross_tie.nd rfl (Or.inl rfl)) (eU (cG (i:=4) sc_words_of_cross_tie.nd rfl (Or.inl rfl)) jc))) (bP (eA (cM (K:=K) Hn Kc Kd Eu (pv 2) (bE (cB (bE (dW jz rfl T.m_str HY (bE (pv 4) bG)) (bE (bS (cD (K:=K)) (pv 0) (pv 3) (λ_ _=>rfl)) bG))) bG)))))
   (bP (ce (pv 2)))))),?_⟩
 cases t with
 |bough u lo hi ks=>cases ic
 |needs x y=>
  obtain⟨p,U,rfl,c,g⟩:=k;obtain⟨Z,r1,rfl,rfl,e2,r2,rfl,rfl,e3,r3,rfl,rfl,rfl⟩:=g;refine⟨_,R,p,_,_,_,R,R,bW c,fg,R,_,R,?_⟩;refine sH (by decide +kernel) ?_;refine⟨_,R,_,R,p,_,_,_,R,R,bW c,fO,l,_,_,_,R,R,SqL.of r,cS (fI D.1),_,R,p,_,_,_,R,R,bW c,fg,_,R,_,R,p,_,_,_,R,R,bW c,gQ,l,_,_,_,R,R,SqL.of r,cS (fI D.2),S _ _ _,λz f=>?_⟩;exact q z _ (bL f _) f bI
 |bans x y=>
  obtain⟨p,U,rfl,c,g⟩:=k;obtain⟨Z,r1,rfl,rfl,e2,r2,rfl,rfl,e3,r3,rfl,rfl,rfl⟩:=g;refine⟨_,R,p,_,_,_,R,R,bW c,fg,R,_,R,?_⟩;refine sH (by decide +kernel) ?_;refine⟨_,R,_,R,p,_,_,_,R,R,bW c,fO,l,_,_,_,R,R,SqL.of r,cS (fI D.1),_,R,p,_,_,_,R,R,bW c,fg,_,R,_,R,p,_,_,_,R,R,bW c,gQ,l,_,_,_,R,R,SqL.of r,cS (fI D.2),S _ _ _,λz f=>?_⟩;exact q z _ (bL f _) f bI
 |most top ps=>
  obtain⟨p,U,rfl,c,g⟩:=k;obtain⟨Z,r1,rfl,rfl,e2,r2,rfl,rfl,e3,r3,rfl,⟨pt,zs,rfl,X,f⟩,rfl⟩:=g;obtain⟨ai,l9,aa⟩:=D;refine⟨_,R,p,_,_,_,R,R,bW c,fg,R,_,R,?_⟩;rw[GF rfl];refine cX ?_;refine⟨_,R,p,_,_,_,R,R,bW c,fO,top,R,og ai,S _ _ _,λG J=>?_⟩;have M:=bL J (.lst (bF ["most",bX top, "of"]));refine⟨_,R,p,_,_,_,R,R,bW (M _ _ c),gQ,pt,R,⟨zs,bW (M _ _ X)⟩,?_⟩;refine mf (K:=K) (a:=pt) (xs:=zs) (λi I j=>(∃N O,I=[some (.ref l),some (.ref p),some (.ref G),N,O])/\Same H j/\j G=some (.lst (bF ((["most",bX top, "of"]:List Str)++(ps.take i).flatMap λp=>[bX p.2,bK B p.1])))) ⟨⟨none,none,R⟩,M,by rw[bI];rfl⟩ (λi I j _ z=>bW (z.2.1 _ _ X)) ?_ ?_
  ·rintro i x I j g ⟨⟨N,O,rfl⟩,C,o⟩;obtain⟨e,m,k⟩:=f.get g;rw[GQ] at m
   cases F:ps[i]? with
   |none=>
    rw[F] at m
    cases m
   |some pr=>
    rw[F] at m
    cases m
    obtain⟨pp,ys,rfl,ah,f1,g1,rfl,rfl,f2,g2,rfl,rfl,rfl⟩:=k;obtain⟨k1,k2⟩:=aa pr (GO F);refine⟨pp,_,R,bW (C _ _ ah),R,_,_,R,_,_,R,R,?_⟩;refine⟨_,R,.inl ⟨R,_,SqL.of o⟩,_,R,pr.2,R,og k2,_,R,_,R,l,_,_,_,R,R,SqL.of (C _ _ r),cS (fI k1),w2 _ _,λb hb=>?_⟩;have Y:=(bL hb (.lst [V.str (bX pr.2),V.str (bK B pr.1)])) _ _ o;refine⟨G,b,_,_,R,R,Y,bI,?_,⟨_,_,R⟩,Wd.Same.put (C.trans (bL hb _)) J Y,?_⟩
    ·have:((ps.take i).flatMap λp=>[bX p.2,bK B p.1]).length<=2*9:=uS _ (by rw[G8];omega);rw[bF,Gz,GC];exact bT (by show 3+_+2<=1000;omega)
    ·rw[bI,kA F,<-GH,ed _ [bX pr.2,bK B pr.1]]
     rfl
  ·rintro I j ⟨⟨N,O,rfl⟩,C,o⟩;rw[<-f.length,Gz,Hy] at o;exact⟨_,R,q G j C J o⟩
theorem FY(T:Txt K mg a d):cC P w K mg base cK 2 a.f_shown d.f_shown ["names", "wood"] yp:=by
 have ae:=Cb (P:=P) (w:=w) (base:=base) T;have aa:=B3 (P:=P) (w:=w) (base:=base) T;refine T.K_shown.ok sc_shown (λvs H Q E h=>?_) (λni A aB s H vs Q E hr h=>?_)
 ·obtain⟨l,wd,tb,tc,f,L,C,rfl,_⟩:=h
  rfl
 obtain⟨l,wd,tb,tc,f,L,C,rfl,hl,W,ah,n8,aE,q⟩:=h;have m9:=W.m9;refine⟨_,(bQ (cj (i:=2) sc_shown.nd rfl (Or.inl rfl) (cB (bE (bO dE (cB (bE bM bG)) (pv 0)) bG)))
   (bQ (eV HU rfl (jW (K:=K) (bS (cO (K:=K)) (pv 1) bJ (λ_ _=>rfl))) (i3 (K:=K) (n:=4) rfl (eU (cG (i:=3) sc_shown.nd rfl (Or.inl rfl)) (eU (cG (i:=4) sc_shown.nd rfl (Or.inl rfl)) (eU (cG (i:=5) sc_shown.nd rfl (Or.inl rfl)) (eU (cG (i:=6) sc_shown.nd rfl (Or.inl rfl)) jc))))) (bP (eA (cM (K:=K) Hn Ht Hu fG (pv 2) (bE (bO dE (bO dE (cB (bE (bS (cD (K:=K)) (pv 0) (pv 3) (λ_ _=>rfl)) bG)) (bY ae hr.lv rfl T.K_words_of_bounds (bE (pv 4) (bE (pv 5) (bE (cA (da (K:=K)) rfl T.m_len Hg (bE (pv 6) bG)) bG))))) (hZ (N':=["k", "names"]) (n:=1) (kp:=[0]) rfl (jW (K:=K) (pv 6)) rfl rfl rfl (λ_ _ _ _ _=>(cG (i:=0) (GJ rfl) rfl (Or.inl rfl))) (λ_ _ _ _ _=>fA) (λ_ _ _ _ _=>(bS (cD (K:=K)) (pv 1) (pv 0) (λ_ _=>rfl))))) bG)))))
   (bQ (eV HU rfl (jW (K:=K) (bS (cO (K:=K)) (pv 1) bJ (λ_ _=>rfl))) (cG (i:=7) sc_shown.nd rfl (Or.inl rfl)) (bP (eA (cM (K:=K) Hn Ht Hu fG (pv 2) (bE (bY aa hr.lv rfl T.K_words_of_cross_tie (bE (pv 0) (bE (pv 7) bG))) bG)))))
   (bP (ce (cM (K:=K) Hf Hz HA (fK (K:=K)) bM (bE (hZ (N':=["words"]) (n:=1) (kp:=[]) rfl (eR (K:=K) (pv 2)) rfl rfl rfl (λ_ _ _ _ _=>(cG (i:=0) (GJ rfl) rfl (Or.inl rfl))) (λ_ _ _ _ _=>fA) (λ_ _ _ _ _=>(cM (K:=K) Hf Hz HA (fK (K:=K)) bM (bE (pv 0) bG)))) bG))))))),?_⟩
 refine⟨w1 _,λp0 aJ=>?_⟩;have s0:=bL aJ (.lst (bF ["ware"]));refine⟨_,R,p0,l,_,_,R,R,bI,s0 _ _ hl,?_,λp1 aM=>⟨w1 _,λM ak=>?_⟩⟩
 ·rw[bF,Gz];exact bT (by show 1+_<=1000;omega)
 have s1:=s0.trans (bL aM (.lst (bF ((["ware"]:List Str)++f))));have aq:Same H (upd (upd H p0 (.lst [V.str "ware"])) p1 (.lst ([V.str "ware"]++bF f))):=s1;obtain⟨H1,av⟩:∃H1,H1=upd (upd H p0 (.lst [V.str "ware"])) p1 (.lst ([V.str "ware"]++bF f)):=⟨_,rfl⟩
 have a1:H1 p1=some (.lst (bF ((["ware"]:List Str)++f))):=by
  rw[av];exact bI
 rw[<-av] at ak aq |-;clear s1;have aw:H M=none:=aq.free ak;have n1:p1≠M:=cY a1 ak;have s2:=aq.trans (bL ak (.lst [.ref p1]));obtain⟨xs,ht,hx⟩:=W.bs;obtain⟨ys,ay,hy⟩:=W.cs;have lx:=hx.length;have ly:=hy.length;rw[Gz,Gz] at lx;rw[Gz] at ly;have fb:=W.fewb;have fc:=W.fewc;refine⟨_,R,wd,_,_,_,R,R,bW (s2 _ _ W.at_),fO,tb,R,⟨xs,bW (s2 _ _ ht)⟩,?_⟩;refine mf (K:=K) (a:=tb) (xs:=xs) (λi g G=>(∃Z v4 v5 v6 v7,g=[some (.ref l),some (.ref wd),some (.ref M),Z,v4,v5,v6,v7])/\Same H G/\LinesAt G M (dF f (L.take i))) ⟨⟨none,none,none,none,none,R⟩,s2,⟨_,bI,R,λj ws e=>?_⟩⟩ (λi g G _ z=>bW (z.2.1 _ _ ht)) ?_ ?_
 ·cases j with
  |zero=>
   cases e
   exact⟨p1,R,n1,by rw[bR n1];exact a1⟩
  |succ j=>cases e
 ·rintro i x g G ar ⟨⟨Z,v4,v5,v6,v7,rfl⟩,S,⟨D,t,O,r3⟩⟩;obtain⟨e,F,hd⟩:=hx.get ar;rw[HN,GQ] at F
  cases J:L[i]? with
  |none=>
   rw[J] at F
   cases F
  |some b=>
   rw[J] at F
   cases F
   obtain⟨pb,B,rfl,aI,f1,g1,rfl,rfl,f2,g2,rfl,rfl,f3,g3,rfl,rfl,f4,g4,rfl,⟨pk,zk,rfl,ao,aL⟩,rfl⟩:=hd;have N:=W.okb b (GO J);have au:=ah b (GO J);have aK:zk=cq b.ks:=n6 aL;subst aK;obtain⟨lo,aD⟩:∃n:Nat,b.lo=(n:Int):=⟨b.lo.toNat,(IU N.lo0).symm⟩
   obtain⟨r,ax⟩:∃n:Nat,b.hi=(n:Int):=⟨b.hi.toNat,(IU (Int.le_trans N.lo0 N.lohi)).symm⟩
   have l1:lo<=1000:=by
    have:=N.lohi;omega
   have l2:r<=1000:=by omega
   have k9:=N.few;have nk:(cq b.ks).length=b.ks.length:=by rw[cq,Gz]
   refine⟨pb,_,R,bW (S _ _ aI),R,_,_,R,_,_,R,_,_,R,_,_,R,R,?_⟩;refine⟨_,R,.inl ⟨R,_,SqL.of t⟩,_,R,_,R,l,_,_,_,R,R,SqL.of (S _ _ hl),cS (fI N.um),w1 _,λa1 aG=>?_⟩;have t1:=bL aG (.lst (bF [bK f b.u]));have m1:=S.trans t1;refine⟨_,R,_,R,_,R,pk,_,R,.inr (bW (m1 _ _ ao)),lo,r,b.ks.length,by rw[aD,ax,nk];rfl,l1,l2,λa2 aA=>?_⟩;have t2:=t1.trans (bL aA (.lst (bF (cU lo r b.ks.length))));obtain⟨aN,_⟩:=t8 (m:=b.ks.length) l1 l2;refine⟨a1,a2,_,_,R,R,(bL aA _) _ _ bI,bI,?_,λa3 aH=>?_⟩
   ·rw[bF,Gz];exact bT (by show 1+_<=1000;omega)
   have t3:=t2.trans (bL aH (.lst ([V.str (bK f b.u)]++bF (cU lo r b.ks.length))));obtain⟨U,am⟩:∃U,U=upd (upd (upd G a1 (.lst [V.str (bK f b.u)])) a2 (.lst (bF (cU lo r b.ks.length)))) a3 (.lst ([V.str (bK f b.u)]++bF (cU lo r b.ks.length))):=⟨_,rfl⟩
   have c3:U a3=some (.lst (bF (bK f b.u::cU lo r b.ks.length))):=by
    rw[am];exact bI
   rw[<-am] at t3 |-;clear t2 t1 am;have m3:=S.trans t3;refine⟨_,R,pk,R,⟨_,bW (m3 _ _ ao)⟩,?_⟩;refine rO (K:=K) (a:=pk) (xs:=cq b.ks) (λj B g o=>(∃v,g=[v,some (.ref l)])/\o=U/\B=bF ((b.ks.take j).map (bK f))) ⟨⟨none,R⟩,R,R⟩ (λj B g o hj pv=>?_) (λj B g o hj pv=>?_) (λj x B g o I pv=>?_) (λB g o pv a4 az=>?_)
   ·obtain⟨_,_,rfl⟩:=pv;rw[bF,Gz,Gz,G8];exact bT (by omega)
   ·obtain⟨_,rfl,_⟩:=pv;exact bW (m3 _ _ ao)
   ·obtain⟨⟨v,rfl⟩,rfl,rfl⟩:=pv;unfold cq at I;rw[GQ] at I
    cases ek:b.ks[j]? with
    |none=>
     rw[ek] at I
     cases I
    |some k=>
     rw[ek] at I
     cases I
     refine⟨_,R,_,R,l,_,_,_,R,R,SqL.of (m3 _ _ hl),cS (fI (N.up k (GO ek)).2),⟨_,R⟩,R,?_⟩;rw[HQ,ek,GX,ed]
     rfl
   ·obtain⟨_,rfl,rfl⟩:=pv;rw[nk,Hy];have t4:=t3.trans (bL az (.lst (bF (b.ks.map (bK f)))));refine⟨a3,a4,_,_,R,R,(bL az _) _ _ c3,bI,?_,λa5 ai=>?_⟩
    ·rw[bF,bF,Gz,Gz,Gz,GN];exact bT (by omega)
    have Y:=t4.trans (bL ai (.lst (bF (bK f b.u::cU lo r b.ks.length)++bF (b.ks.map (bK f)))));have X:=Y _ _ t;have nr:D.length<=21:=by
     rw[O,dF,GN,Gz,G8];omega
    refine⟨M,D,_,R,R,X,HJ nr (by rw[HF];decide),⟨_,_,_,_,_,R⟩,Wd.Same.put (S.trans Y) aw X,?_⟩;have e1:dF f (L.take (i+1))=dF f (L.take i)++[cE f b.u lo r b.ks]:=by
     unfold dF;rw[HQ,J,GX,show(Option.toList (some b)).map (λb:Bg=>cE f b.u b.lo.toNat b.hi.toNat b.ks)=[cE f b.u lo r b.ks] from by rw[K9,HD,aD,ax];rfl]
     rfl
    rw[e1];refine LinesAt.snoc (LinesAt.same Y ⟨D,t,O,r3⟩) X ?_ (λz=>?_)
    ·rw[bI,<-ed]
     rfl
    ·subst z;rw[t4 _ _ t] at ai
     cases ai
 ·rintro g G ⟨⟨Z,v4,v5,v6,v7,rfl⟩,S,aC⟩;rw[<-lx,Hy] at aC;refine⟨_,R,wd,_,_,_,R,R,bW (S _ _ W.at_),gQ,tc,R,⟨ys,bW (S _ _ ay)⟩,?_⟩;refine mf (K:=K) (a:=tc) (xs:=ys) (λi g G=>(∃Z v4 v5 v6 v7,g=[some (.ref l),some (.ref wd),some (.ref M),Z,v4,v5,v6,v7])/\Same H G/\LinesAt G M (dF f L++(C.take i).map (cy f))) ⟨⟨_,_,_,_,_,R⟩,S,by rw[LH,List.map_nil,HZ];exact aC⟩ (λi g G _ z=>bW (z.2.1 _ _ ay)) ?_ ?_
  ·rintro i x g U ar ⟨⟨Z,v4,v5,v6,v7,rfl⟩,aj,⟨D,t,O,r3⟩⟩;obtain⟨e,F,hd⟩:=hy.get ar;rw[GQ] at F
   cases J:C[i]? with
   |none=>
    rw[J] at F
    cases F
   |some c=>
    rw[J] at F
    cases F
    have mc:=GO J;have ic:iO c=true:=by
     cases c with
     |bough u lo r ks=>exact absurd rfl (W.nb _ mc u lo r ks)
     |_=>rfl
    refine⟨_,R,.inl ⟨R,_,SqL.of t⟩,_,R,_,R,l,f,x,c,R,aj _ _ hl,Dn.same aj _ _ hd,ic,aE c mc,λa5 o Y aF ai=>?_⟩;have X:=Y _ _ t;have nr:D.length<=41:=by
     rw[O,GC,dF,GN,Gz,Gz,G8];omega
    refine⟨M,D,_,R,R,X,HJ nr (by rw[HF];decide),⟨_,_,_,_,_,R⟩,Wd.Same.put (aj.trans Y) aw X,?_⟩;rw[HQ,J,GX,<-GH];refine LinesAt.snoc (LinesAt.same Y ⟨D,t,O,r3⟩) X ai (λz=>?_);subst z;rw[t] at aF
    cases aF
  ·rintro g U ⟨⟨Z,v4,v5,v6,v7,rfl⟩,aj,⟨D,t,O,r3⟩⟩;rw[<-ly,Hy] at O r3;have ll:(bU f L C).length<=41:=by
    rw[bU,dF,GC,GN,Gz,Gz];omega
   have sh:∀ws∈bU f L C,k8 ws:=λws hw=>by
    rcases GL.mp hw with y|y
    ·rcases GI.mp y with y|y
     ·rw[y];exact uA m9 n8
     ·obtain⟨b,hb,rfl⟩:=Hc.mp y;have N:=W.okb b hb;have k9:=N.few;have:=ah b hb;have:=N.lohi;exact tY n8 (by omega) (by omega) (by omega)
    ·obtain⟨c,hc,rfl⟩:=Hc.mp y;exact qJ n8 (aE c hc)
   refine⟨R,_,R,M,R,⟨_,SqL.of t⟩,?_⟩;refine gZ (K:=K) (a:=M) (xs:=D) (λj B g o=>(∃v,g=[v])/\o=U/\B=bF (((bU f L C).take j).map (Str.join " "))) ⟨⟨none,R⟩,R,R⟩ (λj B g o hj pv=>?_) (λj B g o hj pv=>?_) (λj x B g o I pv=>?_) (λB g o pv p hp=>?_)
   ·obtain⟨_,_,rfl⟩:=pv;rw[bF,Gz,Gz,G8];exact bT (by omega)
   ·obtain⟨_,rfl,_⟩:=pv;exact SqL.of t
   ·obtain⟨⟨v,rfl⟩,rfl,rfl⟩:=pv;have jl:j<(bU f L C).length:=by
     have:=(GU.mp I).1;have e:D.length=(bU f L C).length:=O;omega
    have ej:=GG jl;obtain⟨a,x1,_,x2⟩:=r3 j _ ej;rw[x1] at I
    cases I
    refine⟨R,_,R, " ",a,_,R,R,SqL.of x2,(nB (sh _ (IH jl))).1,⟨_,R⟩,R,?_⟩;rw[HQ,ej,GX,ed]
    rfl
   ·obtain⟨_,rfl,rfl⟩:=pv;rw[show D.length=(bU f L C).length from O,Hy];have hs:=gD (b:=2000) (ws:=(bU f L C).map (Str.join " ")) λz hz=>by
     obtain⟨ws,hw,rfl⟩:=Hc.mp hz;exact(nB (sh ws hw)).2
    rw[Gz] at hs;refine⟨"\n",p,_,R,R,SqL.of bI,?_,q _ (aj.trans (bL hp _))⟩;rw[Gz,show(("\n"):Str).length=1 from rfl];omega
theorem jA(T:Txt K mg a d):cC P w K mg base cK 1 a.f_law_take d.f_law_take ["_law_state", "_law_most_here"] (zJ K):=by
 refine T.K_law_take.ok sc_law_take (λvs H Q E h=>?_) (λu A g s H vs Q E hr h=>?_)
 ·obtain⟨b,f,e,z,k,rfl,_⟩:=h
  rfl
 obtain⟨b,f,e,z,k,rfl,J,o,I,p,q⟩:=h;have G:=J.at_;have n:(e.map V.int).length=e.length:=Gz _;have ao:0<=k*k:=Int.mul_nonneg o o;have am:k*k<=1000000*1000000:=Int.mul_le_mul I I o (by decide);have C:(2:Int)^64=18446744073709551616:=by decide
 have B:∀j:Int,0<=j->j<e.length->∃v:Int,eJ (e.map V.int) j=some (.int v):=λj j0 j1=>by
  obtain⟨m,rfl⟩:∃m:Nat,j=(m:Int):=⟨j.toNat,by omega⟩
  have hj:m<e.length:=by omega
  refine⟨e[m],cS ?_⟩;rw[GQ,GG hj]
  rfl
 have U:∃t,PSs (fq cK P w K mg base ["_law_state", "_law_most_here", "_law_at", "_law_script", "_law_mingled"] "_law_take" (cF lM) a.f_law_take u A g s H E).nox ((fZ lM).drop 6) t/\∀(N:Int)(y M O:Option V),0<=N->N<=1000000000000000->t { nx:=λ_ S=>Q .non S,rt:=Q } [y,some (.int z),M,O,some (.int N)] (L2.upd H b (.lst [.ref f,.int (k+1)])):=by
  refine⟨_,(bP (ce (bO jM (bO jM (bO je (pv 4) (pv 4)) bJ) (pv 1)))),λN y M O n0 n1=>?_⟩;refine⟨_,R,_,R,_,_,R,R,.inl ⟨by rw[C];omega,by rw[C];omega⟩,_,_,R,R,(by show(0:Int)<2147483647;decide),_,R,_,_,R,R,p,?_⟩;exact q _ (KM _ (by omega)) (Kl _ p)
 obtain⟨t6,h6,L⟩:=U;refine⟨_,(bQ (cj (i:=2) sc_law_take.nd rfl (Or.inl rfl) (bS (cD (K:=K)) (pv 0) bJ (λ_ _=>rfl)))
   (bQ (rX (bO eE (pv 2) bJ) (At (pv 0) bJ FI))
   (bQ (cj (i:=3) sc_law_take.nd rfl (Or.inl rfl) (bS (cD (K:=K)) (pv 0) bJ (λ_ _=>rfl)))
   (bQ (cg (cm sg (pv 2) (cA (da (K:=K)) rfl T.m_len Hg (bE (pv 3) bG)) (cf _)) (bP (ce (bO jM (bS (cD (K:=K)) (pv 3) (pv 2) (λ_ _=>rfl)) (pv 1)))) cu)
   (bQ (cj (i:=4) sc_law_take.nd rfl (Or.inl rfl) (bO eE (bO eE (bO je (pv 2) (pv 2)) (bO je bJ (pv 2))) bJ))
   (bQ (cg (cm gq (cA (da (K:=K)) rfl T.m_len Hg (bE (pv 3) bG)) bJ (cf _)) (bP (cj (i:=4) sc_law_take.nd rfl (Or.inl rfl) (bO eE (pv 4) (bO je (bO jM (bS (cD (K:=K)) (pv 3) (bO jM (bO eE (bO je bJ (pv 2)) bJ) (cA (da (K:=K)) rfl T.m_len Hg (bE (pv 3) bG))) (λ_ _=>rfl)) bJ) bJ)))) cu)
   h6)))))),?_⟩
 refine⟨_,R,b,_,_,_,R,R,SqL.of G,R,?_⟩;refine⟨_,R,_,_,R,R,_,R,b,_,_,_,R,R,G,R,?_⟩;have l:=J.scr _ (dD (pen:=b) (H:=H) (.lst [.ref f,.int (k+1)]));have Y:L2.upd H b (.lst [.ref f,.int (k+1)]) b=some (.lst [.ref f,.int (k+1)]):=bI;refine⟨_,R,b,_,_,_,R,R,SqL.of Y,R,?_⟩;refine⟨_,R,_,R,f,_,R,.inl l,_,_,R,R,_,R,?_⟩;refine cx (λc=>?_) (λc=>?_)
 ·have D:k<((e.map V.int).length:Nat):=GJ c;rw[n] at D;obtain⟨v,x⟩:=B k o D;exact⟨_,R,_,R,f,_,_,_,R,R,l,x,_,R,_,_,R,R,p,q _ (KM _ (by omega)) (Kl _ p)⟩
 refine⟨_,R,_,R,_,_,R,R,(by unfold CMul;omega),_,R,_,_,R,R,.inl ⟨by decide,by decide⟩,_,_,R,R,_,_,R,R,?_⟩;refine⟨_,R,f,_,R,.inl l,_,_,R,R,_,R,?_⟩;refine cx (λF=>?_) (λF=>?_)
 ·have r:(0:Int)<((e.map V.int).length:Nat):=GJ F;rw[n] at r;have Z:0<=(5*k+2)%(e.length:Int):=KM _ (by omega);have X:(5*k+2)%(e.length:Int)<e.length:=Kl _ r;obtain⟨v,x⟩:=B _ Z X;have y:0<=v%2147483629:=KM _ (by decide);have v1:v%2147483629<2147483629:=Kl _ (by decide);refine⟨_,R,_,R,_,R,_,_,R,R,.inl ⟨by decide,by decide⟩,_,_,R,R,_,R,f,_,R,.inl l,_,_,R,R,(by rw[n];exact r),f,_,_,_,R,R,l,(by rw[n];exact x),?_⟩;refine⟨_,_,R,R,(by show(0:Int)<2147483629;decide),_,_,R,R,.inr ⟨by decide,by decide⟩,_,_,R,R,?_⟩;exact L _ _ _ _ (by omega) (by omega)
 ·exact L _ _ _ _ (by omega) (by omega)
theorem CL(T:Txt K mg a d):cC P w K mg base cK 3 a.f_law_bough d.f_law_bough ["_law_state", "_law_up", "_law_kids"] (F4 K):=by
 have B:=jA (P:=P) (w:=w) (base:=base) T;refine T.K_law_bough.ok sc_law_bough (λvs H Q E h=>?_) (λaB A F s H vs Q E D h=>?_)
 ·obtain⟨b,f,v,r,u,e,m,k,rfl,_⟩:=h
  rfl
 obtain⟨b,f,v,r,u,e,m,k,rfl,y,k0,k1,N,kl,u0,J,X,q⟩:=h;have el:(e.map V.int).length=e.length:=Gz _;have kp:=Hx.mpr J;have t:∀(lo l p:Int)(g:Hp),SameX b H g->g b=some (.lst [.ref f,.int p])->k<=p->p<=k+3->0<=lo->lo<=l->1<=l->l<=e.length->∀tb,g tb=none->Q (.ref tb) (L2.upd g tb (.tup [.int u,.int lo,.int l,.ref r])):=by
  intro lo l p g O hp Y U l0 l1 h1 h2 tb j;have G:=bL j (.tup [.int u,.int lo,.int l,.ref r]);refine q (mC u lo l e) _ p _ (O.trans (Same.x G)) (G _ _ hp) Y U ?_ (Ai u0 J X l0 l1 h1 h2) (wf _ _ _ _ (by omega)) (FZ _ _ _ _);exact⟨tb,_,R,bI,_,_,R,R,_,_,R,R,_,_,R,R,_,_,R,⟨r,_,R,G _ _ (SameX.tup y.at_ O _ _ N),vW e⟩,R⟩
 refine⟨_,(bQ (cj (i:=3) sc_law_bough.nd rfl (Or.inl rfl) (cA (da (K:=K)) rfl T.m_len Hg (bE (pv 2) bG)))
   (bQ (cj (i:=4) sc_law_bough.nd rfl (Or.inl rfl) (bY B D.lv rfl T.K_law_take (bE (pv 0) (bE bJ bG))))
   (bQ (cg (cm cP (pv 4) bJ (cf _)) (bP (ce (dN (bE (pv 1) (bE bJ (bE (pv 3) (bE (pv 2) bG))))))) cu)
   (bQ (cg (cm cP (pv 4) bJ (cf _)) (bP (ce (dN (bE (pv 1) (bE bJ (bE bJ (bE (pv 2) bG))))))) cu)
   (bQ (cg (cm cP (pv 4) bJ (cf _)) (bP (ce (dN (bE (pv 1) (bE (pv 3) (bE (pv 3) (bE (pv 2) bG))))))) cu)
   (bQ (cj (i:=5) sc_law_bough.nd rfl (Or.inl rfl) (bO eE bJ (bY B D.lv rfl T.K_law_take (bE (pv 0) (bE (pv 3) bG)))))
   (bP (ce (dN (bE (pv 1) (bE (bY B D.lv rfl T.K_law_take (bE (pv 0) (bE (bO eE (pv 5) bJ) bG))) (bE (pv 5) (bE (pv 2) bG))))))))))))),?_⟩
 refine⟨_,R,r,_,R,.inr (bW N),?_⟩;rw[el];refine⟨_,R,b,f,v,5,k,R,y,by omega,by omega,by decide,λw1 au aq=>?_⟩;have n:=dD (pen:=b) (H:=H) (.lst [.ref f,.int (k+1)]);have o:L2.upd H b (.lst [.ref f,.int (k+1)]) b=some (.lst [.ref f,.int (k+1)]):=bI;generalize L2.upd H b (.lst [.ref f,.int (k+1)])=g at n o |-;refine⟨_,R,R,_,R,?_⟩;refine cx (λc=>?_) (λc=>?_)
 ·refine⟨_,R,_,R,_,R,bT (by show 4<=1000;decide),λtb j=>?_⟩;exact t 0 e.length (k+1) g n o (by omega) (by omega) (by omega) (by omega) (by omega) (by omega) tb j
 refine⟨_,R,R,_,R,?_⟩;refine cx (λZ=>?_) (λZ=>?_)
 ·refine⟨_,R,_,R,bT (by show 4<=1000;decide),λtb j=>?_⟩;exact t 1 1 (k+1) g n o (by omega) (by omega) (by omega) (by omega) (by omega) (by omega) tb j
 refine⟨_,R,R,_,R,?_⟩;refine cx (λc3=>?_) (λc3=>?_)
 ·refine⟨_,R,_,R,_,R,_,R,bT (by show 4<=1000;decide),λtb j=>?_⟩;exact t e.length e.length (k+1) g n o (by omega) (by omega) (by omega) (by omega) (by omega) (by omega) tb j
 refine⟨_,R,_,R,b,f,v,_,k+1,R,y.to n o,by omega,by omega,by omega,λw2 av aw=>?_⟩;have C:=n.trans (dD (pen:=b) (H:=g) (.lst [.ref f,.int (k+1+1)]));have L:L2.upd g b (.lst [.ref f,.int (k+1+1)]) b=some (.lst [.ref f,.int (k+1+1)]):=bI;generalize L2.upd g b (.lst [.ref f,.int (k+1+1)])=z at C L |-;refine⟨_,_,R,R,_,R,_,R,_,R,_,_,R,R,b,f,v,_,k+1+1,R,y.to C L,by omega,by omega,by omega,λw3 ax ar=>?_⟩;have I:=C.trans (dD (pen:=b) (H:=z) (.lst [.ref f,.int (k+1+1+1)]));have M:L2.upd z b (.lst [.ref f,.int (k+1+1+1)]) b=some (.lst [.ref f,.int (k+1+1+1)]):=bI;generalize L2.upd z b (.lst [.ref f,.int (k+1+1+1)])=S at I M |-;refine⟨_,R,_,R,bT (by show 4<=1000;decide),λtb j=>?_⟩;exact t w3 (1+w2) (k+1+1+1) S I M (by omega) (by omega) (by omega) (by omega) (by omega) (by omega) tb j
theorem Cv(T:Txt K mg a d):cC P w K mg base cK 5 a.f_law_boughs d.f_law_boughs ["_law_state", "_law_many"] (Ez K):=by
 have aa:=jA (P:=P) (w:=w) (base:=base) T;have ae:=CL (P:=P) (w:=w) (base:=base) T;refine T.K_law_boughs.ok sc_law_boughs (λvs H Q E h=>?_) (λzz A yy s H vs Q E hr h=>?_)
 ·obtain⟨c,o,ns,m,k,rfl,_⟩:=h
  rfl
 obtain⟨c,o,ns,m,k,rfl,B,k0,k1,m1,m9,q⟩:=h;have aH:(2:Int)^62=4611686018427387904:=by decide
 refine⟨_,(bQ (cj (i:=2) sc_law_boughs.nd rfl (Or.inl rfl) (cB bG))
   (bQ (eV HU rfl (EK rfl T.m_range (bE bJ (bE (pv 1) bG))) (cG (i:=3) sc_law_boughs.nd rfl (Or.inl rfl)) (bQ (cj (i:=4) sc_law_boughs.nd rfl (Or.inr rfl) (bY aa hr.lv rfl T.K_law_take (bE (pv 0) (bE (pv 3) bG))))
   (bQ (i7 (i:=5) sc_law_boughs.nd rfl rfl rfl (N':=["_law_group", "_law_up"]) (n:=1) (kp:=[4]) rfl (eR (K:=K) (pv 2)) rfl rfl rfl (λ_ _ _ _ _=>(cG (i:=0) (GJ rfl) rfl (Or.inl rfl))) (λ_ _ _ _ _=>(mo (cm cP (bS (cO (K:=K)) (pv 0) bJ (λ_ _=>rfl)) (pv 1) (cf _)))) (λ_ _ _ _ _=>(pv 0)))
   (bP (cg (PW.pt (iD (cm gq (cA (da (K:=K)) rfl T.m_len Hg (bE (pv 5) bG)) bJ (cf _)) (iC (cm gq (bY aa hr.lv rfl T.K_law_take (bE (pv 0) (bE bJ bG))) bJ (cf _))))) (bP (eA (cM (K:=K) Hn Ht Hu fG (bS (cO (K:=K)) (bS (cD (K:=K)) (pv 5) (bY aa hr.lv rfl T.K_law_take (bE (pv 0) (bE (cA (da (K:=K)) rfl T.m_len Hg (bE (pv 5) bG)) bG))) (λ_ _=>rfl)) bJ (λ_ _=>rfl)) (bE (pv 3) bG)))) (bP (eA (cM (K:=K) Hn PySem.F.slot_list_insert PySem.F.type_list_insert Ey (pv 2) (bE (bY aa hr.lv rfl T.K_law_take (bE (pv 0) (bE (bO eE (cA (da (K:=K)) rfl T.m_len Hg (bE (pv 2) bG)) bJ) bG))) (bE (dN (bE (pv 4) (bE (cB (bE (pv 3) bG)) bG))) bG))))))))))
   (bP (ce (hZ (N':=["_law_up", "_law_kids", "_law_state"]) (n:=2) (kp:=[0]) rfl (eR (K:=K) (pv 2)) rfl rfl rfl (λ_ _ _ _ _=>(i3 (K:=K) (n:=2) rfl (eU (cG (i:=0) (GJ rfl) rfl (Or.inl rfl)) (eU (cG (i:=1) (GJ rfl) rfl (Or.inl rfl)) jc)))) (λ_ _ _ _ _=>fA) (λ_ _ _ _ _=>(bY ae hr.lv rfl T.K_law_bough (bE (pv 2) (bE (pv 0) (bE (dW (zK (K:=K)) rfl T.m_tuple HM (bE (pv 1) bG)) bG)))))))))),?_⟩
 refine⟨bT (by decide),λg hg=>?_⟩;have aN:c≠g:=cY B.at_ hg;refine⟨_,R,_,_,R,⟨by rw[aH];omega,by rw[aH];omega,by rw[aH];omega,by rw[aH];omega⟩,?_⟩;obtain⟨Pv,aD⟩:∃Pv:Nat->St->Hp->Prop,∀i C U,Pv i C U↔(∃(v3 v4 v5:Option V)(p:List eX)(f:Int),C=[some (.ref c),some (.int (m:Int)),some (.ref g),v3,v4,v5]/\SameX c H U/\U c=some (.lst [.ref o,.int f])/\k<=f/\f<=k+4*i/\GAt H U g p/\GOk ((i:Int)+1) p):=⟨_,λ_ _ _=>Iff.rfl⟩
 refine vg (lo:=1) (n:=((m:Int)-1).toNat) Pv ((aD _ _ _).mpr ⟨none,none,none,[],k,R,Same.x (bL hg _),(bL hg _) _ _ B.at_,Int.le_refl _,by omega,⟨bI,hg,(λ_ z=>nomatch z),(λ_ z=>nomatch z),LF⟩,⟨(λ_ z=>nomatch z),JZ _⟩⟩) ?_ ?_
 ·rintro i C U hi aJ;obtain⟨v3,v4,v5,p,f,rfl,sx,az,aX,aW,GA,S⟩:=(aD _ _ _).mp aJ;have qq:=S.few;have i9:(i:Int)<9:=by omega
  have G:∀l:List eX,(l.map λx=>V.ref x.t).length=l.length:=λl=>Gz _;have e1:1+(i:Int)=(i:Int)+1:=by omega
  have e2:((i+1:Nat):Int)+1=(i:Int)+2:=by omega
  refine⟨_,R,_,R,c,o,ns,_,f,R,B.to sx az,by omega,by omega,by omega,λu u0 u1=>?_⟩;have av:=sx.trans (dD (pen:=c) (H:=U) (.lst [.ref o,.int (f+1)]));have au:=GA.pen (ys:=[.ref o,.int (f+1)]) ⟨_,B.at_⟩ az;have aI:L2.upd U c (.lst [.ref o,.int (f+1)]) c=some (.lst [.ref o,.int (f+1)]):=bI;generalize L2.upd U c (.lst [.ref o,.int (f+1)])=H4 at av au aI |-;refine⟨_,R,g,R,⟨_,SqL.of au.at_⟩,?_⟩;refine gZ (K:=K) (a:=g) (xs:=p.map λx=>V.ref x.t) (λj r C H5=>(∃v,C=[v,some (.int u)])/\H5=H4/\r=((p.take j).filter λx=>decide (x.up=u)).map λx=>V.ref x.t) ⟨⟨none,R⟩,R,R⟩ (λj r C H5 hj pv=>?_) (λj r C H5 hj pv=>?_) (λj x r C H5 hx pv=>?_) (λr C H5 pv ol aU=>?_)
  ·obtain⟨_,_,rfl⟩:=pv;rw[G];have:=Ie (λx:eX=>decide (x.up=u)) (p.take j);rw[G8] at this;exact bT (by omega)
  ·rw[pv.2.1];exact SqL.of au.at_
  ·obtain⟨⟨v,rfl⟩,rfl,rfl⟩:=pv;rw[GQ] at hx;obtain⟨y,hy,rfl⟩:=JQ.mp hx;have et:p.take (j+1)=p.take j++[y]:=by rw[List.take_add_one,hy,K9]
   refine⟨_,R,y.t,_,_,_,R,R,bW (au.tup y (GO hy)),fg,_,R,R,_,R,?_⟩;by_cases cc:y.up=u
   ·refine oW (by rw[cc]) ?_;refine⟨_,R,⟨_,R⟩,R,?_⟩;rw[et,JA,JL (by simpa using cc),GX]
    rfl
   ·refine sj (λz=>cc (by injection z)) ?_;refine⟨⟨_,R⟩,R,?_⟩;rw[et,JA,JK (by simpa using cc),List.filter_nil,HZ]
  obtain⟨_,rfl,rfl⟩:=pv;have aP:ol≠c:=Ij (cY aI aU);rw[G,Hy] at *;generalize aE:p.filter (λx=>decide (x.up=u))=L at *;have aL:∀x∈L,x∈p:=λx hx=>by rw[<-aE] at hx;exact(Ir.mp hx).1
  have bj:L.length<=p.length:=by rw[<-aE];exact Ie _ _
  have s6:=bL aU (.lst (L.map λx=>V.ref x.t));have aw:=au.same s6;have aA:=s6 _ _ aI;have ay:=av.trans (Same.x s6);have aq:L2.upd H5 ol (.lst (L.map λx=>V.ref x.t)) ol=some (.lst (L.map λx=>V.ref x.t)):=bI;generalize L2.upd H5 ol (.lst (L.map λx=>V.ref x.t))=H7 at s6 aw aA ay aq |-;refine⟨_,R,ol,_,R,.inl (SqL.of aq),_,_,R,R,_,R,?_⟩;rw[G];have ni:∀(k3:Int)(D:Hp)(v5:Option V),k<=k3->k3<=k+4*i+4->SameX c H D->D c=some (.lst [.ref o,.int k3])->GAt H D g p->∀(I nt:Addr)(j:Nat),D I=none->L2.upd D I (.lst [.int (1+(i:Int))]) nt=none->j<=p.length ->
    Pv (i+1) [some (.ref c),some (.int (m:Int)),some (.ref g),some (.int (1+(i:Int))),some (.int u),v5] (L2.upd (L2.upd (L2.upd D I (.lst [.int (1+(i:Int))])) nt (.tup [.int u,.ref I])) g (.lst ((p.map λx=>V.ref x.t).take j++V.ref nt::(p.map λx=>V.ref x.t).drop j))):=by
   intro k3 D v5 bb bA M N J I nt j Z ak hj;have s9:=(bL Z (.lst [.int (1+(i:Int))])).trans (bL ak (.tup [.int u,.ref I]));rw[<-II,<-Jb];refine(aD _ _ _).mpr ⟨_,_,_,p.take j++⟨nt,u,I,[1+(i:Int)]⟩::p.drop j,k3,R,SameX.put (M.trans (Same.x s9)) hg (Ij aN) (s9 _ _ J.at_),?_,bb,by push_cast;omega,?_,?_⟩
   ·rw[bR aN];exact s9 _ _ N
   ·exact GAt.ins (pre:=p.take j) (post:=p.drop j) (by rw[IK];exact J) (M.free ⟨_,N⟩ Z) Z ak
   ·rw[e2,e1];exact GOk.ins (k:=i) (by rw[IK];exact S) u0 (by omega)
  by_cases c5:L=[]
  ·refine AS (by rw[c5];rfl) ?_;refine cX ?_;refine⟨_,R,.inl ⟨R,_,SqL.of aw.at_⟩,_,R,_,R,g,_,R,.inl (SqL.of aw.at_),?_⟩;refine⟨_,_,R,R,c,o,ns,_,f+1,R,B.to ay aA,by omega,by omega,(by rw[G];omega),λj j0 j1=>?_⟩;rw[G] at j1;have M:=ay.trans (dD (pen:=c) (.lst [.ref o,.int (f+1+1)]));have J:=aw.pen (ys:=[.ref o,.int (f+1+1)]) ⟨_,B.at_⟩ aA;have N:L2.upd H7 c (.lst [.ref o,.int (f+1+1)]) c=some (.lst [.ref o,.int (f+1+1)]):=bI;generalize L2.upd H7 c (.lst [.ref o,.int (f+1+1)])=D at M J N |-;refine⟨_,R,_,R,bT (by show 1<=1000;decide),λI Z=>?_⟩;refine⟨bT (by show 2<=1000;decide),λnt ak=>?_⟩;have s9:=(bL Z (.lst [.int (1+(i:Int))])).trans (bL ak (.tup [.int u,.ref I]));refine⟨g,_,_,_,R,R,s9 _ _ J.at_,j0,(by rw[G];omega),(by rw[G];exact i8 (by omega)),?_⟩;exact ni (f+1+1) D _ (by omega) (by omega) M N J I nt j.toNat Z ak (by omega)
  ·have bv:0<L.length:=Hx.mpr c5;refine Bz (GF (show((L.length:Nat):Int)>0 by omega)) ?_;refine⟨_,R,c,o,ns,3,f+1,R,B.to ay aA,by omega,by omega,by decide,λe e0 bB=>?_⟩;have M:=ay.trans (dD (pen:=c) (.lst [.ref o,.int (f+1+1)]));have J:=aw.pen (ys:=[.ref o,.int (f+1+1)]) ⟨_,B.at_⟩ aA;have N:L2.upd H7 c (.lst [.ref o,.int (f+1+1)]) c=some (.lst [.ref o,.int (f+1+1)]):=bI;have ao:L2.upd H7 c (.lst [.ref o,.int (f+1+1)]) ol=some (.lst (L.map λx=>V.ref x.t)):=by rw[bR aP];exact aq
   generalize L2.upd H7 c (.lst [.ref o,.int (f+1+1)])=D at M J N ao |-;refine⟨_,_,R,R,_,R,?_⟩;refine cx (λc6=>?_) (λc6=>?_)
   ·refine⟨_,R,_,R,_,R,ol,_,R,.inl (SqL.of ao),?_⟩;rw[G];refine⟨c,o,ns,_,f+1+1,R,B.to M N,by omega,by omega,by omega,λjj j0 j1=>?_⟩;obtain⟨jn,rfl⟩:∃jn:Nat,jj=(jn:Int):=⟨jj.toNat,by omega⟩
    have aG:=M.trans (dD (pen:=c) (.lst [.ref o,.int (f+1+1+1)]));have am:=J.pen (ys:=[.ref o,.int (f+1+1+1)]) ⟨_,B.at_⟩ N;have aF:L2.upd D c (.lst [.ref o,.int (f+1+1+1)]) c=some (.lst [.ref o,.int (f+1+1+1)]):=bI;have aC:L2.upd D c (.lst [.ref o,.int (f+1+1+1)]) ol=some (.lst (L.map λx=>V.ref x.t)):=by rw[bR aP];exact ao
    generalize L2.upd D c (.lst [.ref o,.int (f+1+1+1)])=H9 at aG am aF aC |-;obtain⟨x,aV⟩:∃x,L[jn]?=some x:=⟨_,GG (by omega)⟩
    have hx:=aL x (GO aV);obtain⟨aB,O,aO⟩:=Km hx;have ty:=am.tup x hx;have ly:=am.lst x hx;refine⟨ol,_,_,.ref x.t,R,R,SqL.of aC,cS (by rw[GQ,aV];rfl),x.t,_,_,_,R,R,bW ty,fO,.inl ⟨R,_,SqL.of ly.1⟩,_,R,x.l,_,_,R,R,ly.1,?_,?_⟩
    ·have h1:=S.perm.length_eq;rw[Gz,IN,aO,Ip,IW,GC,GC] at h1;rw[Gz];exact i8 (by omega)
    have G9:GAt H _ g _:=GAt.put (k:=1+(i:Int)) (pre:=aB) (post:=O) (x:=x) (by rw[<-aO];exact am);refine(aD _ _ _).mpr ⟨_,_,_,_,f+1+1+1,R,SameX.put aG ly.2.1 (λz=>by have:=B.at_;rw[<-z,ly.2.1] at this;cases this) ly.1,?_,by omega,by push_cast;omega,G9,?_⟩
    ·rw[bR (λz=>by have:=B.at_;rw[z,ly.2.1] at this;cases this)];exact aF
    ·rw[e2,e1];exact GOk.put (k:=i) (by rw[<-aO];exact S)
   ·refine⟨_,R,.inl ⟨R,_,SqL.of J.at_⟩,_,R,_,R,g,_,R,.inl (SqL.of J.at_),?_⟩;refine⟨_,_,R,R,c,o,ns,_,f+1+1,R,B.to M N,by omega,by omega,(by rw[G];omega),λj j0 j1=>?_⟩;rw[G] at j1;have aG:=M.trans (dD (pen:=c) (.lst [.ref o,.int (f+1+1+1)]));have am:=J.pen (ys:=[.ref o,.int (f+1+1+1)]) ⟨_,B.at_⟩ N;have aF:L2.upd D c (.lst [.ref o,.int (f+1+1+1)]) c=some (.lst [.ref o,.int (f+1+1+1)]):=bI;generalize L2.upd D c (.lst [.ref o,.int (f+1+1+1)])=H9 at aG am aF |-;refine⟨_,R,_,R,bT (by show 1<=1000;decide),λI Z=>?_⟩;refine⟨bT (by show 2<=1000;decide),λnt ak=>?_⟩;have bh:=(bL Z (.lst [.int (1+(i:Int))])).trans (bL ak (.tup [.int u,.ref I]));refine⟨g,_,_,_,R,R,bh _ _ am.at_,j0,(by rw[G];omega),(by rw[G];exact i8 (by omega)),?_⟩;exact ni (f+1+1+1) H9 _ (by omega) (by omega) aG aF am I nt j.toNat Z ak (by omega)
 ·rintro C U aJ;obtain⟨v3,v4,v5,p,f,rfl,sx,az,aX,aW,GA,S⟩:=(aD _ _ _).mp aJ;have em:(((m:Int)-1).toNat:Int)+1=(m:Int):=by omega
  rw[em] at S;have qq:=S.few;have G:(p.map λx=>V.ref x.t).length=p.length:=Gz _;refine⟨_,R,g,R,⟨_,SqL.of GA.at_⟩,?_⟩;refine gZ (K:=K) (a:=g) (xs:=p.map λx=>V.ref x.t) (λj r C Y=>(∃v v',C=[v,v',some (.ref c)])/\SameX c U Y/\∃(kc:Int)(X:List PyData),Y c=some (.lst [.ref o,.int kc])/\f<=kc/\kc<=f+3*j/\DnL Y X r/\X.length=j/\(∀b∈X,gF m b=true)/\X.flatMap eH=(p.take j).flatMap (·.kids)/\X.all (cI 3)=true) ⟨⟨none,none,R⟩,SameX.refl _ _,f,[],az,Int.le_refl _,by omega,R,R,(λ_ z=>nomatch z),R,R⟩ (λj r C Y hj pv=>?_) (λj r C Y hj pv=>?_) (λj y r C Y hy pv=>?_) (λr C Y pv l1 aT=>?_)
  ·obtain⟨_,_,kc,X,_,_,_,dn,ln,_⟩:=pv;rw[<-dn.length,ln];exact bT (by rw[G] at hj;omega)
  ·exact SqL.of (pv.2.1 _ _ (Ij aN) GA.at_)
  ·obtain⟨⟨v,v',rfl⟩,ar,kc,X,ax,ba,aS,dn,ln,aK,ki,fl⟩:=pv;rw[GQ] at hy;obtain⟨x,aM,rfl⟩:=JQ.mp hy;have hm:=GO aM;have hj:j<p.length:=(GU.mp aM).1;have lx:=GA.lst x hm;have aZ:x.l≠c:=λz=>by have:=B.at_;rw[<-z,lx.2.1] at this;cases this
   have bg:=ar _ _ aZ lx.1;have gx:=S.each x hm;have kl:x.kids.length<=9:=by
    have pk:=S.perm.length_eq;rw[Gz,IN] at pk;obtain⟨l1,l2,e⟩:=Km hm;rw[e,Ip,IW,GC,GC] at pk;omega
   refine⟨x.t,_,R,bW ((SameX.tup az ar) _ _ (GA.tup x hm)),R,_,_,R,_,_,R,R,?_⟩;refine⟨_,R,_,R,_,R,x.l,_,R,.inl ⟨SqL.of bg,λtk be=>?_⟩⟩;have s4:=bL be (.tup (x.kids.map V.int));have g4:L2.upd Y tk (.tup (x.kids.map V.int)) tk=some (.tup (x.kids.map V.int)):=bI;have aQ:=DnL.same s4 _ _ dn;generalize L2.upd Y tk (.tup (x.kids.map V.int))=H4 at s4 g4 aQ |-;have av:=ar.trans (Same.x s4);refine⟨c,o,ns,tk,x.up,x.kids,(m:Int),kc,R,B.to (sx.trans av) (s4 _ _ ax),by omega,by omega,g4,kl,gx.1,gx.2.1,gx.2.2,λd v k' H5 aR bc bq bz dv aY fd kd=>?_⟩;refine⟨⟨_,_,R⟩,av.trans aR,k',X++[d],bc,by omega,by push_cast;omega,(DnL.tupS (SameX.tup (s4 _ _ ax) aR) fl aQ).append ⟨v,[],R,dv,R⟩,by rw[GC,JU,ln],λb hb=>?_,?_,?_⟩
   ·rcases GL.mp hb with z|z
    ·exact aK b z
    ·rw[GE.mp z];exact aY
   ·rw[Ip,ki,kA aM];simp[kd]
   ·rw[Kf,fl];simp[fd]
  ·obtain⟨_,ar,kc,X,ax,ba,aS,dn,ln,aK,ki,fl⟩:=pv;rw[G] at ln aS ki;rw[Hy] at ki;have s4:=bL aT (.lst r);exact q l1 X r kc _ ((sx.trans ar).trans (Same.x s4)) (s4 _ _ ax) (by omega) (by omega) bI ((sx.trans ar).free ⟨_,ax⟩ aT) (DnL.same s4 _ _ dn) ⟨aK,by rw[ki];exact S.perm⟩ (by omega) fl
theorem Dh(T:Txt K mg a d):cC P w K mg base cK 2 a.f_law_most d.f_law_most ["_law_state", "_law_many"] (uU K):=by
 have aa:=jA (P:=P) (w:=w) (base:=base) T;refine T.K_law_most.ok sc_law_most (λvs H Q E h=>?_) (λaB A F s H vs Q E hr h=>?_)
 ·obtain⟨b,f,ns,m,k,rfl,_⟩:=h
  rfl
 obtain⟨b,f,ns,m,k,rfl,pn,k0,k1,m1,m9,q⟩:=h;have aK:(2:Int)^62=4611686018427387904:=by decide
 have av:(2:Int)^64=18446744073709551616:=by decide
 obtain⟨aX,aU,aY⟩:=mD (X:=(fq cK P w K mg base ["_law_state", "_law_many", "_law_way", "_law_far", "_law_pairs", "_law_k"] "_law_most" (cF j3) a.f_law_most aB A F s H E).nox) (st:=(fZ j3).drop 6) (bP (ce (dN (bE bM (bE (bO je (pv 3) (bO jg (bY aa hr.lv rfl T.K_law_take (bE (pv 0) (bE bJ bG))) bJ)) (bE (dW i5 rfl T.m_tuple HM (bE (pv 4) bG)) bG))))));obtain⟨aR,aT,aV⟩:=mD (X:=(fq cK P w K mg base ["_law_state", "_law_many", "_law_way", "_law_far", "_law_pairs", "_law_k"] "_law_most" (cF j3) a.f_law_most aB A F s H E).nox) (st:=(fZ j3).drop 5) (bQ (cg (cm cP (pv 2) bJ (cf _)) (bP (cj (i:=4) sc_law_most.nd rfl (Or.inl rfl) (dX dZ (pv 4) eK (dJ bJ)))) cu)
   aU)
 refine⟨_,(bQ (cj (i:=2) sc_law_most.nd rfl (Or.inl rfl) (bY aa hr.lv rfl T.K_law_take (bE (pv 0) (bE bJ bG))))
   (bQ (cj (i:=3) sc_law_most.nd rfl (Or.inl rfl) (bS (cD (K:=K)) (cB (bE (bO xp bJ bJ) (bE (bO xp bJ bJ) (bE bJ bG)))) (cA (EL rfl) rfl T.m_min PyProof.Rows.boot_min (bE (pv 2) (bE bJ bG))) (λ_ _=>rfl)))
   (bQ (cj (i:=4) sc_law_most.nd rfl (Or.inl rfl) (cB bG))
   (bQ (eV HU rfl (iL rfl T.m_range (bE (pv 1) bG)) (cG (i:=5) sc_law_most.nd rfl (Or.inl rfl)) (bP (cg (cm cP (bY aa hr.lv rfl T.K_law_take (bE (pv 0) (bE bJ bG))) bJ (cf _)) (bP (eA (cM (K:=K) Hn Ht Hu fG (pv 4) (bE (dN (bE (pv 5) (bE (bO je (pv 3) (bO jg (bY aa hr.lv rfl T.K_law_take (bE (pv 0) (bE bJ bG))) bJ)) bG))) bG)))) cu)))
   (bQ (cg (cm cP (cA (da (K:=K)) rfl T.m_len Hg (bE (pv 4) bG)) bJ (cf _)) (bP (eA (cM (K:=K) Hn Ht Hu fG (pv 4) (bE (dN (bE (bY aa hr.lv rfl T.K_law_take (bE (pv 0) (bE (pv 1) bG))) (bE (bO je (pv 3) (bO jg (bY aa hr.lv rfl T.K_law_take (bE (pv 0) (bE bJ bG))) bJ)) bG))) bG)))) cu)
   aT))))),?_⟩
 refine⟨_,R,b,f,ns,12,k,R,pn,by omega,by omega,by decide,λL w0 w1=>?_⟩;have x1:=dD (pen:=b) (H:=H) (.lst [.ref f,.int (k+1)]);have g1:L2.upd H b (.lst [.ref f,.int (k+1)]) b=some (.lst [.ref f,.int (k+1)]):=bI;generalize L2.upd H b (.lst [.ref f,.int (k+1)])=H1 at x1 g1 |-;refine⟨_,_,R,R,⟨by decide,by decide,by decide⟩,_,_,R,R,⟨by decide,by decide,by decide⟩,bT (by show 3<=1000;decide),λfl aQ=>?_⟩;have sf:=bL aQ (.lst [.int (10^(20:Int).toNat),.int (10^(58:Int).toNat),.int 1]);have gf:L2.upd H1 fl (.lst [.int (10^(20:Int).toNat),.int (10^(58:Int).toNat),.int 1]) fl=some (.lst [.int (10^(20:Int).toNat),.int (10^(58:Int).toNat),.int 1]):=bI;have g2:=sf _ _ g1;have x2:=x1.trans (Same.x (pen:=b) sf);generalize L2.upd H1 fl (.lst [.int (10^(20:Int).toNat),.int (10^(58:Int).toNat),.int 1])=H2 at sf gf g2 x2 |-;refine⟨_,R,L,2,R,?_⟩;obtain⟨t,au,ar,aO⟩:∃t:Int,0<=t/\t<=10^58/\eJ [V.int (10^(20:Int).toNat),V.int (10^(58:Int).toNat),V.int 1] (if 2<L then 2 else L)=some (.int t):=by
  have e:L=0\/L=1\/(if 2<L then 2 else L)=2:=by
   split<;>omega
  rcases e with e|e|e
  ·rw[e];exact⟨10^20,by decide,by decide,R⟩
  ·rw[e];exact⟨10^58,by decide,by decide,R⟩
  ·rw[e];exact⟨1,by decide,by decide,R⟩
 refine⟨fl,_,_,_,R,R,SqL.of gf,aO,?_⟩;refine⟨bT (by show 0<=1000;decide),λj aD=>?_⟩;have s3:=bL aD (.lst []);have g3:L2.upd H2 j (.lst []) j=some (.lst []):=bI;have aJ:=s3 _ _ g2;have D:j≠b:=λz=>by rw[z,g2] at aD;cases aD
 have aL:H j=none:=x2.free ⟨_,g2⟩ aD;generalize L2.upd H2 j (.lst [])=H3 at s3 g3 aJ |-;have x3:=x2.trans (Same.x (pen:=b) s3);have aq:∀(G:Option V)(c:Int)(j:Addr)(o:List PyData)(l:List V)(g:Hp),SameX b H g->g b=some (.lst [.ref f,.int c])->k<=c->c<=k+25->g j=some (.lst l)->j≠b->PairsTo g m o l->0<o.length->(∀p∈o,oo p)->aX { nx:=λ_ H'=>Q .non H',rt:=Q } [some (.ref b),some (.int (m:Int)),some (.int L),some (.int t),some (.ref j),G] g:=by
  intro G c j o l g B v az aA C D u p0 Z;refine aY _ _ _ ?_;refine⟨_,R,_,R,b,f,ns,24,c,R,pn.to B v,by omega,by omega,by decide,λy y0 y1=>?_⟩;have M:=dD (pen:=b) (H:=g) (.lst [.ref f,.int (c+1)]);have I:=B.trans M;have O:L2.upd g b (.lst [.ref f,.int (c+1)]) b=some (.lst [.ref f,.int (c+1)]):=bI;have N:L2.upd g b (.lst [.ref f,.int (c+1)]) j=some (.lst l):=by rw[bR D];exact C
  have aw:=u.tupS (SameX.tup v M);generalize L2.upd g b (.lst [.ref f,.int (c+1)])=J at I O N aw M |-;refine⟨_,_,R,R,_,_,R,R,.inr ⟨by rw[av];omega,by rw[av];omega⟩,_,R,j,_,R,.inl ⟨SqL.of N,λtk aW=>?_⟩⟩;refine⟨bT (by show 3<=1000;decide),λtt aP=>?_⟩;have sa:=bL aW (.tup l);have sb:=bL aP (.tup [.str ("most" : Str),.int (t*(y-4)),.ref tk]);have aF:=sa.trans sb;have fw:=u.few;exact q (.tuple [.str ("most" : Str),.int (t*(y-4)),.tuple o]) _ (c+1) _ (I.trans (Same.x aF)) (aF _ _ O) (by omega) (by omega) ⟨tt,_,R,bI,_,_,R,R,_,_,R,R,_,_,R,⟨tk,_,R,sb _ _ bI,DnL.same aF _ _ aw.dn⟩,R⟩ (wz u.ok u.ris p0) (qK (m:=m) u.flat (by omega)) ⟨qP au ar (by omega) (by omega),Z⟩
 have tail:∀(G:Option V)(c:Int)(o:List PyData)(l:List V)(g:Hp),SameX b H g->g b=some (.lst [.ref f,.int c])->k<=c->c<=k+25->g j=some (.lst l)->PairsTo g m o l->0<o.length->(∀p∈o,oo p)->aR { nx:=λ_ H'=>Q .non H',rt:=Q } [some (.ref b),some (.int (m:Int)),some (.int L),some (.int t),some (.ref j),G] g:=by
  intro G c o l g B v az aA C u p0 Z;refine aV _ _ _ ?_;refine⟨_,R,R,_,R,?_⟩;refine cx (λ_=>?_) (λ_=>?_)
  ·refine⟨_,R,_,R,j,_,R,SqL.of C,λp9 aI=>?_⟩;rw[show dS l none (some 1)=l.take 1 from by
    cases l with
    |nil=>rfl
    |cons x r=>rfl]
   have s9:=bL aI (.lst (l.take 1));refine aq G c p9 (o.take 1) (l.take 1) _ (B.trans (Same.x s9)) (s9 _ _ v) az aA bI (λz=>by rw[z,v] at aI;cases aI) (u.first.tupS (Same.tup s9)) (by rw[G8];omega) λp hp=>Z p (HG hp)
  ·exact aq G c j o l g B v az aA C D u p0 Z
 refine⟨_,R,_,R,by rw[aK];omega,by rw[aK];omega,?_⟩;rw[Iu];refine nE (n:=m) (λi σ g=>∃(G:Option V)(c:Int)(o:List PyData)(l:List V),σ=[some (.ref b),some (.int (m:Int)),some (.int L),some (.int t),some (.ref j),G]/\SameX b H g/\g b=some (.lst [.ref f,.int c])/\k<=c/\c<=k+1+2*i/\g j=some (.lst l)/\PairsTo g i o l/\∀p∈o,oo p) ⟨none,k+1,[],[],R,x3,aJ,by omega,by omega,g3,⟨R,R,R,R,GW _⟩,(λ_ z=>nomatch z)⟩ ?_ ?_
 ·rintro i σ g hi ⟨G,c,o,l,rfl,B,v,az,aA,C,u,Z⟩;refine⟨_,R,b,f,ns,2,c,R,pn.to B v,by omega,by omega,by decide,λy y0 y1=>?_⟩;have M:=dD (pen:=b) (H:=g) (.lst [.ref f,.int (c+1)]);have I:=B.trans M;have O:L2.upd g b (.lst [.ref f,.int (c+1)]) b=some (.lst [.ref f,.int (c+1)]):=bI;have N:L2.upd g b (.lst [.ref f,.int (c+1)]) j=some (.lst l):=by rw[bR D];exact C
  have aw:=u.tupS (SameX.tup v M);generalize L2.upd g b (.lst [.ref f,.int (c+1)])=J at I O N aw M |-;refine⟨R,_,R,?_⟩;refine cx (λ_=>?_) (λ_=>?_)
  ·refine⟨_,R,.inl ⟨R,_,SqL.of N⟩,_,R,_,R,_,R,b,f,ns,12,c+1,R,pn.to I O,by omega,by omega,by decide,λz z0 z1=>?_⟩;have ax:=dD (pen:=b) (H:=J) (.lst [.ref f,.int (c+1+1)]);have x6:=I.trans ax;have g6:L2.upd J b (.lst [.ref f,.int (c+1+1)]) b=some (.lst [.ref f,.int (c+1+1)]):=bI;have ay:L2.upd J b (.lst [.ref f,.int (c+1+1)]) j=some (.lst l):=by rw[bR D];exact N
   have aN:=aw.tupS (SameX.tup O ax);generalize L2.upd J b (.lst [.ref f,.int (c+1+1)])=H6 at x6 g6 ay aN ax |-;refine⟨_,_,R,R,_,_,R,R,.inr ⟨by rw[av];omega,by rw[av];omega⟩,bT (by show 2<=1000;decide),λU aE=>?_⟩;have S:=bL aE (.tup [.int (i:Int),.int (t*(z-3))]);have g7:L2.upd H6 U (.tup [.int (i:Int),.int (t*(z-3))]) U=some (.tup [.int (i:Int),.int (t*(z-3))]):=bI;have Y:=S _ _ ay;have aM:=(aN.tupS (Same.tup S)).snoc g7;have aC:=S _ _ g6;have x7:=x6.trans (Same.x (pen:=b) S);generalize L2.upd H6 U (.tup [.int (i:Int),.int (t*(z-3))])=H7 at S Y aM aC x7 g7 |-;have lx:=u.dn.length;have fw:=u.few;refine⟨j,_,_,R,R,Y,i8 (by omega),?_⟩;have aH:=kP (o':=.lst (l++[.ref U])) Y (λ_ z=>nomatch z);refine⟨_,c+1+1,_,_,R,SameX.put x7 aL D Y,?_,by omega,by push_cast;omega,bI,aM.tupS aH,λp hp=>?_⟩
   ·rw[bR (Ij D)];exact aC
   ·rcases GL.mp hp with e|e
    ·exact Z p e
    ·rw[GE.mp e];exact qP au ar (by omega) (by omega)
  ·exact⟨_,c+1,o,l,R,I,O,by omega,by push_cast;omega,N,aw.up,Z⟩
 ·rintro σ g ⟨G,c,o,l,rfl,B,v,az,aA,C,u,Z⟩;have lx:=u.dn.length;refine⟨_,R,j,_,R,.inl (SqL.of C),R,_,R,?_⟩;by_cases e:l=[]
  ·refine oW (by rw[e];rfl) ?_;have aG:g j=some (.lst []):=by rw[C,e]
   refine⟨_,R,.inl ⟨R,_,SqL.of C⟩,_,R,_,R,b,f,ns,(m:Int),c,R,pn.to B v,by omega,by omega,by omega,λy y0 y1=>?_⟩;have M:=dD (pen:=b) (H:=g) (.lst [.ref f,.int (c+1)]);have I:=B.trans M;have O:L2.upd g b (.lst [.ref f,.int (c+1)]) b=some (.lst [.ref f,.int (c+1)]):=bI;have N:L2.upd g b (.lst [.ref f,.int (c+1)]) j=some (.lst []):=by rw[bR D];exact aG
   generalize L2.upd g b (.lst [.ref f,.int (c+1)])=J at I O N M |-;refine⟨_,R,_,R,b,f,ns,12,c+1,R,pn.to I O,by omega,by omega,by decide,λz z0 z1=>?_⟩;have ax:=dD (pen:=b) (H:=J) (.lst [.ref f,.int (c+1+1)]);have x6:=I.trans ax;have g6:L2.upd J b (.lst [.ref f,.int (c+1+1)]) b=some (.lst [.ref f,.int (c+1+1)]):=bI;have ay:L2.upd J b (.lst [.ref f,.int (c+1+1)]) j=some (.lst []):=by rw[bR D];exact N
   generalize L2.upd J b (.lst [.ref f,.int (c+1+1)])=H6 at x6 g6 ay ax |-;refine⟨_,_,R,R,_,_,R,R,.inr ⟨by rw[av];omega,by rw[av];omega⟩,bT (by show 2<=1000;decide),λU aE=>?_⟩;have S:=bL aE (.tup [.int y,.int (t*(z-3))]);have g7:L2.upd H6 U (.tup [.int y,.int (t*(z-3))]) U=some (.tup [.int y,.int (t*(z-3))]):=bI;have Y:=S _ _ ay;have aC:=S _ _ g6;have x7:=x6.trans (Same.x (pen:=b) S);generalize L2.upd H6 U (.tup [.int y,.int (t*(z-3))])=H7 at S Y aC x7 g7 |-;refine⟨j,_,_,R,R,Y,i8 (by decide),?_⟩;have aH:=kP (o':=.lst ([]++[.ref U])) Y (λ_ z=>nomatch z);refine tail _ (c+1+1) [.tuple [.int y,.int (t*(z-3))]] [.ref U] _ (SameX.put x7 aL D Y) ?_ (by omega) (by omega) bI (Ef y0 y1 (aH _ _ g7)) (by show 0<1;decide) λp hp=>by
    rw[GE.mp hp];exact qP au ar (by omega) (by omega)
   rw[bR (Ij D)];exact aC
  ·refine sj (λz=>?_) ?_
   ·injection z with z;exact e (Jp.mp (by omega))
   have aS:=Hx.mpr e;exact tail _ c o l g B v (by omega) (by omega) C u (by omega) Z
theorem CJ(T:Txt K mg a d):cC P w K mg base cK 3 a.f_law_cross d.f_law_cross ["_law_state", "_law_many"] (Fa K):=by
 have B:=jA (P:=P) (w:=w) (base:=base) T;have ae:=Dh (P:=P) (w:=w) (base:=base) T;refine T.K_law_cross.ok sc_law_cross (λvs H Q E h=>?_) (λaB A J s H vs Q E r h=>?_)
 ·obtain⟨b,f,o,m,k,rfl,_⟩:=h
  rfl
 obtain⟨b,f,o,m,k,rfl,p,k0,k1,m1,m9,q⟩:=h;refine⟨_,(bQ (cg (PW.pt (iE (cm cP (pv 1) bJ (cf _)) (iQ (cm cP (bY B r.lv rfl T.K_law_take (bE (pv 0) (bE bJ bG))) bJ (cf _))))) (bP (ce (bY ae r.lv rfl T.K_law_most (bE (pv 0) (bE (pv 1) bG))))) cu)
   (bQ (cj (i:=2) sc_law_cross.nd rfl (Or.inl rfl) (bY B r.lv rfl T.K_law_take (bE (pv 0) (bE (pv 1) bG))))
   (bQ (cj (i:=3) sc_law_cross.nd rfl (Or.inl rfl) (bO jM (bO eE (bO eE (pv 2) bJ) (bY B r.lv rfl T.K_law_take (bE (pv 0) (bE (bO jg (pv 1) bJ) bG)))) (pv 1)))
   (bP (ce (dN (bE (bS (cD (K:=K)) (cB (bE bM (bE bM bG))) (bY B r.lv rfl T.K_law_take (bE (pv 0) (bE bJ bG))) (λ_ _=>rfl)) (bE (pv 2) (bE (pv 3) bG))))))))),?_⟩
 have S:∀(t:Int)(g:Hp),SameX b H g->g b=some (.lst [.ref f,.int t])->k<=t->t<=k+1->oA (uU K) [] E0 (gm (eG 0) (gm (eG 1) gN)) [some (.ref b),some (.int (m:Int)),none,none] g Q:=by
  intro t g l aw aC aE;exact⟨_,R,_,R,b,f,o,m,t,R,p.to l aw,by omega,by omega,m1,m9,λc v k' H' x' aq aD az dv ti fd sd=>q c v k' H' (l.trans x') aq (by omega) (by omega) dv ti fd sd⟩
 refine⟨_,R,R,_,R,?_⟩;by_cases e:m=1
 ·refine oW (by rw[e];rfl) ?_;exact S k H (SameX.refl _ _) p.at_ (by omega) (by omega)
 ·refine sj (λz=>?_) ?_
  ·injection z with z;omega
  refine⟨_,R,b,f,o,3,k,R,p,by omega,by omega,by decide,λy y0 y1=>?_⟩;have l:=dD (pen:=b) (H:=H) (.lst [.ref f,.int (k+1)]);have G:L2.upd H b (.lst [.ref f,.int (k+1)]) b=some (.lst [.ref f,.int (k+1)]):=bI;generalize L2.upd H b (.lst [.ref f,.int (k+1)])=g at l G |-;refine⟨R,_,R,?_⟩;refine cx (λ_=>?_) (λ_=>?_)
  ·exact S (k+1) g l G (by omega) (by omega)
  refine⟨_,R,_,R,b,f,o,(m:Int),k+1,R,p.to l G,by omega,by omega,by omega,λj o0 o1=>?_⟩;have M:=l.trans (dD (pen:=b) (H:=g) (.lst [.ref f,.int (k+1+1)]));have Y:L2.upd g b (.lst [.ref f,.int (k+1+1)]) b=some (.lst [.ref f,.int (k+1+1)]):=bI;generalize L2.upd g b (.lst [.ref f,.int (k+1+1)])=C at M Y |-;refine⟨_,R,_,_,R,R,_,R,_,R,_,_,R,R,b,f,o,(m:Int)-1,k+1+1,R,p.to M Y,by omega,by omega,by omega,λx x0 aA=>?_⟩;have x3:=M.trans (dD (pen:=b) (H:=C) (.lst [.ref f,.int (k+1+1+1)]));have I:L2.upd C b (.lst [.ref f,.int (k+1+1+1)]) b=some (.lst [.ref f,.int (k+1+1+1)]):=bI;generalize L2.upd C b (.lst [.ref f,.int (k+1+1+1)])=O at x3 I |-;refine⟨_,_,R,R,_,R,_,_,R,R,(by show(0:Int)<m;omega),?_⟩;refine⟨bT (by show 2<=1000;decide),λn F=>?_⟩;have L:=bL F (.lst [.str ("needs" : Str),.str ("bans" : Str)]);have Z:L2.upd O n (.lst [.str ("needs" : Str),.str ("bans" : Str)]) n=some (.lst [.str ("needs" : Str),.str ("bans" : Str)]):=bI;have U:=L _ _ I;have ar:n≠b:=λz=>by rw[z,I] at F;cases F
  have N:=x3.trans (Same.x (pen:=b) L);generalize L2.upd O n (.lst [.str ("needs" : Str),.str ("bans" : Str)])=u at L Z U N |-;refine⟨_,R,b,f,o,2,k+1+1+1,R,p.to N U,by omega,by omega,by decide,λD w0 w1=>?_⟩;have x5:=N.trans (dD (pen:=b) (H:=u) (.lst [.ref f,.int (k+1+1+1+1)]));have g5:L2.upd u b (.lst [.ref f,.int (k+1+1+1+1)]) b=some (.lst [.ref f,.int (k+1+1+1+1)]):=bI;have X:L2.upd u b (.lst [.ref f,.int (k+1+1+1+1)]) n=some (.lst [.str ("needs" : Str),.str ("bans" : Str)]):=by rw[bR ar];exact Z
  generalize L2.upd u b (.lst [.ref f,.int (k+1+1+1+1)])=H5 at x5 g5 X |-;obtain⟨sN,sk,ao,ax,am⟩:∃sN:Str,(sN=("needs" : Str)\/sN=("bans" : Str))/\¬sN=("most" : Str)/\PyData.strOk sN=true/\eJ ([.str ("needs" : Str),.str ("bans" : Str)]:List V) D=some (.str sN):=by
   have e:D=0\/D=1:=by omega
   rcases e with e|e<;>rw[e]
   ·exact⟨_,.inl rfl,by decide +kernel,qk,R⟩
   ·exact⟨_,.inr rfl,by decide +kernel,qu,R⟩
  refine⟨n,_,_,_,R,R,SqL.of X,am,_,R,_,R,bT (by show 3<=1000;decide),λtp ak=>?_⟩;obtain⟨av,ay,au⟩:=Fn (many:=m) (by omega) (by omega) o0 o1 x0 (by omega);have st:=bL ak (.tup [.str sN,.int j,.int ((j+1+x)%(m:Int))]);refine q (.tuple [.str sN,.int j,.int ((j+1+x)%(m:Int))]) _ (k+1+1+1+1) _ (x5.trans (Same.x st)) (st _ _ g5) (by omega) (by omega) ⟨tp,_,R,bI,_,_,R,R,_,_,R,R,_,_,R,R,R⟩ ?_ ?_ trivial
  ·show gu m sN _ _=true;unfold gu;rw[GY ao,Hl sk];show((decide ((0:Int)<=_)&&decide (_<=(m:Int)-1))&&((decide ((0:Int)<=_)&&decide (_<=(m:Int)-1))&&!decide (_=_)))=true;rw[GF o0,GF (by omega),GF av,GF (by omega),GZ au]
   rfl
  ·show(true&&(cI 2 (.str sN)&&(true&&(true&&true))))=true;rw[show cI 2 (.str sN)=true from ax]
   rfl
theorem Dm(T:Txt K mg a d):cC P w K mg base cK 6 a.f_law_wood d.f_law_wood ["_law_state"] (yq K):=by
 have aa:=jA (P:=P) (w:=w) (base:=base) T;have ae:=Cv (P:=P) (w:=w) (base:=base) T;have af:=CJ (P:=P) (w:=w) (base:=base) T;refine T.K_law_wood.ok sc_law_wood (λvs H Q E h=>?_) (λaB A D s H vs Q E O h=>?_)
 ·obtain⟨f,j,M,k,rfl,_⟩:=h
  rfl
 obtain⟨f,j,M,k,rfl,U,k0,r,q⟩:=h;have az:(2:Int)^62=4611686018427387904:=by decide
 obtain⟨aO,aQ,aR⟩:=mD (X:=(fq cK P w K mg base ["_law_state", "_law_many", "_law_boughs_here", "_law_count"] "_law_wood" (cF jZ) a.f_law_wood aB A D s H E).nox) (st:=(fZ jZ).drop 5) (bP (ce (dN (bE (pv 1) (bE (dW i5 rfl T.m_tuple HM (bE (pv 2) bG)) (bE (dW i5 rfl T.m_tuple HM (bE (hZ (N':=["_law_k", "_law_state", "_law_many"]) (n:=1) (kp:=[0,1]) rfl (iL rfl T.m_range (bE (pv 3) bG)) rfl rfl rfl (λ_ _ _ _ _=>(cG (i:=0) (GJ rfl) rfl (Or.inl rfl))) (λ_ _ _ _ _=>fA) (λ_ _ _ _ _=>(bY af O.lv rfl T.K_law_cross (bE (pv 1) (bE (pv 2) bG))))) bG)) bG))))));have ai:∀(m:Nat)(l:Addr)(J:List PyData)(u:List V)(n:Int)(r:Int)(p:Hp),SameX f H p->p f=some (.lst [.ref j,.int r])->k<=r->r<=k+95->1<=m->m<=9->p l=some (.lst u)->DnL p J u->hV m J->J.length<=8->J.all (cI 3)=true->0<=n->n<=8->aO { nx:=λ_ H'=>Q .non H',rt:=Q } [some (.ref f),some (.int (m:Int)),some (.ref l),some (.int n)] p:=by
  intro m l J u n r p F ao aV aL Z m9 aT dn gb b8 N n0 n8;refine aR _ _ _ ?_;refine⟨_,R,_,R,l,_,R,.inl ⟨SqL.of aT,λt1 aM=>?_⟩⟩;have s2:=bL aM (.tup u);have g2:L2.upd p t1 (.tup u) t1=some (.tup u):=bI;have ag:=s2 _ _ ao;have C:=F.trans (Same.x (pen:=f) s2);have d2:=DnL.same s2 _ _ dn;generalize L2.upd p t1 (.tup u)=I at s2 g2 ag C d2 |-;refine⟨_,R,_,R,by rw[az];omega,by rw[az];omega,?_⟩;refine kF (k:=n.toNat) (λi G σ B=>(∃v,σ=[v,some (.ref f),some (.int (m:Int))])/\SameX f I B/\∃(S:Int)(L:List PyData),B f=some (.lst [.ref j,.int S])/\r<=S/\S<=r+31*i/\DnL B L G/\L.length=i/\(∀c∈L,fm m c=true/\lc c)/\L.all (cI 3)=true) ⟨⟨none,R⟩,SameX.refl _ _,r,[],ag,by omega,by omega,R,R,(λ_ z=>nomatch z),R⟩ (λi G σ B hi pv=>?_) (λi G σ B hi pv=>?_) (λG σ B pv cl aU=>?_)
  ·obtain⟨_,_,S,L,_,_,_,dc,ln,_⟩:=pv;rw[<-dc.length,ln];exact bT (by omega)
  ·obtain⟨⟨v,rfl⟩,x3,S,L,ak,aP,aS,dc,ln,aq,fc⟩:=pv;refine⟨_,R,_,R,f,j,M,m,S,R,U.to (C.trans x3) ak,by omega,by omega,Z,m9,λc v k' H4 Y aj ba aX dv ti fd sd=>?_⟩;refine⟨⟨_,R⟩,x3.trans Y,k',L++[c],aj,by omega,by push_cast;omega,(DnL.tupS (SameX.tup ak Y) fc dc).append ⟨v,[],R,dv,R⟩,by rw[GC,JU,ln],λb hb=>?_,?_⟩
   ·rcases GL.mp hb with z|z
    ·exact aq b z
    ·rw[GE.mp z];exact⟨ti,sd⟩
   ·rw[Kf,fc];simp[fd]
  obtain⟨_,x3,S,L,ak,aP,aS,dc,ln,aq,fc⟩:=pv;have s4:=bL aU (.lst G);have g4:L2.upd B cl (.lst G) cl=some (.lst G):=bI;have aj:=s4 _ _ ak;have tS:=Ds (SameX.tup ag x3) (Same.tup s4);have aD:=DnL.same s4 _ _ dc;have Y:=(C.trans x3).trans (Same.x (pen:=f) s4);generalize L2.upd B cl (.lst G)=H4 at s4 g4 aj tS aD Y |-;refine⟨cl,_,R,.inl ⟨SqL.of g4,λt2 aK=>?_⟩⟩;have s5:=bL aK (.tup G);refine⟨bT (by show 3<=1000;decide),λwd aG=>?_⟩;have s6:=bL aG (.tup [.int (m:Int),.ref t1,.ref t2]);have ah:=s5.trans s6;exact q wd m J L S _ (Y.trans (Same.x ah)) (ah _ _ aj) (by omega) (by omega) Z m9 ⟨⟨u,G,⟨t1,t2,bI,ah _ _ (tS _ _ g2),s6 _ _ bI⟩,DnL.same ah _ _ (DnL.tupS tS N d2),DnL.same ah _ _ aD⟩,gb,λc hc=>(aq c hc).1,by omega,by omega,N,fc,Z,m9⟩ (by omega) λc hc=>(aq c hc).2
 obtain⟨aW,aI,aJ⟩:=mD (X:=(fq cK P w K mg base ["_law_state", "_law_many", "_law_boughs_here", "_law_count"] "_law_wood" (cF jZ) a.f_law_wood aB A D s H E).nox) (st:=(fZ jZ).drop 2) (bQ (cj (i:=2) sc_law_wood.nd rfl (Or.inl rfl) (bY ae O.lv rfl T.K_law_boughs (bE (pv 0) (bE (pv 1) bG))))
   (bQ (cj (i:=3) sc_law_wood.nd rfl (Or.inl rfl) (bY aa O.lv rfl T.K_law_take (bE (pv 0) (bE bJ bG))))
   (bQ (cg (cm cP (bY aa O.lv rfl T.K_law_take (bE (pv 0) (bE bJ bG))) bJ (cf _)) (bP (cj (i:=3) sc_law_wood.nd rfl (Or.inl rfl) (bY aa O.lv rfl T.K_law_take (bE (pv 0) (bE (bS (cD (K:=K)) (cB (bE bJ (bE bJ bG))) (dW qI rfl T.m_int JF (bE (gg gq (pv 1) bJ (cf _)) bG)) (λ_ _=>rfl)) bG))))) cu)
   aQ)))
 have ay:∀(m:Nat)(r:Int)(p:Hp),SameX f H p->p f=some (.lst [.ref j,.int r])->k<=r->r<=k+3->1<=m->m<=9->aW { nx:=λ_ H'=>Q .non H',rt:=Q } [some (.ref f),some (.int (m:Int)),none,none] p:=by
  intro m r p F ao aV aL Z m9;refine aJ _ _ _ ?_;refine⟨_,R,_,R,f,j,M,m,r,R,U.to F ao,by omega,by omega,Z,m9,λl J u o I C ag aZ aY aN nl dn gb b8 N=>?_⟩;have au:l≠f:=λz=>by rw[z,ao] at nl;cases nl
  refine⟨_,R,f,j,M,4,o,R,U.to (F.trans C) ag,by omega,by omega,by decide,λc c0 c1=>?_⟩;have am:=dD (pen:=f) (H:=I) (.lst [.ref j,.int (o+1)]);have g3:L2.upd I f (.lst [.ref j,.int (o+1)]) f=some (.lst [.ref j,.int (o+1)]):=bI;have aC:L2.upd I f (.lst [.ref j,.int (o+1)]) l=some (.lst u):=by rw[bR au];exact aN
  have d3:=DnL.tupS (SameX.tup ag am) N dn;generalize L2.upd I f (.lst [.ref j,.int (o+1)])=B at am g3 aC d3 |-;refine⟨_,R,f,j,M,4,o+1,R,U.to ((F.trans C).trans am) g3,by omega,by omega,by decide,λe e0 e1=>?_⟩;have ax:=dD (pen:=f) (H:=B) (.lst [.ref j,.int (o+1+1)]);have g4:L2.upd B f (.lst [.ref j,.int (o+1+1)]) f=some (.lst [.ref j,.int (o+1+1)]):=bI;have aw:L2.upd B f (.lst [.ref j,.int (o+1+1)]) l=some (.lst u):=by rw[bR au];exact aC
  have d4:=DnL.tupS (SameX.tup g3 ax) N d3;generalize L2.upd B f (.lst [.ref j,.int (o+1+1)])=H4 at ax g4 aw d4 |-;have Y:=((F.trans C).trans am).trans ax;refine⟨R,_,R,?_⟩;refine cx (λ_=>?_) (λ_=>?_)
  ·refine⟨_,R,bT (by show 2<=1000;decide),λfl aH=>?_⟩;have s5:=bL aH (.lst [.int 9,.int 7]);have g5:L2.upd H4 fl (.lst [.int 9,.int 7]) fl=some (.lst [.int 9,.int 7]):=bI;have ar:=s5 _ _ g4;have aE:=s5 _ _ aw;have d5:=DnL.same s5 _ _ d4;have x5:=Y.trans (Same.x (pen:=f) s5);generalize L2.upd H4 fl (.lst [.int 9,.int 7])=H5 at s5 g5 ar aE d5 x5 |-;refine⟨_,R,_,_,R,R,.inr ⟨_,R,?_⟩⟩;obtain⟨top,aF,t0,t9⟩:∃top:Int,eJ [V.int 9,V.int 7] (if decide ((m:Int)>6)=true then 1 else 0)=some (.int top)/\0<top/\top<=9:=by
    split
    ·exact⟨_,R,by decide,by decide⟩
    ·exact⟨_,R,by decide,by decide⟩
   refine⟨fl,_,_,_,R,R,SqL.of g5,aF,f,j,M,top,o+1+1,R,U.to x5 ar,by omega,by omega,t0,λy y0 y1=>?_⟩;have av:=dD (pen:=f) (H:=H5) (.lst [.ref j,.int (o+1+1+1)]);have g6:L2.upd H5 f (.lst [.ref j,.int (o+1+1+1)]) f=some (.lst [.ref j,.int (o+1+1+1)]):=bI;have aA:L2.upd H5 f (.lst [.ref j,.int (o+1+1+1)]) l=some (.lst u):=by rw[bR au];exact aE
   have d6:=DnL.tupS (SameX.tup ar av) N d5;generalize L2.upd H5 f (.lst [.ref j,.int (o+1+1+1)])=H6 at av g6 aA d6 |-;exact ai m l J u y _ H6 (x5.trans av) g6 (by omega) (by omega) Z m9 aA d6 gb b8 N y0 (by omega)
  ·exact ai m l J u c _ H4 Y g4 (by omega) (by omega) Z m9 aw d4 gb b8 N c0 (by omega)
 refine⟨_,(bQ (cj (i:=1) sc_law_wood.nd rfl (Or.inr rfl) (bO eE bJ (bY aa O.lv rfl T.K_law_take (bE (pv 0) (bE bJ bG)))))
   (bQ (cg (cm cP (bY aa O.lv rfl T.K_law_take (bE (pv 0) (bE bJ bG))) bJ (cf _)) (bP (cj (i:=1) sc_law_wood.nd rfl (Or.inr rfl) (bO eE bJ (bY aa O.lv rfl T.K_law_take (bE (pv 0) (bE bJ bG)))))) cu)
   aI)),?_⟩
 refine⟨_,R,f,j,M,6,k,R,U,k0,by omega,by decide,λc c0 c1=>?_⟩;refine⟨_,_,R,R,?_⟩;have F:=dD (pen:=f) (H:=H) (.lst [.ref j,.int (k+1)]);have h1:L2.upd H f (.lst [.ref j,.int (k+1)]) f=some (.lst [.ref j,.int (k+1)]):=bI;generalize L2.upd H f (.lst [.ref j,.int (k+1)])=p at F h1 |-;refine⟨_,R,f,j,M,8,k+1,R,U.to F h1,by omega,by omega,by decide,λe e0 e1=>?_⟩;have C:=F.trans (dD (pen:=f) (H:=p) (.lst [.ref j,.int (k+1+1)]));have h2:L2.upd p f (.lst [.ref j,.int (k+1+1)]) f=some (.lst [.ref j,.int (k+1+1)]):=bI;generalize L2.upd p f (.lst [.ref j,.int (k+1+1)])=I at C h2 |-;refine⟨R,_,R,?_⟩;refine cx (λ_=>?_) (λ_=>?_)
 ·refine⟨_,R,f,j,M,3,k+1+1,R,U.to C h2,by omega,by omega,by decide,λg g0 g1=>?_⟩;refine⟨_,_,R,R,?_⟩;have x3:=C.trans (dD (pen:=f) (H:=I) (.lst [.ref j,.int (k+1+1+1)]));have h3:L2.upd I f (.lst [.ref j,.int (k+1+1+1)]) f=some (.lst [.ref j,.int (k+1+1+1)]):=bI;have t:=ay (7+g).toNat _ _ x3 h3 (by omega) (by omega) (by omega) (by omega);rw[show(((7+g).toNat:Nat):Int)=7+g by omega] at t;exact t
 ·have t:=ay (1+c).toNat _ _ C h2 (by omega) (by omega) (by omega) (by omega);rw[show(((1+c).toNat:Nat):Int)=1+c by omega] at t;exact t
theorem CC(T:Txt K mg a d):cC P w K mg base cK 2 a.f_law_names d.f_law_names ["_law_state", "_law_many"] (FS K):=by
 have aa:=jA (P:=P) (w:=w) (base:=base) T;refine T.K_law_names.ok sc_law_names (λvs H Q E h=>?_) (λaB A U s H vs Q E hr h=>?_)
 ·obtain⟨f,u,ns,m,k,rfl,_⟩:=h
  rfl
 obtain⟨f,u,ns,m,k,rfl,pn,k0,k1,m1,m9,q⟩:=h;have aj:(2:Int)^62=4611686018427387904:=by decide
 obtain⟨aE,aJ,aL⟩:=mD (X:=(fq cK P w K mg base ["_law_state", "_law_many", "_law_letters", "_law_turn", "_law_tail", "_law_names_here", "_law_barred"] "_law_names" (cF lL) a.f_law_names aB A U s H E).nox) (st:=(fZ lL).drop 5) (PLi.pss (dR (kR (i:=6) sc_law_names.nd rfl (Or.inr rfl) (jG (cH (.of bM) (cH (.of bM) (cH (.of bM) (cH (.of bM) (cH (.of bM) (cH (.of bM) (cH (.of bM) iM)))))))))
   (dR (.of (i7 (i:=5) sc_law_names.nd rfl rfl rfl (N':=["_law_name", "_law_barred"]) (n:=1) (kp:=[6]) rfl (eR (K:=K) (pv 5)) rfl rfl rfl (λ_ _ _ _ _=>(cG (i:=0) (GJ rfl) rfl (Or.inl rfl))) (λ_ _ _ _ _=>fA) (λ_ _ _ _ _=>(bS (cD (K:=K)) (cB (bE (pv 0) (bE (bO cw (pv 0) bM) bG))) (dW qI rfl T.m_int JF (bE (gg (ss (K:=K)) (pv 0) (pv 1) (by with_unfolding_all rfl)) bG)) (λ_ _=>rfl)))))
   (kY (.of (ce (hZ (N':=["_law_name"]) (n:=1) (kp:=[]) rfl (eR (K:=K) (pv 5)) rfl rfl rfl (λ_ _ _ _ _=>(cG (i:=0) (GJ rfl) rfl (Or.inl rfl))) (λ_ _ _ _ _=>fA) (λ_ _ _ _ _=>(bS (cD (K:=K)) (cB (bE (pv 0) (bE bM bG))) (dW qI rfl T.m_int JF (bE (gg cP (pv 0) bM (cf _)) bG)) (λ_ _=>rfl))))))))))
 have ah:∀(v2 v3 v4 v6:Option V)(o:Int)(l:Addr)(g:List Str)(B:Hp),SameX f H B->B f=some (.lst [.ref u,.int o])->k<=o->o<=k+30->B l=some (.lst (bF g))->g.length=m->(∀z∈g,z.length<=100)->Names (g.map fW)->aE { nx:=λ_ H'=>Q .non H',rt:=Q } [some (.ref f),some (.int (m:Int)),v2,v3,v4,some (.ref l),v6] B:=by
  intro v2 v3 v4 v6 o l g B x4 aC ao aq aA lb av aD;refine aL _ _ _ ?_;refine⟨bT (by show 7<=1000;decide),λG aG=>?_⟩;have J:=bL aG (.lst (bF barred));have a5:(L2.upd B G (.lst (bF barred))) G=some (.lst (bF barred)):=bI;have l5:=J _ _ aA;have au:=J _ _ aC;have Z:=x4.trans (Same.x (pen:=f) J);change Same B (L2.upd B G (.lst [.str "may",.str "one",.str "must",.str "from",.str "bans",.str "most",.str "nothing"])) at J;change (L2.upd B G (.lst [.str "may",.str "one",.str "must",.str "from",.str "bans",.str "most",.str "nothing"])) G=_ at a5;change (L2.upd B G (.lst [.str "may",.str "one",.str "must",.str "from",.str "bans",.str "most",.str "nothing"])) l=_ at l5;change (L2.upd B G (.lst [.str "may",.str "one",.str "must",.str "from",.str "bans",.str "most",.str "nothing"])) f=_ at au;change SameX f H (L2.upd B G (.lst [.str "may",.str "one",.str "must",.str "from",.str "bans",.str "most",.str "nothing"])) at Z;generalize L2.upd B G (.lst [.str "may",.str "one",.str "must",.str "from",.str "bans",.str "most",.str "nothing"])=L at J a5 l5 au Z |-;have Y:∀c:List Str,(bF c).length=c.length:=λc=>by rw[bF,Gz]
  refine⟨_,R,l,R,⟨_,SqL.of l5⟩,?_⟩;refine gZ (K:=K) (a:=l) (xs:=bF g) (λi r t y=>(∃v,t=[v,some (.ref G)])/\Same L y/\r=bF ((g.take i).map io)) ⟨⟨none,R⟩,Same.refl _,R⟩ (λi r t y O pv=>?_) (λi r t y O pv=>?_) (λi x r t y C pv=>?_) (λr t y pv p hp=>?_)
  ·obtain⟨_,_,rfl⟩:=pv;rw[Y,Gz,G8];exact bT (by omega)
  ·exact SqL.of (pv.2.1 _ _ l5)
  ·obtain⟨⟨v,rfl⟩,I,rfl⟩:=pv;unfold bF at C;rw[GQ] at C
   cases N:g[i]? with
   |none=>
    rw[N] at C
    cases C
   |some z=>
    rw[N] at C
    cases C
    have z1:=av z (GO N);refine⟨_,R,_,R,z, "s",R,R,bT (by show z.length+1<=1000;omega),w2 _ _,λp2 ai=>?_⟩;have s2:=bL ai (.lst [.str z,.str (z ++ "s")]);refine⟨_,R,_,R,G,bF barred,R,.inl (SqL.of (s2 _ _ (I _ _ a5))),R,lO _,.inr ⟨_,R,?_⟩⟩;rw[show(if false=true then !jx (.str z) (bF barred) else jx (.str z) (bF barred))=barred.contains z from lQ z barred];refine⟨p2,_,_,_,R,R,SqL.of bI,(?_:_=some (V.str (io z))),⟨_,R⟩,I.trans s2,?_⟩
    ·unfold io
     cases barred.contains z with
     |true=>rfl
     |false=>rfl
    ·rw[HQ,N,GX,ed]
     rfl
  ·obtain⟨_,I,rfl⟩:=pv;rw[Y,Hy];have s6:=I.trans (bL hp (.lst (bF (g.map io))));have a6:(L2.upd y p (.lst (bF (g.map io)))) p=some (.lst (bF (g.map io))):=bI;generalize L2.upd y p (.lst (bF (g.map io)))=H6 at s6 a6 |-;have x6:=Z.trans (Same.x (pen:=f) s6);have ay:=s6 _ _ au;refine⟨_,R,p,R,⟨_,SqL.of a6⟩,?_⟩;refine gZ (K:=K) (a:=p) (xs:=bF (g.map io)) (λi r t y=>(∃v,t=[v])/\Same H6 y/\r=bF ((g.take i).map fW)) ⟨⟨none,R⟩,Same.refl _,R⟩ (λi r t y O pv=>?_) (λi r t y O pv=>?_) (λi x r t y C pv=>?_) (λr t y pv p9 az=>?_)
   ·obtain⟨_,_,rfl⟩:=pv;rw[Y,Gz,G8];exact bT (by omega)
   ·exact SqL.of (pv.2.1 _ _ a6)
   ·obtain⟨⟨v,rfl⟩,I,rfl⟩:=pv;unfold bF at C;rw[GQ,GQ] at C
    cases N:g[i]? with
    |none=>
     rw[N] at C
     cases C
    |some z=>
     rw[N] at C
     cases C
     refine⟨_,R,w2 _ _,λp2 ai=>?_⟩;have s2:=bL ai (.lst [.str (io z),.str ("seen" : Str)]);refine⟨_,R,R,.inr ⟨_,R,?_⟩⟩;refine⟨p2,_,_,_,R,R,SqL.of bI,(?_:_=some (V.str (fW z))),⟨_,R⟩,I.trans s2,?_⟩
     ·rw[jE];unfold fW ph;by_cases e:io z = "needs"
      ·rw[GF e,Hl e]
       rfl
      ·rw[GZ e,GY e]
       rfl
     ·rw[HQ,N,GX,ed]
      rfl
   ·obtain⟨_,I,rfl⟩:=pv;rw[Y,Gz,Hy];have s9:=I.trans (bL az (.lst (bF (g.map fW))));exact q p9 _ o _ (x6.trans (Same.x s9)) (s9 _ _ ay) ao aq ((x6.trans (Same.x I)).free ⟨_,I _ _ ay⟩ az) bI aD (by rw[Gz,lb])
 have ax:(("abcdefghijklmnopqrstuvwxyz" : Str)).length<=sizeLine:=by rw[HF];decide
 have Y:∀c:List Str,(bF c).length=c.length:=λc=>by rw[bF,Gz]
 have am:∀g:List Str,dS (bF g) none (some (m:Int))=bF (g.take m):=λg=>by
  unfold dS bF;rw[HT.sIx_nat,II,Gz];show((g.map V.str).drop 0).take (min m g.length-0)=_;rw[LD,Nat.sub_zero];by_cases z:m<=g.length
  ·rw[Jr z]
  ·rw[JN (by omega),HC (by rw[Gz];omega),HC (by rw[Gz];omega)]
 refine⟨_,(PLi.pss (dR (.of (cj (i:=2) sc_law_names.nd rfl (Or.inr rfl) bM))
   (dR (.of (cj (i:=3) sc_law_names.nd rfl (Or.inr rfl) (bY aa hr.lv rfl T.K_law_take (bE (pv 0) (bE bJ bG)))))
   (dR (.of (cj (i:=4) sc_law_names.nd rfl (Or.inr rfl) (cM (K:=K) Hf Hz HA (fK (K:=K)) bM (bE (hZ (N':=["_law_k", "_law_letters", "_law_state"]) (n:=1) (kp:=[2,0]) rfl (iL rfl T.m_range (bE (bY aa hr.lv rfl T.K_law_take (bE (pv 0) (bE bJ bG))) bG)) rfl rfl rfl (λ_ _ _ _ _=>(cG (i:=0) (GJ rfl) rfl (Or.inl rfl))) (λ_ _ _ _ _=>fA) (λ_ _ _ _ _=>(bS rT (pv 1) (bY aa hr.lv rfl T.K_law_take (bE (pv 2) (bE bJ bG))) (λ_ _=>rfl)))) bG))))
   (dR (.of (i7 (i:=5) sc_law_names.nd rfl rfl rfl (N':=["_law_k", "_law_tail", "_law_letters", "_law_turn"]) (n:=1) (kp:=[4,2,3]) rfl (iL rfl T.m_range (bE (pv 1) bG)) rfl rfl rfl (λ_ _ _ _ _=>(cG (i:=0) (GJ rfl) rfl (Or.inl rfl))) (λ_ _ _ _ _=>fA) (λ_ _ _ _ _=>(bO cw (bS rT (pv 2) (bO jM (bO eE (pv 3) (bO je bJ (pv 0))) bJ) (λ_ _=>rfl)) (pv 1)))))
   (dR (Aa (cm cP (bY aa hr.lv rfl T.K_law_take (bE (pv 0) (bE bJ bG))) bJ (cf _)) (kY (kR (i:=5) sc_law_names.nd rfl (Or.inl rfl) (D8 dZ (jG (cH (.of bM) (cH (.of bM) (cH (.of bM) (cH (.of bM) (cH (.of bM) (cH (.of bM) (cH (.of bM) (cH (.of bM) (cH (.of bM) iM)))))))))) eK (dJ (pv 1))))) cu)
   (.of aJ))))))),?_⟩
 refine⟨_,R,f,u,ns,26,k,R,pn,by omega,by omega,by decide,λM t0 t1=>?_⟩;have x1:=dD (pen:=f) (H:=H) (.lst [.ref u,.int (k+1)]);have g1:L2.upd H f (.lst [.ref u,.int (k+1)]) f=some (.lst [.ref u,.int (k+1)]):=bI;generalize L2.upd H f (.lst [.ref u,.int (k+1)])=H1 at x1 g1 |-;refine⟨R,_,R,f,u,ns,7,k+1,R,pn.to x1 g1,by omega,by omega,by decide,λn n0 n1=>?_⟩;have x2:=x1.trans (dD (pen:=f) (H:=H1) (.lst [.ref u,.int (k+1+1)]));have g2:L2.upd H1 f (.lst [.ref u,.int (k+1+1)]) f=some (.lst [.ref u,.int (k+1+1)]):=bI;generalize L2.upd H1 f (.lst [.ref u,.int (k+1+1)])=y at x2 g2 |-;refine⟨_,R,by rw[aj];omega,by rw[aj];omega,?_⟩;refine kF (k:=n.toNat) (λi r t F=>(∃v,t=[v,some (.str "abcdefghijklmnopqrstuvwxyz"),some (.ref f)])/\SameX f y F/\∃(o:Int)(D:List Str),F f=some (.lst [.ref u,.int o])/\k+2<=o/\o<=k+2+i/\r=bF D/\D.length=i/\∀z∈D,ip z/\z.length=1) ⟨⟨none,R⟩,SameX.refl _ _,k+1+1,[],g2,by omega,by omega,R,R,(λ_ z=>nomatch z)⟩ (λi r t F O pv=>?_) (λi r t F O pv=>?_) (λr t F pv cl aM=>?_)
 ·obtain⟨_,_,o,D,_,_,_,rfl,ln,_⟩:=pv;rw[Y,ln];exact bT (by omega)
 ·obtain⟨⟨v,rfl⟩,x3,o,D,ag,ao,aq,rfl,ln,lw⟩:=pv;refine⟨_,R,_,R,f,u,ns,26,o,R,pn.to (x2.trans x3) ag,by omega,by omega,by decide,λc c0 c1=>?_⟩;refine⟨_,c,_,R,R,ax,xv (by omega) c1,⟨_,R⟩,x3.trans (dD _),o+1,D++[mU c],bI,by omega,by push_cast;omega,?_,by rw[GC,ln];rfl,λz S=>?_⟩
  ·rw[ed]
   rfl
  ·rcases GL.mp S with e|e
   ·exact lw z e
   ·rw[GE.mp e];exact⟨Gf c,R⟩
 obtain⟨_,aI,o,D,ag,ao,aq,rfl,ln,lw⟩:=pv;obtain⟨af,ak⟩:=vJ lw;have x3:=x2.trans aI;have s4:=bL aM (.lst (bF D));refine⟨"",cl,D,R,R,SqL.of bI,?_,?_⟩
 ·have:=gD (b:=1) (ws:=D) λz S=>Nat.le_of_eq (lw z S).2;rw[show("" : Str).length=0 from rfl];omega
 have x4:=x3.trans (Same.x (pen:=f) s4);have g4:=s4 _ _ ag;generalize L2.upd F cl (.lst (bF D))=B at x4 g4 |-;generalize Str.join "" D=tail at af ak |-;refine⟨_,R,_,R,by rw[aj];omega,by rw[aj];omega,?_⟩;rw[Iu];have aw:(2:Int)^64=18446744073709551616:=by decide
 refine kF (k:=m) (λi r t L=>(∃v,t=[v,some (.str tail),some (.str "abcdefghijklmnopqrstuvwxyz"),some (.int M)])/\L=B/\r=bF (ij M tail i)) ⟨⟨none,R⟩,R,R⟩ (λi r t F O pv=>?_) (λi r t F O pv=>?_) (λr t F pv nl ar=>?_)
 ·obtain⟨_,_,rfl⟩:=pv;rw[Y,ij,Gz,IE];exact bT (by omega)
 ·obtain⟨⟨v,rfl⟩,rfl,rfl⟩:=pv;refine⟨_,R,_,R,_,R,_,_,R,R,.inr ⟨by rw[aw];omega,by rw[aw];omega⟩,_,_,R,R,_,_,R,R,(by decide:(0:Int)<26),_,(M+3*(i:Int))%26,_,R,R,ax,xv (by omega) (by omega),_,R,_,_,R,R,bT (by show 1+tail.length<=1000;omega),⟨_,R⟩,R,?_⟩;unfold ij;rw[LA,GX,ed]
  rfl
 obtain⟨_,rfl,rfl⟩:=pv;obtain⟨aF,aH⟩:=Fl t0 t1 af (by omega) m1 m9;have J:=bL ar (.lst (bF (ij M tail m)));have a5:(L2.upd F nl (.lst (bF (ij M tail m)))) nl=some (.lst (bF (ij M tail m))):=bI;have Z:=x4.trans (Same.x (pen:=f) J);have g5:=J _ _ g4;have aK:nl≠f:=λz=>by rw[z,g4] at ar;cases ar
 generalize L2.upd F nl (.lst (bF (ij M tail m)))=L at J a5 Z g5 |-;refine⟨_,R,f,u,ns,4,o,R,pn.to Z g5,by omega,by omega,by decide,λaN w0 w1=>?_⟩;have x6:=Z.trans (dD (pen:=f) (H:=L) (.lst [.ref u,.int (o+1)]));have g6:L2.upd L f (.lst [.ref u,.int (o+1)]) f=some (.lst [.ref u,.int (o+1)]):=bI;have a6:L2.upd L f (.lst [.ref u,.int (o+1)]) nl=some (.lst (bF (ij M tail m))):=by
  rw[bR aK];exact a5
 generalize L2.upd L f (.lst [.ref u,.int (o+1)])=H6 at x6 g6 a6 |-;refine⟨R,_,R,?_⟩;refine cx (λ_=>?_) (λ_=>?_)
 ·refine⟨bT (by show 9<=1000;decide),λp2 ai=>?_⟩;have s2:=bL ai (.lst (bF base1));refine⟨_,R,(m:Int),R,p2,bF base1,R,SqL.of bI,λp3 ag=>?_⟩;rw[am];have s3:=s2.trans (bL ag (.lst (bF (base1.take m))));obtain⟨e1,e2⟩:=FL m1 m9;exact ah _ _ _ _ (o+1) p3 (base1.take m) _ (x6.trans (Same.x s3)) (s3 _ _ g6) (by omega) (by omega) bI e2 (λz S=>by
   have:∀z∈base1,z.length<=100:=by decide
   exact this z (HG S)) e1
 ·exact ah _ _ _ _ (o+1) nl _ H6 x6 g6 (by omega) (by omega) a6 aH (λz S=>by
   obtain⟨j,_,rfl⟩:=Hc.mp S;rw[gU,vG];omega) aF
theorem B6(T:Txt K mg a d):cC P w K mg base cK 1 a.f_law_first_lines d.f_law_first_lines ["_law_names_here"] CZ:=by
 refine T.K_law_first_lines.ok sc_law_first_lines (λvs H Q E h=>?_) (λaB A Y s H vs Q E hr h=>?_)
 ·obtain⟨l,e,rfl,_⟩:=h
  rfl
 obtain⟨l,e,rfl,C,N,q⟩:=h;have u:∀c:List Str,(bF c).length=c.length:=λc=>by rw[bF,Gz]
 have n9:=N.few;have f:(e.map (·.length)).sum+e.length*((" " : Str)).length<=90:=by
  have:=gD (b:=8) (ws:=e) λz f=>fH (N.name z f);rw[show((" " : Str)).length=1 from rfl];omega
 refine PLi.ex (dR (.of (cj (i:=1) sc_law_first_lines.nd rfl (Or.inr rfl) (bO cw bM (cM (K:=K) Hf Hz HA (fK (K:=K)) bM (bE (pv 0) bG)))))
   (dR (kR (i:=2) sc_law_first_lines.nd rfl (Or.inl rfl) (jG (cH (.of bM) (cH (.of (bO cw bM (cM (K:=K) Hf Hz HA (fK (K:=K)) bM (bE (pv 0) bG)))) (cH (.of (cM (K:=K) Hf Hz HA (fK (K:=K)) bM (bE (pv 0) bG))) (cH (.of (bO cw (pv 1) bM)) (cH (.of (bO cw bM (cM (K:=K) Hf Hz HA (fK (K:=K)) bM (bE (pv 0) bG)))) (cH (.of bM) iM))))))))
   (dR (kR (i:=3) sc_law_first_lines.nd rfl (Or.inl rfl) (jG (cH (.of bM) (cH (.of bM) (cH (.of bM) (cH (.of bM) (cH (.of bM) (cH (.of bM) (cH (.of bM) (cH (.of bM) (cH (.of bM) (cH (.of bM) (cH (.of bM) (cH (.of bM) (cH (.of bM) (cH (.of bM) iM))))))))))))))))
   (kY (.of (ce (bO dE (pv 2) (hZ (N':=["_law_word", "_law_whole"]) (n:=1) (kp:=[1]) rfl (eR (K:=K) (bO dE (pv 3) (cB (bE (bS (cD (K:=K)) (pv 0) bJ (λ_ _=>rfl)) bG)))) rfl rfl rfl (λ_ _ _ _ _=>(cG (i:=0) (GJ rfl) rfl (Or.inl rfl))) (λ_ _ _ _ _=>fA) (λ_ _ _ _ _=>(bO cw (bO cw (pv 1) bM) (pv 0))))))))))) ?_
 have hw:("ware " ++ Str.join " " e).length<=95:=by
  rw[gU];have:=Ic (" " : Str) e;show 5+_<=95;omega
 refine zP (i:=1) (om li (oa (i:=0) (l:=l) (nm:=e) (n:=90) rfl C f (by decide)) (by exact Hi rfl)) ?_;obtain⟨g,S⟩:∃g:Str,g = "ware " ++ Str.join " " e:=⟨_,rfl⟩
 rw[<-S] at hw |-;refine yO (i:=2) (xs:=([("ware" : Str), "Ware " ++ Str.join " " e,Str.join " " e,g ++ " ", "ware  " ++ Str.join " " e, ""]:List Str)) (kJ li (kJ (om li (oa (i:=0) (l:=l) (nm:=e) (n:=90) rfl C f (by decide)) (by exact Hi rfl)) (kJ (oa (i:=0) (l:=l) (nm:=e) (n:=90) rfl C f (by decide)) (kJ (om (zS (i:=1) (x:=g) rfl hw) li (by exact Hi rfl)) (kJ (om li (oa (i:=0) (l:=l) (nm:=e) (n:=90) rfl C f (by decide)) (by exact Hi rfl)) (kJ li zo)))))) (by show 6<=1000;decide) λD aq=>?_;obtain⟨o,J⟩:∃o:List Str,o=([("ware" : Str), "Ware " ++ Str.join " " e,Str.join " " e,g ++ " ", "ware  " ++ Str.join " " e, ""]:List Str):=⟨_,rfl⟩
 have b6:eZ (jd e) o:=by
  rw[J,S];exact EB N
 have l6:o.length=6:=by rw[J];rfl
 rw[<-J];have s2:=bL aq (.lst (bF o));have a2:(upd H D (.lst (bF o))) D=some (.lst (bF o)):=bI;generalize upd H D (.lst (bF o))=H2 at s2 a2 |-;clear J;refine xG (i:=3) (xs:=eu) (dz dj (dz dj (dz dj (dz dj (dz dj (dz dj (dz dj (dz dj (dz dj (dz dj (dz dj (dz dj (dz dj (dz dj gl)))))))))))))) (by decide +kernel) λM au=>?_;have ah:=bL au (.lst (bF eu));have Z:=s2.trans ah;have a3:(upd H2 M (.lst (bF eu))) M=some (.lst (bF eu)):=bI;have ai:=ah _ _ a2;generalize upd H2 M (.lst (bF eu))=r at Z a3 ai |-;have n1:0<e.length:=Hx.mpr N.ne;refine⟨_,R,_,R,_,R,l,_,_,_,R,R,SqL.of (Z _ _ C),cS (j:=0) (fI n1),Ow.w1 _,λp am=>?_⟩;have ak:=bL am (.lst (bF [bK e 0]));refine⟨M,p,bF eu,bF [bK e 0],R,R,ak _ _ a3,bI,bT (by rw[u,u];show 14+1<=1000;decide),λk av=>?_⟩;rw[<-ed];have aj:=ak.trans (bL av (.lst (bF (eu++[bK e 0]))));have O:=Z.trans aj;have X:=aj _ _ ai;change Same H (upd (upd r p (.lst (bF [bK e 0]))) k (.lst (bF (eu++[bK e 0])))) at O;have I:(upd (upd r p (.lst (bF [bK e 0]))) k (.lst (bF (eu++[bK e 0])))) k=some (.lst (bF (eu++[bK e 0]))):=bI;change (upd (upd r p (.lst [V.str (bK e 0)])) k (.lst (bF (eu++[bK e 0])))) k=_ at I;change (upd (upd r p (.lst [V.str (bK e 0)])) k (.lst (bF (eu++[bK e 0])))) D=_ at X;change Same H (upd (upd r p (.lst [V.str (bK e 0)])) k (.lst (bF (eu++[bK e 0])))) at O;generalize upd (upd r p (.lst [V.str (bK e 0)])) k (.lst (bF (eu++[bK e 0])))=H5 at O I X |-;refine⟨k,R,⟨_,SqL.of I⟩,?_⟩;have lw:(bF (eu++[bK e 0])).length=15:=by rw[u,GC];rfl
 have wl:∀z∈eu++[bK e 0],z.length<=100/\jd e (g ++ " " ++ z):=λz f=>by
  rw[S];rcases GL.mp f with y|y
  ·exact⟨Fi z y,DC N y⟩
  ·rw[GE.mp y];exact⟨Hm (ie (λz f=>fH (N.name z f)) 0) (by decide),C7 N⟩
 refine gZ (K:=K) (a:=k) (xs:=bF (eu++[bK e 0])) (λi F G B=>(∃v,G=[v,some (.str g)])/\B=H5/\F=bF (((eu++[bK e 0]).take i).map λz=>g ++ " " ++ z)) ⟨⟨none,R⟩,R,R⟩ (λi F G B hi pv=>?_) (λi F G B hi pv=>?_) (λi x F G B t pv=>?_) (λF G B pv p7 ar=>?_)
 ·obtain⟨_,_,rfl⟩:=pv;rw[u,Gz,G8];exact bT (by omega)
 ·rw[pv.2.1];exact SqL.of I
 ·obtain⟨⟨v,rfl⟩,rfl,rfl⟩:=pv;unfold bF at t;rw[GQ] at t
  cases L:(eu++[bK e 0])[i]? with
  |none=>
   rw[L] at t
   cases t
  |some z=>
   rw[L] at t
   cases t
   have zl:=(wl z (GO L)).1;refine⟨_,R,_,_,R,R,bT (by show g.length+1<=1000;omega),_,R,_,_,R,R,bT (by rw[gU];show g.length+1+z.length<=1000;omega),⟨_,R⟩,R,?_⟩;rw[HQ,L,GX,ed]
   rfl
 ·obtain⟨_,rfl,rfl⟩:=pv;rw[lw,show(eu++[bK e 0]).take 15=eu++[bK e 0] from HC (by rw[GC];show 14+1<=15;decide)];obtain⟨m,U⟩:∃m,m=(eu++[bK e 0]).map λz=>g ++ " " ++ z:=⟨_,rfl⟩
  rw[<-U];have lx:m.length=15:=by rw[U,Gz,GC];rfl
  have bx:eZ (jd e) m:=λz f=>by
   rw[U] at f;obtain⟨y,hy,rfl⟩:=Hc.mp f;exact(wl y hy).2
  have s7:=bL ar (.lst (bF m));refine⟨D,p7,bF o,bF m,R,R,s7 _ _ X,bI,bT (by rw[u,u];omega),λp8 ao=>?_⟩;rw[<-ed];exact q (o++m) p8 _ (O.trans (s7.trans (bL ao _))) bI (by rw[GC,l6,lx]) (kU b6 bx)
theorem tQ(T:Txt K mg a d):cC P w K mg base cK 1 a.f_law_fresh d.f_law_fresh ["_law_names_here"] yV:=by
 refine T.K_law_fresh.ok sc_law_fresh (λvs H Q E h=>?_) (λI A o s H vs Q E hr h=>?_)
 ·obtain⟨l,b,rfl,_⟩:=h
  rfl
 obtain⟨l,b,rfl,M,F,O,q⟩:=h;have C:∀c:List Str,(bF c).length=c.length:=λc=>by rw[bF,Gz]
 refine PLi.ex (dR (kR (i:=1) sc_law_fresh.nd rfl (Or.inl rfl) (jG (cH (.of bM) (cH (.of bM) (cH (.of bM) (cH (.of bM) (cH (.of bM) (cH (.of bM) (cH (.of bM) (cH (.of bM) (cH (.of bM) (cH (.of bM) (cH (.of bM) iM)))))))))))))
   (kY (.of (ce (bS (cD (K:=K)) (hZ (N':=["_law_word", "_law_names_here"]) (n:=1) (kp:=[0]) rfl (eR (K:=K) (pv 1)) rfl rfl rfl (λ_ _ _ _ _=>(cG (i:=0) (GJ rfl) rfl (Or.inl rfl))) (λ_ _ _ _ _=>(mo (cm (Av (K:=K)) (pv 0) (pv 1) (by with_unfolding_all rfl)))) (λ_ _ _ _ _=>(pv 0))) bJ (λ_ _=>rfl)))))) ?_
 refine⟨bT (by show 11<=1000;decide),λp N=>?_⟩;have B:=bL N (.lst (bF cands));have t:(upd H p (.lst (bF cands))) p=some (.lst (bF cands)):=bI;have U:=B _ _ M;refine⟨_,R,p,R,⟨bF cands,SqL.of t⟩,?_⟩;refine gZ (K:=K) (a:=p) (xs:=bF cands) (λi j k g=>(∃v,k=[v,some (.ref l)])/\g=upd H p (.lst (bF cands))/\j=bF ((cands.take i).filter λz=>!b.contains z)) ⟨⟨none,R⟩,R,R⟩ (λi j k g L pv=>?_) (λi j k g L pv=>?_) (λi x j k g f pv=>?_) (λj k g pv Z G=>?_)
 ·obtain⟨_,_,rfl⟩:=pv;rw[C];refine bT (Hm (Ie _ _) ?_);rw[G8];exact Hm (Nat.min_le_right _ _) (by decide)
 ·rw[pv.2.1];exact SqL.of t
 ·obtain⟨⟨v,rfl⟩,rfl,rfl⟩:=pv;unfold bF at f;rw[GQ] at f
  cases m:cands[i]? with
  |none=>
   rw[m] at f
   cases f
  |some z=>
   rw[m] at f
   cases f
   refine⟨_,R,_,R,l,bF b,R,.inl (SqL.of U),R,lO b,?_⟩;rw[lQ];refine⟨_,R,?_⟩;have J:(cands.take (i+1)).filter (λz=>!b.contains z)=(cands.take i).filter (λz=>!b.contains z)++(if (!b.contains z)=true then [z] else []):=by
    rw[HQ,m,JA];congr 1;show List.filter _ [z]=_;rw[KD]
    rfl
   rw[J];refine cx (λc=>?_) (λc=>?_)
   ·refine⟨_,R,⟨_,R⟩,R,?_⟩;rw[Hl (show(!b.contains z)=true from c),ed]
    rfl
   ·refine⟨⟨_,R⟩,R,?_⟩;rw[GY (show ¬(!b.contains z)=true from c),HZ]
 ·obtain⟨_,rfl,rfl⟩:=pv;rw[C,Hy];obtain⟨z,D,u⟩:∃z D,cands.filter (λz=>!b.contains z)=z::D:=by
   cases e:cands.filter (λz=>!b.contains z) with
   |nil=>exact absurd e (DD F O)
   |cons x r=>exact⟨x,r,rfl⟩
  rw[u];refine⟨Z,_,_,_,R,R,SqL.of bI,fg,?_⟩;have Y:z∈cands.filter (λz=>!b.contains z):=by
   rw[u];exact GM
  obtain⟨X,y⟩:=Ir.mp Y;refine q z _ X (λS=>?_) (B.trans (bL G _));rw[show b.contains z=true from Il.mpr S] at y
  cases y
theorem Ck(T:Txt K mg a d):cC P w K mg base cK 2 a.f_law_no_lines d.f_law_no_lines ["_law_one", "_law_names_here"] Eb:=by
 have aa:=tQ (P:=P) (w:=w) (base:=base) T;refine T.K_law_no_lines.ok sc_law_no_lines (λvs H Q E h=>?_) (λni A aB s H vs Q E hr h=>?_)
 ·obtain⟨l,nm,e,rfl,_⟩:=h
  rfl
 obtain⟨l,nm,e,rfl,hl,aW,hw,C,q⟩:=h;have sb:∀c:List Str,(bF c).length=c.length:=λc=>by rw[bF,Gz]
 refine PLi.ex (dR (.of (cj (i:=2) sc_law_no_lines.nd rfl (Or.inl rfl) (bY aa hr.lv rfl T.K_law_fresh (bE (pv 1) bG))))
   (dR (kR (i:=3) sc_law_no_lines.nd rfl (Or.inl rfl) (jG (cH (.of (bO cw (bO cw (pv 0) bM) (pv 2))) (cH (.of (bO cw (bO cw (pv 0) bM) (pv 2))) (cH (.of (bO cw (bO cw (pv 2) bM) (pv 0))) (cH (.of (bO cw (bO cw (pv 2) bM) (pv 0))) iM))))))
   (dR (.of (eA (cM (K:=K) Hn Ht Hu fG (pv 3) (bE (bO cw bM (pv 2)) bG))))
   (dR (.of (eV HU rfl (eR (K:=K) (cB (bE bM (bE bM (bE bM (bE bM (bE bM bG))))))) (cG (i:=4) sc_law_no_lines.nd rfl (Or.inl rfl)) (bP (eA (cM (K:=K) Hn Ht Hu fG (pv 3) (bE (bO cw (bO cw (bO cw (bO cw (pv 0) bM) (pv 4)) bM) (pv 0)) bG))))))
   (dR (.of (eV HU rfl (eR (K:=K) (cB (bE bM (bE bM (bE bM (bE (bO wW bM bJ) (bE bM (bE bM bG)))))))) (cG (i:=4) sc_law_no_lines.nd rfl (Or.inl rfl)) (bP (cj (i:=3) sc_law_no_lines.nd rfl (Or.inl rfl) (bO dE (pv 3) (cB (bE (bO cw (bO cw (bO cw (bO cw (pv 0) bM) (pv 4)) bM) (pv 0)) (bE (bO cw (bO cw (bO cw (bO cw (pv 0) bM) (pv 4)) bM) (pv 0)) bG))))))))
   (dR (.of (cj (i:=3) sc_law_no_lines.nd rfl (Or.inl rfl) (bO dE (pv 3) (cB (bE (bO cw bM (pv 0)) (bE (bO cw bM (pv 0)) (bE (bO cw bM (pv 0)) (bE (bO cw (bO cw (bO cw (bO cw (pv 0) bM) (pv 0)) bM) (pv 0)) bG))))))))
   (dR (.of (cj (i:=3) sc_law_no_lines.nd rfl (Or.inl rfl) (bO dE (pv 3) (cB (bE (bO cw (pv 0) bM) (bE (bO cw (pv 0) bM) (bE (bO cw (bO cw (bO cw (bO cw (pv 0) bM) (pv 0)) bM) (pv 0)) bG)))))))
   (dR (.of (cj (i:=3) sc_law_no_lines.nd rfl (Or.inl rfl) (bO dE (pv 3) (cB (bE bM (bE bM bG))))))
   (dR (.of (cj (i:=3) sc_law_no_lines.nd rfl (Or.inl rfl) (bO dE (pv 3) (cB (bE (bO cw bM (pv 0)) (bE (bO cw bM (pv 0)) (bE (bO cw bM (pv 0)) (bE (bO cw bM (pv 0)) bG))))))))
   (dR (.of (cj (i:=3) sc_law_no_lines.nd rfl (Or.inl rfl) (bO dE (pv 3) (cB (bE bM (bE (bO cw (bO cw (bO cw bM (pv 0)) bM) (pv 0)) (bE (bO cw (bO cw (bO cw bM (bO wW bM bJ)) bM) (pv 0)) bG)))))))
   (dR (.of (cj (i:=3) sc_law_no_lines.nd rfl (Or.inl rfl) (bO dE (pv 3) (cB (bE bM (bE bM (bE (pv 0) (bE (bO cw (pv 0) bM) (bE (bO cw (bO cw (bO cw (pv 0) bM) (pv 0)) bM) (bE (bO cw bM (pv 0)) bG))))))))))
   (dR (.of (cj (i:=3) sc_law_no_lines.nd rfl (Or.inl rfl) (bO dE (pv 3) (cB (bE (bO cw bM (pv 0)) (bE (bO cw (bO cw (pv 0) bM) (pv 0)) (bE (bO cw (pv 0) bM) (bE (bO cw bM (pv 0)) bG))))))))
   (kY (.of (ce (bO dE (pv 3) (cB (bE (bO cw (pv 0) bM) (bE (bO cw (bO cw bM (pv 0)) bM) bG))))))))))))))))))) ?_
 refine⟨_,R,l,nm,R,hl,aW,hw,λf H1 mc nn s1=>?_⟩;have h2:=vY f mc;refine jD ?_;dsimp only;refine xG (i:=3) (xs:=[e ++ " may " ++ f,e ++ " needs " ++ f,f ++ " bans " ++ e,f ++ " may " ++ e]) (by repeat (first|with_reducible exact gl|with_reducible apply dz|with_reducible exact dj|with_reducible apply eD|with_reducible apply eO|with_reducible exact iR (by decide) (by decide) (by decide)|rfl|assumption|exact Hi rfl)) (by show 4<=1000;decide) λp Y=>?_;obtain⟨g,I⟩:∃g:List Str,g=[e ++ " may " ++ f,e ++ " needs " ++ f,f ++ " bans " ++ e,f ++ " may " ++ e]:=⟨_,rfl⟩
 have b4:eZ (gh e f) g:=by
  rw[I];exact all_cons (λ_ h=>xO h) (all_cons (λ_ h=>xP h) (all_cons (λ_ h=>xQ h) (all_cons (λ_ h=>xR h) gX)))
 have l4:g.length=4:=by rw[I];rfl
 rw[<-I];have fp:H p=none:=s1.free Y;have s2:=s1.trans (bL Y (.lst (bF g)));have G:(upd H1 p (.lst (bF g))) p=some (.lst (bF g)):=bI;generalize upd H1 p (.lst (bF g))=H2 at s2 G |-;clear I Y s1;show ou (jY K "list" oh (eG 3) (gm _ gN)) _ _ _;refine wD (i:=3) (p:=p) (x := "most 1 of 1 " ++ f) (n:=100) rfl G ⟨by rw[gU];show 12+_<=100;omega,(eD dj (eO (i:=2) (x:=f) rfl h2) (by exact Hi rfl)).2⟩ (by omega) ?_;have O:=Wd.Same.put (o:=.lst (bF (g++["most 1 of 1 " ++ f]))) s2 fp G;have D:(upd H2 p (.lst (bF (g++["most 1 of 1 " ++ f])))) p=some (.lst (bF (g++["most 1 of 1 " ++ f]))):=bI;have U:eZ (gh e f) (g++["most 1 of 1 " ++ f]):=kU b4 (all_cons (λ_ h=>xS h) gX);have Z:(g++[("most 1 of 1 " : Str)++f]).length=5:=by rw[GC,l4];rfl
 generalize upd H2 p (.lst (bF (g++["most 1 of 1 " ++ f])))=H3 at O D |-;generalize g++[("most 1 of 1 " : Str)++f]=S at D U Z;clear b4 l4 G s2;dsimp only;refine kZ (xf (K:=K) (xs:=["or", "-", "until", "To", "1"]) (dz dj (dz dj (dz dj (dz dj (dz dj gl))))) (by show 5<=1000;decide) λN B=>?_);have n5:p≠N:=cY D B;have s5:=O.trans (bL B (.lst (bF ["or", "-", "until", "To", "1"])));have f5:H N=none:=O.free B;refine kK (K:=K) (a:=N) (xs:=bF ["or", "-", "until", "To", "1"]) (λi r y=>(∃v,r=[some (.str e),some (.ref l),some (.str f),some (.ref p),v])/\Same H y/\y N=some (.lst (bF ["or", "-", "until", "To", "1"]))/\∃k,y p=some (.lst (bF k))/\k.length=5+i/\eZ (gh e f) k) ⟨⟨none,R⟩,s5,bI,S,by rw[bR n5];exact D,Z,U⟩ (λi r y _ z=>SqL.of z.2.2.1) ?_ ?_
 ·rintro i x r y j ⟨⟨v,rfl⟩,s6,X,k,M,ly,ax⟩;unfold bF at j;rw[GQ] at j
  cases m:(["or", "-", "until", "To", "1"]:List Str)[i]? with
  |none=>
   rw[m] at j
   cases j
  |some z=>
   rw[m] at j
   cases j
   have F:=GO m;have L:z.length<=8:=by
    have:∀z∈(["or", "-", "until", "To", "1"]:List Str),z.length<=8:=by decide +kernel
    exact this z F
   have hi:i<5:=(GU.mp m).1;refine wD (i:=3) (p:=p) (x:=e ++ " from 0 " ++ z ++ " 2 " ++ e) (n:=100) rfl M ⟨by simp only[gU];show _+8+_+3+_<=100;omega,(eD (eD (eD (eD (eO (i:=0) (x:=e) rfl C) dj (by exact Hi rfl)) (eO (i:=4) (x:=z) rfl L) (by exact Hi rfl)) dj (by exact Hi rfl)) (eO (i:=0) (x:=e) rfl C) (by exact Hi rfl)).2⟩ (by omega) ?_;exact⟨⟨_,R⟩,Wd.Same.put s6 fp M,by rw[bR (Ij n5)];exact X,k++[e ++ " from 0 " ++ z ++ " 2 " ++ e],bI,by rw[GC,ly];rfl,kU ax (all_cons (EI z F) gX)⟩
 rintro r y ⟨⟨v,rfl⟩,s6,X,g,a6,l6,b6⟩;have aE:g.length=10:=l6;clear l6 X D U Z s5 O B n5 f5;dsimp only;refine kZ (xf (K:=K) (xs:=jk) (dz dj (dz dj (dz dj (dz (iR (by decide) (by decide) (by decide)) (dz dj (dz dj gl)))))) (by decide +kernel) λp7 J=>?_);have s7:=s6.trans (bL J (.lst (bF jk)));have a7:=(bL J (.lst (bF jk))) _ _ a6;refine kK (K:=K) (a:=p7) (xs:=bF jk) (λi r t=>(∃v u,r=[some (.str e),some (.ref l),some (.str f),some (.ref u),v]/\∃k,t u=some (.lst (bF k))/\k.length=10+2*i/\eZ (gh e f) k)/\Same H t/\t p7=some (.lst (bF jk))) ⟨⟨_,p,R,g,a7,aE,b6⟩,s7,bI⟩ (λi r t _ z=>SqL.of z.2.2) ?_ ?_
 ·rintro i x r t j ⟨⟨v,u,rfl,k,M,ly,ay⟩,s8,e7⟩;unfold bF at j;rw[GQ] at j
  cases m:jk[i]? with
  |none=>
   rw[m] at j
   cases j
  |some z=>
   rw[m] at j
   cases j
   have F:=GO m;have L:=En z F;have hi:i<6:=(GU.mp m).1;obtain⟨g1,g2⟩:=Fc (one:=e) (new:=f) z F;have tl:iq _ [some (.str e),some (.ref l),some (.str f),some (.ref u),some (.str z)] [e ++ " from " ++ z ++ " to 2 " ++ e,e ++ " from 0 to " ++ z ++ " " ++ e]:=dz (eD (eD (eD (eD (eO (i:=0) (x:=e) rfl C) dj (by exact Hi rfl)) (eO (i:=4) (x:=z) rfl L) (by exact Hi rfl)) dj (by exact Hi rfl)) (eO (i:=0) (x:=e) rfl C) (by exact Hi rfl)) (dz (eD (eD (eD (eD (eO (i:=0) (x:=e) rfl C) dj (by exact Hi rfl)) (eO (i:=4) (x:=z) rfl L) (by exact Hi rfl)) dj (by exact Hi rfl)) (eO (i:=0) (x:=e) rfl C) (by exact Hi rfl)) gl);refine⟨_,R,tl t _ ?_⟩;refine⟨w2 _ _,λb hb=>?_⟩;have s9:=bL hb (.lst (bF [e ++ " from " ++ z ++ " to 2 " ++ e,e ++ " from 0 to " ++ z ++ " " ++ e]));refine⟨u,b,bF k,bF [e ++ " from " ++ z ++ " to 2 " ++ e,e ++ " from 0 to " ++ z ++ " " ++ e],R,R,s9 _ _ M,bI,bT (by rw[sb];show _+2<=1000;omega),λp9 bh=>?_⟩;have av:=s9.trans (bL bh (.lst (bF k++bF [e ++ " from " ++ z ++ " to 2 " ++ e,e ++ " from 0 to " ++ z ++ " " ++ e])));refine⟨⟨_,p9,R,k++[e ++ " from " ++ z ++ " to 2 " ++ e,e ++ " from 0 to " ++ z ++ " " ++ e],by rw[ed];exact bI,by rw[GC,ly];show 10+2*i+2=_;omega,kU ay (all_cons g1 (all_cons g2 gX))⟩,s8.trans av,av _ _ e7⟩
 rintro r t ⟨⟨v,u,rfl,be,aF,aH,aT⟩,s8,e7⟩;have aq:be.length=22:=aH;refine j9 (i:=3) (p:=u) (P:=gh e f) rfl aF aT (all_cons (λ_ h=>BK h) (all_cons (λ_ h=>A5 h) (all_cons (λ_ h=>BB h) (all_cons (λ_ h=>BE h) gX)))) (by repeat (first|with_reducible exact gl|with_reducible apply dz|with_reducible exact dj|with_reducible apply eD|with_reducible apply eO|with_reducible exact iR (by decide) (by decide) (by decide)|rfl|assumption|exact Hi rfl)) (by rw[aq];show 22+4<=1000;decide) λq0 G0 bg aJ t0 f0 bj az=>?_;have au:bg.length=26:=by rw[aJ,aq];rfl
 refine j9 (i:=3) (p:=q0) (P:=gh e f) rfl bj az (all_cons (λ_ h=>Bo h) (all_cons (λ_ h=>Br h) (all_cons (λ_ h=>Bp h) gX))) (by repeat (first|with_reducible exact gl|with_reducible apply dz|with_reducible exact dj|with_reducible apply eD|with_reducible apply eO|with_reducible exact iR (by decide) (by decide) (by decide)|rfl|assumption|exact Hi rfl)) (by rw[au];show 26+3<=1000;decide) λq1 G1 aP aQ t1 f1 aS aX=>?_;have ar:aP.length=29:=by rw[aQ,au];rfl
 refine j9 (i:=3) (p:=q1) (P:=gh e f) rfl aS aX (all_cons (λ_ h=>BH h) (all_cons (λ_ h=>BA h) gX)) (by repeat (first|with_reducible exact gl|with_reducible apply dz|with_reducible exact dj|with_reducible apply eD|with_reducible apply eO|with_reducible exact iR (by decide) (by decide) (by decide)|rfl|assumption|exact Hi rfl)) (by rw[ar];show 29+2<=1000;decide) λq2 G2 aO bb t2 f2 aN aC=>?_;have aj:aO.length=31:=by rw[bb,ar];rfl
 refine j9 (i:=3) (p:=q2) (P:=gh e f) rfl aN aC (all_cons (λ_ h=>BM h) (all_cons (λ_ h=>A3 h) (all_cons (λ_ h=>Bi h) (all_cons (λ_ h=>Bm h) gX)))) (by repeat (first|with_reducible exact gl|with_reducible apply dz|with_reducible exact dj|with_reducible apply eD|with_reducible apply eO|with_reducible exact iR (by decide) (by decide) (by decide)|rfl|assumption|exact Hi rfl)) (by rw[aj];show 31+4<=1000;decide) λq3 G3 aU aZ t3 f3 aw aM=>?_;have am:aU.length=35:=by rw[aZ,aj];rfl
 refine j9 (i:=3) (p:=q3) (P:=gh e f) rfl aw aM (all_cons (λ_ h=>A4 h) (all_cons (λ_ h=>BN h) (all_cons (λ_ h=>BR h) gX))) (by repeat (first|with_reducible exact gl|with_reducible apply dz|with_reducible exact dj|with_reducible apply eD|with_reducible apply eO|with_reducible exact iR (by decide) (by decide) (by decide)|rfl|assumption|exact Hi rfl)) (by rw[am];show 35+3<=1000;decide) λq4 G4 S bq t4 f4 B aK=>?_;have ak:S.length=38:=by rw[bq,am];rfl
 refine j9 (i:=3) (p:=q4) (P:=gh e f) rfl B aK (all_cons (λ_ h=>Bh h) (all_cons (λ_ h=>A7 h) (all_cons (λ_ h=>B0 h) (all_cons (λ_ h=>BD h) (all_cons (λ_ h=>Bf h) (all_cons (λ_ h=>BZ h) gX)))))) (by repeat (first|with_reducible exact gl|with_reducible apply dz|with_reducible exact dj|with_reducible apply eD|with_reducible apply eO|with_reducible exact iR (by decide) (by decide) (by decide)|rfl|assumption|exact Hi rfl)) (by rw[ak];show 38+6<=1000;decide) λq5 G5 aL bv t5 f5 ba aI=>?_;have ao:aL.length=44:=by rw[bv,ak];rfl
 refine j9 (i:=3) (p:=q5) (P:=gh e f) rfl ba aI (all_cons (λ_ h=>BW h) (all_cons (λ_ h=>BQ h) (all_cons (λ_ h=>BG h) (all_cons (λ_ h=>By h) gX)))) (by repeat (first|with_reducible exact gl|with_reducible apply dz|with_reducible exact dj|with_reducible apply eD|with_reducible apply eO|with_reducible exact iR (by decide) (by decide) (by decide)|rfl|assumption|exact Hi rfl)) (by rw[ao];show 44+4<=1000;decide) λq6 G6 bc aY t6 f6 J aA=>?_;have ai:bc.length=48:=by rw[aY,ao];rfl
 refine Gr (i:=3) (p:=q6) (P:=gh e f) rfl J aA (all_cons (λ_ h=>Bl h) (all_cons (λ_ h=>Bs h) gX)) (by repeat (first|with_reducible exact gl|with_reducible apply dz|with_reducible exact dj|with_reducible apply eD|with_reducible apply eO|with_reducible exact iR (by decide) (by decide) (by decide)|rfl|assumption|exact Hi rfl)) (by rw[ai];show 48+2<=1000;decide) λq7 G7 aR aV t7 f7 aD aG=>?_;exact q f aR q7 _ mc nn ((((((((s8.trans t0).trans t1).trans t2).trans t3).trans t4).trans t5).trans t6).trans t7) aD (by rw[aV,ai];rfl) aG
theorem Cq(T:Txt K mg a d):cC P w K mg base cK 2 a.f_law_no_wood d.f_law_no_wood ["_law_lines", "_law_names_here", "_law_cross_here", "_law_way"] EU:=by
 have aa:=tQ (P:=P) (w:=w) (base:=base) T;refine T.K_law_no_wood.ok sc_law_no_wood (λvs H Q E h=>?_) (λni A aB s H vs Q E hr h=>?_)
 ·obtain⟨y,F,f,L,C,r,rfl,_⟩:=h
  rfl
 obtain⟨y,F,f,L,C,r,rfl,D,G,o,w0,w9,q⟩:=h;have u:∀c:List Str,(bF c).length=c.length:=λc=>by rw[bF,Gz]
 have am:(2:Int)^62=4611686018427387904:=by decide
 have N:=o.nm;have n9:=N.few;have n1:0<f.length:=Hx.mpr N.ne;have fb:=o.fewb;have fc:=o.fewc;have S:=fQ (ns:=f) (L:=L) (C:=C);have I:∀ls:List (List Str),(bV ls).length=ls.length:=λls=>by rw[bV,Gz]
 have B:∀k,(bK f k).length<=8:=ie (λz hz=>fH (N.name z hz));refine⟨_,(bQ (cj (i:=4) sc_law_no_wood.nd rfl (Or.inr rfl) (bS (cD (K:=K)) (pv 1) bJ (λ_ _=>rfl)))
   (bQ (cj (i:=5) sc_law_no_wood.nd rfl (Or.inl rfl) (bS (cD (K:=K)) (pv 1) (my mq bJ) (λ_ _=>rfl)))
   (bQ (cj (i:=6) sc_law_no_wood.nd rfl (Or.inl rfl) (bO jg (cA (da (K:=K)) rfl T.m_len Hg (bE (pv 0) bG)) (pv 2)))
   (bQ (cg (cm cP (pv 3) bJ (cf _)) (bP (ce (bO dE (pv 0) (cB (bE (bO cw (bO cw (pv 4) bM) (pv 4)) bG))))) cu)
   (bQ (cg (cm cP (pv 3) bJ (cf _)) (bP (ce (bO dE (pv 0) (hZ (N':=["_law_k", "_law_one"]) (n:=1) (kp:=[4]) rfl (iL rfl T.m_range (bE (bO jg bJ (pv 2)) bG)) rfl rfl rfl (λ_ _ _ _ _=>(cG (i:=0) (GJ rfl) rfl (Or.inl rfl))) (λ_ _ _ _ _=>fA) (λ_ _ _ _ _=>(bO cw bM (pv 1))))))) cu)
   (bQ (cg (cm cP (pv 3) bJ (cf _)) (bP (ce (cB (bE bM (bE bM bG))))) cu)
   (bQ (cg (cm cP (pv 3) bJ (cf _)) (bP (ce (bO dE (cB (bE (bO cw (bO cw (bS (cD (K:=K)) (pv 0) bJ (λ_ _=>rfl)) bM) (bY aa hr.lv rfl T.K_law_fresh (bE (pv 1) bG))) bG)) (dX dZ (pv 0) (dJ bJ) eK)))) cu)
   (bQ (cg (PW.pt (iD (cm cP (pv 3) bJ (cf _)) (iC (cm gq (cA (da (K:=K)) rfl T.m_len Hg (bE (pv 1) bG)) bJ (cf _))))) (bP (ce (cB (bE (bS (cD (K:=K)) (pv 0) bJ (λ_ _=>rfl)) (bE (bO cw (bO cw (pv 4) bM) (cM (K:=K) Hf Hz HA (fK (K:=K)) bM (bE (dX dZ (pv 1) (dJ bJ) eK) bG))) (bE (bO cw (bO cw (bS (cD (K:=K)) (pv 1) bJ (λ_ _=>rfl)) bM) (bS (cD (K:=K)) (pv 1) bJ (λ_ _=>rfl))) bG)))))) cu)
   (bQ (cg (cm cP (pv 3) bJ (cf _)) (bP (ce (bO dE (pv 0) (cB (bE (bO cw (bO cw (pv 5) bM) (pv 5)) bG))))) cu)
   (bQ (cj (i:=7) sc_law_no_wood.nd rfl (Or.inl rfl) (bS (cD (K:=K)) (cB (bE bM (bE bM (bE bM (bE bM bG))))) (bO jg (pv 3) bJ) (λ_ _=>rfl)))
   (bP (ce (bO dE (bO dE (dX dZ (pv 0) eK (dJ (pv 6))) (cB (bE (cM (K:=K) Hf Hz HA (fK (K:=K)) bM (bE (cB (bE (pv 4) (bE (pv 7) (bE (pv 5) bG)))) bG)) bG))) (dX dZ (pv 0) (dJ (pv 6)) eK)))))))))))))),?_⟩
 refine⟨_,R,F,_,_,_,R,R,SqL.of G,cS (j:=0) (fI n1),?_⟩;refine⟨_,R,1,R,F,_,_,_,R,R,SqL.of G,y8 N.ne,?_⟩;refine⟨_,R,y,_,R,.inl (SqL.of D),_,R,_,_,R,R,?_⟩;rw[u,I,S];have ea:V.int (((1+L.length+C.length:Nat):Int)-(C.length:Int))=V.int ((1+L.length:Nat):Int):=ID V.int (by omega);refine⟨_,R,R,_,R,?_⟩;refine cx (λc=>?_) (λc0=>?_)
 ·refine rE (i:=0) (p:=y) (xs:=[bK f 0 ++ " needs " ++ bK f 0]) rfl D (dz (eD (eD (eO (i:=4) (x:=bK f 0) rfl (B 0)) dj (by exact Hi rfl)) (eO (i:=4) (x:=bK f 0) rfl (B 0)) (by exact Hi rfl)) gl) (by rw[I,S];show _+1<=1000;omega) λl H' s' g=>?_;rw[oS _ _ "needs" " needs " (by decide +kernel),<-kL] at g;exact q _ f l H' s' g (ya o)
 refine⟨_,R,R,_,R,?_⟩;refine cx (λc=>?_) (λc1=>?_)
 ·refine⟨_,R,_,R,_,_,R,R,_,R,by rw[am];omega,by rw[am];omega,?_⟩;rw[show((9:Int)-(C.length:Int)).toNat=9-C.length by omega];refine kF (k:=9-C.length) (λi ys σ U=>(∃v,σ=[v,some (.str (bK f 0))])/\U=H/\ys=bF (List.replicate i ("most 9 of 1 " ++ bK f 0))) ⟨⟨none,R⟩,R,R⟩ (λi ys σ U hi pv=>?_) (λi ys σ U hi pv=>?_) (λys σ U pv cl aA=>?_)
  ·obtain⟨_,_,rfl⟩:=pv;rw[u,Ix];exact bT (by omega)
  ·obtain⟨⟨v,rfl⟩,rfl,rfl⟩:=pv;have:=B 0;refine⟨_,R,_,_,R,R,bT (by show 12+_<=1000;omega),⟨_,R⟩,R,?_⟩;rw[List.replicate_succ',ed]
   rfl
  ·obtain⟨_,rfl,rfl⟩:=pv;have m:=bL aA (.lst (bF (List.replicate (9-C.length) ("most 9 of 1 " ++ bK f 0))));refine⟨y,cl,_,_,R,R,m _ _ D,bI,bT (by rw[u,u,I,S,Ix];omega),λl g=>?_⟩;have e:bV (bU f L C)++List.replicate (9-C.length) ("most 9 of 1 " ++ bK f 0)=bV (bU f L C++List.replicate (9-C.length) (["most", "9", "of", "1",bK f 0]:List Str)):=by
    unfold bV;rw[GX,List.map_replicate,Gd]
   rw[<-ed,e];exact q _ f l _ (m.trans (bL g _)) bI (yb o)
 refine⟨_,R,R,_,R,?_⟩;refine cx (λc=>?_) (λc2=>?_)
 ·refine⟨bT (by show 2<=1000;decide),λl g=>?_⟩;exact q _ ten l _ (bL g _) (by rw[FQ];exact bI) yc
 refine⟨_,R,R,_,R,?_⟩;refine cx (λc=>?_) (λc3=>?_)
 ·have fl:=Ej N;refine⟨_,R,y,_,_,_,R,R,SqL.of D,cS (j:=0) rfl,_,_,R,R,bT (by show _+1<=1000;omega),_,R,F,f,R,G,by omega,.inl (by omega),λt H1 mc nn m=>?_⟩;have nl:=vY t mc;refine⟨_,_,R,R,bT (by rw[gU];show _+1+_<=1000;omega),Ow.w1 _,λb hb=>?_⟩;have ak:=bL hb (.lst (bF [Str.join " " ((["ware"]:List Str)++f) ++ " " ++ t]));have O:=m.trans ak;refine⟨_,R,_,R,y,_,R,SqL.of (O _ _ D),λc hc=>?_⟩;rw[show dS (bF (bV (bU f L C))) (some 1) none=bF ((bV (bU f L C)).drop 1) from(jF _ 1).trans (kD _ 1)];have X:=bL hc (.lst (bF ((bV (bU f L C)).drop 1)));have Z:=O.trans X;refine⟨b,c,bF [Str.join " " ((["ware"]:List Str)++f) ++ " " ++ t],bF ((bV (bU f L C)).drop 1),R,R,X _ _ bI,bI,bT (by rw[u,u,Hd,I,S];show 1+_<=1000;omega),λl g=>?_⟩;refine q ((((("ware" : Str)::f)++[t])::(bU f L C).drop 1)) (f++[t]) l _ (Z.trans (bL g _)) ?_ (yd o mc nn);rw[bI,<-ed,D0];unfold bV;rw[HD,Jb]
  rfl
 refine⟨_,R,R,_,R,?_⟩;refine cx (λc8=>?_) (λn8=>?_)
 ·refine⟨_,R,F,_,R,.inl (SqL.of G),_,_,R,R,_,R,?_⟩;refine cx (λg2=>?_) (λg2=>?_)
  ·have m2:2<f.length:=by
    have:=GJ g2;rw[u] at this;omega
   have nd:f.drop 2≠[]:=λz=>by
    have:=ID List.length z;rw[Hd] at this;simp at this;omega
   have dl:∀z∈f.drop 2,z.length<=8:=λz hz=>fH (N.name z (HL hz));have js:=gD dl;have jj:=Ic (" " : Str) (f.drop 2);rw[Hd] at js jj;rw[show((" " : Str)).length=1 from rfl] at jj;have h0:=B 0;have h1:=B 1;have h2:=B 2;refine⟨_,R,y,_,_,_,R,R,SqL.of D,cS (j:=0) rfl,_,R,_,_,R,R,bT (by show _+5<=1000;omega),R,_,R,_,R,F,_,R,SqL.of G,λb hb=>?_⟩;rw[show dS (bF f) (some 2) none=bF (f.drop 2) from(jF _ 2).trans (kD _ 2)];have m:=bL hb (.lst (bF (f.drop 2)));refine⟨" ",b,f.drop 2,R,R,SqL.of bI,by rw[Hd,show((" " : Str)).length=1 from rfl];omega,_,_,R,R,bT (by rw[gU];show _+5+_<=1000;omega),_,R,F,_,_,_,R,R,SqL.of (m _ _ G),cS (j:=2) (fI m2),_,_,R,R,bT (by show _+5<=1000;omega),_,R,F,_,_,_,R,R,SqL.of (m _ _ G),cS (j:=1) (fI (by omega)),_,_,R,R,bT (by rw[gU];show _+5+_<=1000;omega),bT (by show 3<=1000;decide),λl g=>?_⟩;refine q _ f l _ (m.trans (bL g _)) ?_ (BV N m2);rw[bI];show some (HO.lst (bF [_,_,_]))=some (HO.lst (bF [_,_,_]));rw[FH nd,oS _ _ "may" " may " (by decide +kernel)]
   rfl
  ·refine⟨_,R,R,_,R,?_⟩;refine mX c8 ?_;refine rE (i:=0) (p:=y) (xs:=[bK f (f.length-1) ++ " bans " ++ bK f (f.length-1)]) rfl D (dz (eD (eD (eO (i:=5) (x:=bK f (f.length-1)) rfl (B _)) dj (by exact Hi rfl)) (eO (i:=5) (x:=bK f (f.length-1)) rfl (B _)) (by exact Hi rfl)) gl) (by rw[I,S];show _+1<=1000;omega) λl H' s' g=>?_;rw[oS _ _ "bans" " bans " (by decide +kernel),<-kL] at g;exact q _ f l H' s' g (ye o (by omega))
 ·refine cX ?_;refine⟨_,R,R,_,R,?_⟩;refine rZ (by simpa using n8) ?_;have ax:r=4\/r=5\/r=6\/r=7:=by
   have d0:r≠0:=λz=>c0 (GF (by rw[z]));have d1:r≠1:=λz=>c1 (GF (by rw[z]));have d2:r≠2:=λz=>c2 (GF (by rw[z]));have d3:r≠3:=λz=>c3 (GF (by rw[z]));have d8:r≠8:=λz=>n8 (GF (by rw[z]));omega
  obtain⟨J,ar,wl,M,ej,nw⟩:∃J:Str,eJ [V.str "must",V.str "from 9 to 1",V.str "from 0 to 0",V.str "from -1 to 1"] (r-4)=some (.str J)/\J.length<=12/\∃M,Str.join " " [bK f 0,J,bK f (f.length-1)]=Str.join " " M/\NoWoodL (dF f L++[M]++C.map (cy f)) f:=by
   rcases ax with e|e|e|e<;>rw[e]
   ·exact⟨"must",R,by decide,_,R,zb o⟩
   ·exact⟨"from 9 to 1",R,by decide,_,qN _ _ "9" "1" _ (by decide +kernel),AB o⟩
   ·exact⟨"from 0 to 0",R,by decide,_,qN _ _ "0" "0" _ (by decide +kernel),Ba o⟩
   ·exact⟨"from -1 to 1",R,by decide,_,qN _ _ "-1" "1" _ (by decide +kernel),AD o⟩
  have h0:=B 0;have hL:=B (f.length-1);obtain⟨k1,k2⟩:=El f L C;have lB:(bV (dF f L)).length=1+L.length:=by rw[I,dF,GN,Gz];omega
  have lC:(bV (C.map (cy f))).length=C.length:=by rw[I,Gz]
  refine⟨bT (by show 4<=1000;decide),λp hp=>?_⟩;have m:=bL hp (.lst [V.str "must",V.str "from 9 to 1",V.str "from 0 to 0",V.str "from -1 to 1"]);refine⟨_,R,_,_,R,R,p,_,_,_,R,R,SqL.of bI,ar,?_⟩;have aq:=m _ _ D;generalize upd H p (.lst [V.str "must",V.str "from 9 to 1",V.str "from 0 to 0",V.str "from -1 to 1"])=H1 at m aq |-;refine⟨_,R,_,R,((1+L.length:Nat):Int),ea,y,_,R,SqL.of aq,λY av=>?_⟩;rw[show dS (bF (bV (bU f L C))) none (some ((1+L.length:Nat):Int))=bF (bV (dF f L)) from by rw[vR,<-k1];unfold bF;rw[<-II]];have ak:=bL av (.lst (bF (bV (dF f L))));have O:=m.trans ak;have a2:(upd H1 Y (.lst (bF (bV (dF f L))))) Y=some (.lst (bF (bV (dF f L)))):=bI;generalize upd H1 Y (.lst (bF (bV (dF f L))))=H2 at O a2 |-;refine⟨R,_,R,_,R,_,R,bT (by show 3<=1000;decide),λb2 au=>?_⟩;have X:=bL au (.lst (bF [bK f 0,J,bK f (f.length-1)]));refine⟨" ",b2,[bK f 0,J,bK f (f.length-1)],R,R,SqL.of bI,by show((bK f 0).length+(J.length+((bK f (f.length-1)).length+0)))+3*1<=1000000;omega,Ow.w1 _,λb3 ay=>?_⟩;rw[ej];have Z:=X.trans (bL ay (.lst (bF [Str.join " " M])));refine⟨Y,b3,bF (bV (dF f L)),bF [Str.join " " M],R,R,Z _ _ a2,bI,bT (by rw[u,u,lB];show _+1<=1000;omega),λb4 aw=>?_⟩;rw[<-ed,<-kL];have s4:=Z.trans (bL aw (.lst (bF (bV (dF f L++[M])))));refine⟨_,R,_,R,((1+L.length:Nat):Int),ea,y,_,R,SqL.of (s4 _ _ (O _ _ D)),λb5 az=>?_⟩;rw[show dS (bF (bV (bU f L C))) (some ((1+L.length:Nat):Int)) none=bF (bV (C.map (cy f))) from by rw[jF,kD,k2]];have ao:=bL az (.lst (bF (bV (C.map (cy f)))));refine⟨b4,b5,bF (bV (dF f L++[M])),bF (bV (C.map (cy f))),R,R,ao _ _ bI,bI,bT (by rw[u,u,lC,kL,GC,lB];show _+1+_<=1000;omega),λl g=>?_⟩;refine q _ f l _ (O.trans (s4.trans (ao.trans (bL g _)))) ?_ nw;rw[bI,<-ed];unfold bV;rw[<-GX]
theorem Cc(T:Txt K mg a d):cC P w K mg base cK 1 a.f_law_from_line d.f_law_from_line ["_law_names_here", "_law_bough_here"] DL:=by
 refine T.K_law_from_line.ok sc_law_from_line (λvs H Q E h=>?_) (λaB A B s H vs Q E hr h=>?_)
 ·obtain⟨y,v,e,u,lo,f,b,rfl,_⟩:=h
  rfl
 obtain⟨y,v,e,u,lo,f,b,rfl,D,hd,M,ul,lt,J,L,k9,q⟩:=h;have C:∀c:List Str,(bF c).length=c.length:=λc=>by rw[bF,Gz]
 obtain⟨pb,l,rfl,aj,f1,g1,rfl,rfl,f2,g2,rfl,rfl,f3,g3,rfl,rfl,f4,g4,rfl,⟨N,zk,rfl,F,ai⟩,rfl⟩:=hd;have Y:zk=cq b:=n6 ai;subst Y;refine⟨_,(bQ (rX (pv 1) (i3 (K:=K) (n:=4) rfl (eU (cG (i:=2) sc_law_from_line.nd rfl (Or.inl rfl)) (eU (cG (i:=3) sc_law_from_line.nd rfl (Or.inl rfl)) (eU (cG (i:=4) sc_law_from_line.nd rfl (Or.inl rfl)) (eU (cG (i:=5) sc_law_from_line.nd rfl (Or.inl rfl)) jc))))))
   (bQ (cj (i:=6) sc_law_from_line.nd rfl (Or.inl rfl) (bO dE (cB (bE (bS (cD (K:=K)) (pv 0) (pv 2) (λ_ _=>rfl)) (bE bM (bE (dW jz rfl T.m_str HY (bE (pv 3) bG)) (bE bM (bE (dW jz rfl T.m_str HY (bE (pv 4) bG)) bG)))))) (hZ (N':=["_law_k", "_law_names_here"]) (n:=1) (kp:=[0]) rfl (jW (K:=K) (pv 5)) rfl rfl rfl (λ_ _ _ _ _=>(cG (i:=0) (GJ rfl) rfl (Or.inl rfl))) (λ_ _ _ _ _=>fA) (λ_ _ _ _ _=>(bS (cD (K:=K)) (pv 1) (pv 0) (λ_ _=>rfl))))))
   (bP (ce (cM (K:=K) Hf Hz HA (fK (K:=K)) bM (bE (pv 6) bG)))))),?_⟩
 refine⟨_,R,pb,_,R,bW aj,R,_,_,R,_,_,R,_,_,R,_,_,R,R,?_⟩;refine⟨_,R,_,R,y,_,_,_,R,R,SqL.of D,cS (fI ul),_,R,lo,R,nJ J,_,R,f,R,nJ L,bT (by show 5<=1000;decide),λp hp=>?_⟩;have o:=bL hp (.lst (bF ([bK e u, "from",bX lo, "to",bX f]:List Str)));have G:(upd H p (.lst (bF ([bK e u, "from",bX lo, "to",bX f]:List Str)))) p=_:=bI;show kq 1 [0] _ _ _ _ _ (upd H p (.lst (bF ([bK e u, "from",bX lo, "to",bX f]:List Str)))) _;generalize upd H p (.lst (bF ([bK e u, "from",bX lo, "to",bX f]:List Str)))=S at o G |-;refine⟨_,R,N,R,⟨_,bW (o _ _ F)⟩,?_⟩;refine rO (K:=K) (a:=N) (xs:=cq b) (λj l r m=>(∃v,r=[v,some (.ref y)])/\m=S/\l=bF ((b.take j).map (bK e))) ⟨⟨none,R⟩,R,R⟩ (λj l r m hj pv=>?_) (λj l r m hj pv=>?_) (λj x l r m g pv=>?_) (λl r m pv U Z=>?_)
 ·obtain⟨_,_,rfl⟩:=pv;rw[C,Gz,G8];exact bT (by omega)
 ·obtain⟨_,rfl,_⟩:=pv;exact bW (o _ _ F)
 ·obtain⟨⟨v,rfl⟩,rfl,rfl⟩:=pv;unfold cq at g;rw[GQ] at g
  cases t:b[j]? with
  |none=>
   rw[t] at g
   cases g
  |some k=>
   rw[t] at g
   cases g
   refine⟨_,R,_,R,y,_,_,_,R,R,SqL.of (o _ _ D),cS (fI (lt k (GO t))),⟨_,R⟩,R,?_⟩;rw[HQ,t,GX,ed]
   rfl
 ·obtain⟨_,rfl,rfl⟩:=pv;rw[show(cq b).length=b.length from by rw[cq,Gz],Hy];have O:=bL Z (.lst (bF (b.map (bK e))));refine⟨p,U,_,_,R,R,O _ _ G,bI,bT (by rw[C,C,Gz];show 5+_<=1000;omega),λX ak=>?_⟩;rw[<-ed];have wl:∀z∈hX e u lo f b,z.length<=61:=λz I=>by
   simp only[hX,GL,GI,Hs,Iw,Hc] at I;rcases I with(rfl|rfl|rfl|rfl|rfl)|⟨k,_,rfl⟩
   ·exact Hm (ie M u) (by decide)
   ·decide
   ·exact me J
   ·decide
   ·exact me L
   ·exact Hm (ie M k) (by decide)
  have sl:=gD wl;have fl:(hX e u lo f b).length=5+b.length:=by
   unfold hX;rw[GC,Gz]
   rfl
  refine⟨R,_,R, " ",X,hX e u lo f b,R,R,SqL.of bI,by rw[show((" " : Str)).length=1 from rfl];omega,?_⟩;exact q _ (o.trans (O.trans (bL ak _)))
theorem B5(T:Txt K mg a d):cC P w K mg base cK 1 a.f_law_turned_line d.f_law_turned_line ["_law_line"] Gj:=by
 refine T.K_law_turned_line.ok sc_law_turned_line (λM H Q E h=>?_) (λG A o s H M Q E N h=>?_)
 ·obtain⟨b,rfl,_⟩:=h
  rfl
 obtain⟨b,rfl,y,F,I,B,q⟩:=h;have S:∀c:List Str,(bF c).length=c.length:=λc=>by rw[bF,Gz]
 have u:((" " : Str)).length=1:=rfl;have L:=Ic (" " : Str) b;have O:=gD B;rw[u] at L;have e:Txt.split (Str.join " " b) " " = b:=ku (c:=32) (λz=>by rw[z] at y;exact absurd y (by decide)) I;have C:(eQ b).length<=100/\∀z∈eQ b,z.length<=100:=Fm F B;have D:=gD C.2;have x:=C.1;refine⟨_,(bQ (cj (i:=1) sc_law_turned_line.nd rfl (Or.inl rfl) (cM (K:=K) Hf Ia Ib iw (pv 0) (bE bM bG)))
   (bQ (cg (cm cP (bS (cD (K:=K)) (pv 1) bJ (λ_ _=>rfl)) bM (cf _)) (bP (ce (cM (K:=K) Hf Hz HA (fK (K:=K)) bM (bE (bO dE (bO dE (bO dE (dX dZ (pv 1) eK (dJ bJ)) (dX dZ (pv 1) (dJ bJ) (dJ bJ))) (dX dZ (pv 1) (dJ bJ) (dJ bJ))) (dX dZ (pv 1) (dJ bJ) eK)) bG)))) cu)
   (bP (ce (cM (K:=K) Hf Hz HA (fK (K:=K)) bM (bE (bO dE (dX dZ (pv 1) eK (dJ (my mq bJ))) (cB (bE (bS (cD (K:=K)) (pv 1) (my mq bJ) (λ_ _=>rfl)) (bE (bS (cD (K:=K)) (pv 1) (my mq bJ) (λ_ _=>rfl)) bG)))) bG)))))),?_⟩
 refine⟨_,R,R,_,_,R,R,R,by omega,λp J=>?_⟩;rw[e];have r:=bL J (.lst (bF b));have f:(upd H p (.lst (bF b))) p=some (.lst (bF b)):=bI;show iU _ _ _ _ (upd H p (.lst (bF b)));generalize upd H p (.lst (bF b))=g at r f |-;refine⟨_,R,p,_,_,_,R,R,SqL.of f,cS (j:=0) (by
  show(bF b)[0]?=some (.str (b.getD 0 ""));unfold bF;rw[GQ,GG (by omega),He,GG (by omega)]
  rfl),R,_,R,?_⟩
 refine cx (λc=>?_) (λc=>?_)
 ·have v:eQ b=b.take 3++(b.drop 5).take 2++(b.drop 3).take 2++b.drop 7:=by
   unfold eQ;rw[Hl (by have:=GJ c;injection this)]
  rw[v] at x D q;refine wJ (H0:=g) (tw_cat (tw_cat (tw_cat (tw_upto (n:=3) rfl f λ_ _ q=>q) (tw_mid (n:=5) (m:=7) rfl f (λ_ _ q=>q) (λ_ _ q=>q) (by decide)) ?_) (tw_mid (n:=3) (m:=5) rfl f (λ_ _ q=>q) (λ_ _ q=>q) (by decide)) ?_) (tw_from (n:=7) rfl f λ_ _ q=>q) ?_) ?_ g _ (Same.refl _) λl t=>q l (r.trans t)
  ·rw[G8,G8];omega
  ·rw[GC,G8,G8,G8];omega
  ·rw[GC,GC,G8,G8,G8,Hd,Hd,Hd];omega
  ·rw[u,show 7-5=2 from rfl];omega
 ·have v:eQ b=b.take (b.length-2)++[b.getD (b.length-1) "",b.getD (b.length-2) ""]:=by
   unfold eQ;rw[GY (λz=>c (GF (by rw[z])))]
  rw[v] at x D q;refine wJ (H0:=g) (tw_cat (tw_less2 rfl f λ_ _ q=>⟨_,R,q⟩) (tw_two (sL rfl f (λ_ _ q=>⟨_,R,q⟩) (wE (k:=1) (by decide) (by omega))) (sL rfl f (λ_ _ q=>⟨_,R,q⟩) (wE (k:=2) (by decide) (by omega)))) ?_) ?_ g _ (Same.refl _) λl t=>q l (r.trans t)
  ·rw[G8];show _+2<=1000;omega
  ·rw[u];omega
theorem Ce(T:Txt K mg a d):cC P w K mg base cK 2 a.f_law_bent_lines d.f_law_bent_lines ["_law_state", "_law_lines", "_law_names_here", "_law_wood_here"] (zY K):=by
 have ae:=Cc (P:=P) (w:=w) (base:=base) T;have aa:=B5 (P:=P) (w:=w) (base:=base) T;have af:=jA (P:=P) (w:=w) (base:=base) T;refine T.K_law_bent_lines.ok sc_law_bent_lines (λvs H Q E h=>?_) (λyy A qq s H vs Q E hr h=>?_)
 ·obtain⟨o,sp,X,ln,Z,tb,tc,ns,k,f,L,C,rfl,_⟩:=h
  rfl
 obtain⟨o,sp,X,ln,Z,tb,tc,ns,k,f,L,C,rfl,pn,U,k1,ag,aC,WP,I,q⟩:=h;have sb:∀c:List Str,(bF c).length=c.length:=λc=>by rw[bF,Gz]
 have jl:∀ls:List (List Str),(bV ls).length=ls.length:=λls=>by rw[bV,Gz]
 have aV:=fQ (ns:=f) (L:=L) (C:=C);have ah:(2:Int)^62=4611686018427387904:=by decide
 have N:=I.nm;have fb:=I.fewb;have fc:=I.fewc;obtain⟨zs,aL,aE⟩:=WP.bs;obtain⟨ys,aq,aF⟩:=WP.cs;have lz:zs.length=L.length:=by rw[<-DnL.length aE,Gz,Gz]
 have ly:ys.length=C.length:=by rw[<-DnL.length aF,Gz]
 have aB:(bU f L C).length<=100:=by omega
 have tail:∃t,PSs (fq cK P w K mg base ["_law_state", "_law_lines", "_law_names_here", "_law_wood_here", "_law_boughs_here", "_law_worded", "_law_single", "_law_turned", "_law_k", "_law_some", "_law_words"] "_law_bent_lines" (cF lK) a.f_law_bent_lines yy A qq s H E).nox ((fZ lK).drop 10) t/\∀(H0 H1:Hp)(g:Addr)(v2 v3 v4 v5 v6 v7 v8 aD:Option V),Same H H0->H0 g=none->BI H0 g 100 H1->t { nx:=λ_ H'=>Q .non H',rt:=Q } [some (.ref o),some (.ref X),v2,v3,v4,v5,v6,v7,v8,some (.ref g),aD] H1:=by
  refine⟨_,(bQ (cg (cm cP (cA (da (K:=K)) rfl T.m_len Hg (bE (pv 9) bG)) bJ (cf _)) (bP (ce (bO dE (pv 1) (cB (bE bM bG))))) cu)
   (bP (ce (bS (cD (K:=K)) (pv 9) (bY af hr.lv rfl T.K_law_take (bE (pv 0) (bE (cA (da (K:=K)) rfl T.m_len Hg (bE (pv 9) bG)) bG))) (λ_ _=>rfl))))),λH0 H1 g v2 v3 v4 v5 v6 v7 v8 aD s0 f0 b=>?_⟩
  obtain⟨s1,rs,a1,l1,bs⟩:=b;have D:=s0.trans s1;refine⟨_,rfl,g,rs,rfl,.inl (SqL.of a1),rfl,_,rfl,?_⟩;refine cx (λc=>?_) (λc=>?_)
  ·refine rE (i:=1) (p:=X) (xs:=["most 0 of"]) rfl (D _ _ ag) (dz dj gl) (by rw[jl];show _+1<=1000;omega) λp' H' s' ay=>?_;have e:bV (bU f L C)++(["most 0 of"]:List Str)=bV (bU f L C++[(["most", "0", "of"]:List Str)]):=by
    rw[kL];congr 2
   rw[e] at ay;exact q _ p' k H' (Same.x (D.trans s')) ((D.trans s') _ _ pn.at_) (by omega) (by omega) ay (EV I)
  ·have r0:0<rs.length:=by
    rcases K8 rs.length with z|z
    ·exact absurd (GF (by rw[z];rfl)) c
    ·exact z
   have g2:=D _ _ pn.at_;refine⟨_,rfl,_,rfl,_,rfl,g,rs,rfl,.inl (SqL.of a1),o,sp,ns,_,k,rfl,pn.to (Same.x D) g2,U,by omega,by omega,λc c0 c1=>?_⟩;obtain⟨r,ls,nr,er,aj,aU⟩:=bs (rs[c.toNat]'(by omega)) (IH _);have np:g≠o:=λz=>by
    rw[z,s0 _ _ pn.at_] at f0
    cases f0
   have aO:r≠o:=λz=>by
    rw[z,g2] at aj;injection aj with aj;injection aj with aj;have:=ID (λl:List V=>l[0]?) aj
    cases el:bV ls with
    |nil=>
     rw[el] at this
     cases this
    |cons z0 _=>
     rw[el] at this;injection this with this
     cases this
   refine⟨g,rs,c,.ref r,rfl,rfl,SqL.of (by rw[bR np];exact a1),?_,?_⟩
   ·rw[show c=((c.toNat:Nat):Int) by omega];refine cS ?_;rw[GG (by omega),er]
   ·exact q ls r (k+1) _ ((Same.x D).trans (dD _)) bI (by omega) (by omega) (by rw[bR aO];exact aj) aU
 obtain⟨aX,aP,aA⟩:=tail;refine⟨_,(bQ (cj (i:=4) sc_law_bent_lines.nd rfl (Or.inr rfl) (dW tO rfl T.m_list IG (bE (bS (cO (K:=K)) (pv 3) bJ (λ_ _=>rfl)) bG)))
   (bQ (i7 (i:=5) sc_law_bent_lines.nd rfl rfl rfl (N':=["_law_k", "_law_lines"]) (n:=1) (kp:=[1]) rfl (iL rfl T.m_range (bE (cA (da (K:=K)) rfl T.m_len Hg (bE (pv 4) bG)) bG)) rfl rfl rfl (λ_ _ _ _ _=>(cG (i:=0) (GJ rfl) rfl (Or.inl rfl))) (λ_ _ _ _ _=>(mo (cm kh (bS (cD (K:=K)) (cM (K:=K) Hf Ia Ib iw (bS (cD (K:=K)) (pv 1) (bO eE (pv 0) bJ) (λ_ _=>rfl)) (bE bM bG)) bJ (λ_ _=>rfl)) bM (cf _)))) (λ_ _ _ _ _=>(pv 0)))
   (bQ (i7 (i:=6) sc_law_bent_lines.nd rfl rfl rfl (N':=["_law_k", "_law_boughs_here"]) (n:=1) (kp:=[4]) rfl (eR (K:=K) (pv 5)) rfl rfl rfl (λ_ _ _ _ _=>(cG (i:=0) (GJ rfl) rfl (Or.inl rfl))) (λ_ _ _ _ _=>(mo (PW.pt (iD (cm cP (cA (da (K:=K)) rfl T.m_len Hg (bE (bS (cO (K:=K)) (bS (cD (K:=K)) (pv 1) (pv 0) (λ_ _=>rfl)) bJ (λ_ _=>rfl)) bG)) bJ (cf _)) (iC (cm cP (bS (cO (K:=K)) (bS (cD (K:=K)) (pv 1) (pv 0) (λ_ _=>rfl)) bJ (λ_ _=>rfl)) bJ (cf _))))))) (λ_ _ _ _ _=>(pv 0)))
   (bQ (i7 (i:=7) sc_law_bent_lines.nd rfl rfl rfl (N':=["_law_k", "_law_boughs_here"]) (n:=1) (kp:=[4]) rfl (iL rfl T.m_range (bE (cA (da (K:=K)) rfl T.m_len Hg (bE (pv 4) bG)) bG)) rfl rfl rfl (λ_ _ _ _ _=>(cG (i:=0) (GJ rfl) rfl (Or.inl rfl))) (λ_ _ _ _ _=>(mo (cm gq (cA (da (K:=K)) rfl T.m_len Hg (bE (bS (cO (K:=K)) (bS (cD (K:=K)) (pv 1) (pv 0) (λ_ _=>rfl)) bJ (λ_ _=>rfl)) bG)) bJ (cf _)))) (λ_ _ _ _ _=>(pv 0)))
   (bQ (eV HU rfl (iL rfl T.m_range (bE (cA (da (K:=K)) rfl T.m_len Hg (bE (bS (cO (K:=K)) (pv 3) bJ (λ_ _=>rfl)) bG)) bG)) (cG (i:=8) sc_law_bent_lines.nd rfl (Or.inl rfl)) (bP (cg (PW.pt (iD (cm cP (bS (cO (K:=K)) (bS (cO (K:=K)) (bS (cO (K:=K)) (pv 3) bJ (λ_ _=>rfl)) (pv 8) (λ_ _=>rfl)) bJ (λ_ _=>rfl)) bM (cf _)) (iC (cm gq (cA (da (K:=K)) rfl T.m_len Hg (bE (bS (cO (K:=K)) (bS (cO (K:=K)) (bS (cO (K:=K)) (pv 3) bJ (λ_ _=>rfl)) (pv 8) (λ_ _=>rfl)) bJ (λ_ _=>rfl)) bG)) bJ (cf _))))) (bP (eA (cM (K:=K) Hn Ht Hu fG (pv 7) (bE (bO eE (cA (da (K:=K)) rfl T.m_len Hg (bE (pv 4) bG)) (pv 8)) bG)))) cu)))
   (bQ (cj (i:=9) sc_law_bent_lines.nd rfl (Or.inl rfl) (cB bG))
   (bQ (eV HU rfl (eR (K:=K) (pv 5)) (cG (i:=8) sc_law_bent_lines.nd rfl (Or.inl rfl)) (bP (eA (cM (K:=K) Hn Ht Hu fG (pv 9) (bE (bO dE (bO dE (dX dZ (pv 1) eK (dJ (bO eE (pv 8) bJ))) (cB (bE (bY ae hr.lv rfl T.K_law_from_line (bE (pv 2) (bE (bS (cD (K:=K)) (pv 4) (pv 8) (λ_ _=>rfl)) bG))) bG))) (dX dZ (pv 1) (dJ (bO eE (pv 8) bJ)) eK)) bG)))))
   (bQ (eV HU rfl (eR (K:=K) (pv 6)) (cG (i:=8) sc_law_bent_lines.nd rfl (Or.inl rfl)) (bQ (cj (i:=10) sc_law_bent_lines.nd rfl (Or.inl rfl) (cB (bE (bS (cD (K:=K)) (pv 2) (bS (cO (K:=K)) (bS (cD (K:=K)) (pv 4) (pv 8) (λ_ _=>rfl)) bJ (λ_ _=>rfl)) (λ_ _=>rfl)) (bE bM (bE (bS (cD (K:=K)) (pv 2) (bS (cO (K:=K)) (bS (cO (K:=K)) (bS (cD (K:=K)) (pv 4) (pv 8) (λ_ _=>rfl)) bJ (λ_ _=>rfl)) bJ (λ_ _=>rfl)) (λ_ _=>rfl)) bG)))))
   (bP (eA (cM (K:=K) Hn Ht Hu fG (pv 9) (bE (bO dE (bO dE (dX dZ (pv 1) eK (dJ (bO eE (pv 8) bJ))) (cB (bE (cM (K:=K) Hf Hz HA (fK (K:=K)) bM (bE (pv 10) bG)) bG))) (dX dZ (pv 1) (dJ (bO eE (pv 8) bJ)) eK)) bG))))))
   (bQ (eV HU rfl (eR (K:=K) (pv 7)) (cG (i:=8) sc_law_bent_lines.nd rfl (Or.inl rfl)) (bP (eA (cM (K:=K) Hn Ht Hu fG (pv 9) (bE (bO dE (bO dE (dX dZ (pv 1) eK (dJ (bO eE (pv 8) bJ))) (cB (bE (bY aa hr.lv rfl T.K_law_turned_line (bE (bS (cD (K:=K)) (pv 1) (bO eE (pv 8) bJ) (λ_ _=>rfl)) bG)) bG))) (dX dZ (pv 1) (dJ (bO eE (pv 8) bJ)) eK)) bG)))))
   (bQ (cg (cm gq (cA (da (K:=K)) rfl T.m_len Hg (bE (bS (cO (K:=K)) (pv 3) bJ (λ_ _=>rfl)) bG)) bJ (cf _)) (bP (eV HU rfl (iL rfl T.m_range (bE (cA (da (K:=K)) rfl T.m_len Hg (bE (pv 4) bG)) bG)) (cG (i:=8) sc_law_bent_lines.nd rfl (Or.inl rfl)) (bP (eA (cM (K:=K) Hn Ht Hu fG (pv 9) (bE (bO dE (bO dE (dX dZ (pv 1) eK (dJ (bO eE (pv 8) bJ))) (dX dZ (pv 1) (dJ (bO eE (pv 8) bJ)) eK)) (cB (bE (bS (cD (K:=K)) (pv 1) (bO eE (pv 8) bJ) (λ_ _=>rfl)) bG))) bG)))))) cu)
   aP)))))))))),?_⟩
 refine⟨_,rfl,Z,_,_,_,rfl,rfl,bW WP.at_,rfl,tb,zs,rfl,.inr (bW aL),λF aI=>?_⟩;have s1:=bL aI (.lst zs);have a1:(upd H F (.lst zs)) F=some (.lst zs):=bI;refine jD ?_;generalize upd H F (.lst zs)=H1 at s1 a1 |-;dsimp only;refine⟨_,rfl,F,zs,rfl,.inl (SqL.of a1),_,rfl,by rw[ah];omega,by rw[ah];omega,?_⟩;rw[lz,Iu];refine Ex (n:=L.length) (fL L) rfl (by omega) (λj m M D R r=>?_) (λM pw D ax=>?_)
 ·have B:L[j]?=some L[j]:=GG m;have lw:=qE (nm:=f) (C:=C) B;obtain⟨z,z1,z2⟩:=C1 (nm:=f) (u:=L[j].u) (lo:=L[j].lo.toNat) (hi:=L[j].hi.toNat) (ks:=L[j].ks);have ew:fL L j=!decide (V.str z=V.str "from"):=by
   unfold fL;rw[B];show decide (_≠_)=_;rw[z2];by_cases c:z = "from"
   ·rw[c]
    rfl
   ·rw[GF (by intro h;injection h with h;exact c h),GZ (by intro h;injection h with h;exact c h)]
    rfl
  generalize cE f L[j].u L[j].lo.toNat L[j].hi.toNat L[j].ks=bw at lw z1;obtain⟨w1,w2,w3⟩:=I.lines_ok _ (GO lw);have bl:=Ic (" " : Str) bw;have bs:=gD (b:=100) (ws:=bw) λz hz=>(w3 z hz).2.2;rw[show((" " : Str)).length=1 from rfl] at bl;refine⟨_,rfl,_,rfl,_,_,rfl,rfl,X,_,_,.str (Str.join " " bw),rfl,rfl,SqL.of (D _ _ (s1 _ _ ag)),cS (j:=j+1) (nY lw),rfl,_,_,rfl,rfl,rfl,by omega,λp hp=>?_⟩;have aR:Txt.split (Str.join " " bw) " " = bw:=ku (c:=32) w1 λz hz=>(w3 z hz).1.2;rw[aR];refine⟨p,_,_,_,rfl,rfl,SqL.of bI,cS (j:=1) (v:=.str z) (by rw[GQ,z1];rfl),rfl,_,rfl,?_⟩;rw[<-ew];exact r _ (D.trans (bL hp _))
 have s3:=s1.trans (D.trans (bL ax (.lst (cq ((List.range L.length).filter (fL L))))));have a3:=(D.trans (bL ax (.lst (cq ((List.range L.length).filter (fL L)))))) _ _ a1;have w3:(upd M pw (.lst (cq ((List.range L.length).filter (fL L))))) pw=some (.lst (cq ((List.range L.length).filter (fL L)))):=bI;refine jD ?_;generalize upd M pw (.lst (cq ((List.range L.length).filter (fL L))))=H3 at s3 a3 w3 |-;clear D ax a1 s1;dsimp only;have bt:∀H',Same H H'->∀{j:Nat} {b:Bg},L[j]?=some b->∃pb pk,zs[j]?=some (.ref pb)/\H' pb=some (.tup [.int (b.u:Int),.int b.lo,.int b.hi,.ref pk])/\H' pk=some (.tup (cq b.ks))/\Dn H' (Tie.bough b.u b.lo b.hi b.ks).toD (.ref pb):=λH' s' j b hb=>Fv (DnL.same s' _ _ aE) hb;refine⟨_,rfl,pw,rfl,⟨_,SqL.of w3⟩,?_⟩;refine yI (l:=(List.range L.length).filter (fL L)) (jf L) rfl w3 (Hm (Ie _ _) (by rw[IE];omega)) (λj m R r=>?_) (λps aw=>?_)
 ·have aQ:j<L.length:=Ih.mp (Ir.mp m).1;have B:L[j]?=some L[j]:=GG aQ;obtain⟨pb,pk,z1,z2,z3,_⟩:=bt _ s3 B;have es:jf L j=(decide (L[j].ks.length=1)&&decide (L[j].lo=1)):=by
   unfold jf;rw[B]
  refine⟨_,rfl,_,rfl,F,_,_,_,rfl,rfl,SqL.of a3,cS z1,pb,_,_,_,rfl,rfl,bW z2,rfl,pk,_,rfl,.inr (bW z3),rfl,_,rfl,?_⟩;have e1:decide (V.int ((cq L[j].ks).length:Int)=V.int 1)=decide (L[j].ks.length=1):=by
   rw[show(cq L[j].ks).length=L[j].ks.length from Gz _];exact rY _ 1
  dsimp only;rw[e1];refine cx (λc=>?_) (λc=>?_)
  ·refine⟨_,rfl,_,rfl,F,_,_,_,rfl,rfl,SqL.of a3,cS z1,pb,_,_,_,rfl,rfl,bW z2,rfl,rfl,_,rfl,?_⟩;rw[show decide (V.int L[j].lo=V.int 1)=jf L j from by
    rw[es,c,HV,ma];exact IA.mpr (by simp)]
   exact r
  ·rw[es,Ho.mpr c,HE] at r;exact r
 have lW:((List.range L.length).filter (fL L)).length<=9:=Hm (Ie _ _) (by rw[IE];exact fb);have lS:(((List.range L.length).filter (fL L)).filter (jf L)).length<=9:=Hm (Ie _ _) lW;have mW:∀j∈(List.range L.length).filter (fL L),j<L.length/\fL L j=true:=λj m=>⟨Ih.mp (Ir.mp m).1,(Ir.mp m).2⟩
 have mS:∀j∈((List.range L.length).filter (fL L)).filter (jf L),j<L.length/\jf L j=true:=λj m=>⟨(mW j (Ir.mp m).1).1,(Ir.mp m).2⟩
 generalize ((List.range L.length).filter (fL L)).filter (jf L)=ao at lS mS aw |-;generalize (List.range L.length).filter (fL L)=aT at lW mW w3 |-;have au:=bL aw (.lst (cq ao));have s4:=s3.trans au;have a4:=au _ _ a3;have w4:=au _ _ w3;have g4:(upd H3 ps (.lst (cq ao))) ps=some (.lst (cq ao)):=bI;refine jD ?_;generalize upd H3 ps (.lst (cq ao))=H4 at s4 a4 w4 g4 |-;clear au aw a3 w3 s3;dsimp only;refine⟨_,rfl,F,zs,rfl,.inl (SqL.of a4),_,rfl,by rw[ah];omega,by rw[ah];omega,?_⟩;rw[lz,Iu];refine FE (n:=L.length) (jP L) rfl (by omega) (λj m R r=>?_) (λO av=>?_)
 ·have B:L[j]?=some L[j]:=GG m;obtain⟨pb,pk,z1,z2,z3,_⟩:=bt _ s4 B;have em:jP L j=decide (1<L[j].ks.length):=by
   unfold jP;rw[B]
  refine⟨_,rfl,_,rfl,F,_,_,_,rfl,rfl,SqL.of a4,cS z1,pb,_,_,_,rfl,rfl,bW z2,rfl,pk,_,rfl,.inr (bW z3),_,_,rfl,rfl,_,rfl,?_⟩;rw[show decide ((1:Int)<((cq L[j].ks).length:Int))=jP L j from by
   rw[em,show(cq L[j].ks).length=L[j].ks.length from Gz _];exact decide_eq_decide.mpr (by omega)]
  exact r
 have lT:((List.range L.length).filter (jP L)).length<=9:=Hm (Ie _ _) (by rw[IE];exact fb);have mT:∀j∈(List.range L.length).filter (jP L),lZ f (bU f L C) j:=λj m=>by
  have h1:=Ih.mp (Ir.mp m).1;have h2:=(Ir.mp m).2;have B:L[j]?=some L[j]:=GG h1;unfold jP at h2;rw[B] at h2;exact Cz I B (GJ h2)
 generalize (List.range L.length).filter (jP L)=am at lT mT |-;refine jD ?_;have s5:=bL av (.lst (cq am));have a5:(upd H4 O (.lst (cq am))) O=some (.lst (cq am)):=bI;generalize upd H4 O (.lst (cq am))=H5 at s5 a5 |-;dsimp only;refine kZ ?_;refine⟨_,rfl,Z,_,_,_,rfl,rfl,bW (s5 _ _ (s4 _ _ WP.at_)),rfl,tc,ys,rfl,.inr (bW (s5 _ _ (s4 _ _ aq))),_,rfl,by rw[ah];omega,by rw[ah];omega,?_⟩;rw[ly,Iu];refine nE (n:=C.length) (λi σ H6=>(∃v8,σ=[some (.ref o),some (.ref X),some (.ref ln),some (.ref Z),some (.ref F),some (.ref pw),some (.ref ps),some (.ref O),v8,none,none])/\Same H4 H6/\∃J,H6 O=some (.lst (cq J))/\J.length<=9+i/\∀j∈J,lZ f (bU f L C) j) ⟨⟨none,rfl⟩,s5,am,a5,lT,mT⟩ ?_ ?_
 ·rintro i σ H6 hi ⟨⟨v8,rfl⟩,s6,J,b1,b2,b3⟩;have et:C[i]?=some C[i]:=GG hi;have ak:=s4.trans s6;obtain⟨p,x0,x1,x2,y1,y2,y3⟩:=FD (DnL.same ak _ _ aF) (λt ht=>I.cross ht) et;refine⟨_,rfl,Z,_,_,_,rfl,rfl,bW (ak _ _ WP.at_),rfl,_,rfl,tc,_,_,_,rfl,rfl,bW (ak _ _ aq),cS y1,p,_,_,_,rfl,rfl,bW y2,rfl,rfl,_,rfl,?_⟩;have ni:(∃v8,[some (V.ref o),some (.ref X),some (.ref ln),some (.ref Z),some (.ref F),some (.ref pw),some (.ref ps),some (.ref O),some (.int (i:Int)),none,none]=[some (V.ref o),some (.ref X),some (.ref ln),some (.ref Z),some (.ref F),some (.ref pw),some (.ref ps),some (.ref O),v8,none,none])/\Same H4 H6/\∃J,H6 O=some (.lst (cq J))/\J.length<=9+(i+1)/\∀j∈J,lZ f (bU f L C) j:=⟨⟨_,rfl⟩,s6,J,b1,by omega,b3⟩
  dsimp only;rcases y3 with⟨n0,_⟩|⟨rfl,top,pr,pp,qs,e1,rfl,e3,e4⟩
  ·refine rZ (GZ (λz=>by injection z with z;exact n0 z)) ?_;refine cX ?_;exact ni
  ·refine mX (GF rfl) ?_;refine⟨_,rfl,Z,_,_,_,rfl,rfl,bW (ak _ _ WP.at_),rfl,_,rfl,tc,_,_,_,rfl,rfl,bW (ak _ _ aq),cS y1,p,_,_,_,rfl,rfl,bW y2,rfl,pp,qs,rfl,.inr (bW e3),_,_,rfl,rfl,_,rfl,?_⟩;refine cx (λc=>?_) (λc=>?_)
   ·have c2:1<pr.length:=by
     have:=GJ c;rw[e4] at this;omega
    refine⟨_,rfl,.inl ⟨rfl,_,SqL.of b1⟩,_,rfl,F,zs,rfl,.inl (SqL.of (s6 _ _ a4)),_,rfl,_,_,rfl,rfl,O,cq J,_,rfl,rfl,b1,HJ (show(cq J).length<=1000 by rw[cq,Gz];omega) (by rw[HF];decide),⟨_,rfl⟩,Wd.Same.put s6 av b1,J++[L.length+i],?_,?_,?_⟩
    ·rw[bI,lz];show some (HO.lst (cq J++[V.int ((L.length:Int)+(i:Int))]))=_;unfold cq;rw[GX]
     rfl
    ·rw[GC];show _+1<=_;omega
    ·intro j m;rcases GL.mp m with z|z
     ·exact b3 j z
     ·rw[GE.mp z];exact CB I (by rw[et,e1]) c2
   ·exact ni
 rintro σ H6 ⟨⟨v8,rfl⟩,s6,J,b1,b2,b3⟩;have s7:=s4.trans s6;have a7:=s6 _ _ a4;have w7:=s6 _ _ w4;have g7:=s6 _ _ g4;clear s6 s4 a4 w4 g4 s5 a5 av mT lT;refine⟨Iv _,λg ai=>?_⟩;have b8:BI H6 g 0 (upd H6 g (.lst [])):=⟨bL ai _,[],bI,GW _,Bents.nil⟩
 refine jD ?_;generalize upd H6 g (.lst [])=H8 at b8 |-;dsimp only;refine kZ ?_;refine⟨_,rfl,pw,rfl,⟨_,SqL.of (b8.1 _ _ w7)⟩,?_⟩;refine q9 (S:=λY G=>[some (.ref o),some (.ref X),some (.ref ln),some (.ref Z),some (.ref F),some (.ref pw),some (.ref ps),some (.ref O),Y,some (.ref g),G]) (n:=0) (l:=aT) (λx Y G H Q q=>q) ⟨_,_,rfl⟩ w7 b8 (λj k G H1 D' m y nx=>?_) (λY G H1 y=>?_)
 ·have az:=(GU.mp m).1;obtain⟨kl,kw⟩:=mW k (GO m);have B:L[k]?=some L[k]:=GG kl;have ok:=I.okb _ (GO B);have fk:=ok.few;have n9:=N.few;have aW:=ok.hik;have aK:=ok.lohi;refine nV (i:=9) (pa:=g) rfl ai y (by omega) (tw_bent (i:=1) (k:=k) (ws:=hX f L[k].u L[k].lo.toNat L[k].hi.toNat L[k].ks) rfl ((s7.trans y.1) _ _ ag) (λH Q q=>⟨_,rfl,_,_,rfl,rfl,q⟩) (λH Q q=>⟨_,rfl,_,_,rfl,rfl,q⟩) (λM Q2 D q2=>?_) aB) (Eo I B kw) λM b2=>nx _ M b2;have sX:=(s7.trans y.1).trans D;obtain⟨pb,pk,z1,z2,z3,z4⟩:=bt _ sX B;refine⟨_,rfl,_,rfl,_,rfl,F,_,_,_,rfl,rfl,SqL.of (D _ _ (y.1 _ _ a7)),cS z1,ln,_,f,L[k].u,L[k].lo.toNat,L[k].hi.toNat,L[k].ks,rfl,sX _ _ aC,?_,λz hz=>fH (N.name z hz),ok.um,λk hk=>(ok.up k hk).2,by omega,by omega,by omega,q2⟩;rw[IU ok.lo0,IU (Int.le_trans ok.lo0 ok.lohi)];exact z4
 dsimp only;refine kZ ?_;refine⟨_,rfl,ps,rfl,⟨_,SqL.of (y.1 _ _ g7)⟩,?_⟩;refine q9 (S:=λY G=>[some (.ref o),some (.ref X),some (.ref ln),some (.ref Z),some (.ref F),some (.ref pw),some (.ref ps),some (.ref O),Y,some (.ref g),G]) (n:=9) (l:=ao) (λx Y G H Q q=>q) ⟨_,_,rfl⟩ g7 (y.more (by omega)) (λj k G H1 D' m y nx=>?_) (λY G H1 y=>?_)
 ·have az:=(GU.mp m).1;obtain⟨kl,kw⟩:=mS k (GO m);have B:L[k]?=some L[k]:=GG kl;have ok:=I.okb _ (GO B);have sX:=s7.trans y.1;obtain⟨pb,pk,z1,z2,z3,z4⟩:=bt _ sX B;obtain⟨U,ek⟩:∃U,L[k].ks=[U]:=by
   unfold jf at kw;rw[B] at kw;have:=GJ (Bool.and_eq_true_iff.mp kw).1;exact List.length_eq_one_iff.mp this
  rw[ek] at z3;have aS:U<f.length:=(ok.up U (by rw[ek];simp)).2;have la:=y.1 _ _ a7;have aG:=sX _ _ aC;refine⟨_,rfl,_,rfl,_,rfl,F,_,_,_,rfl,rfl,SqL.of la,cS z1,pb,_,_,_,rfl,rfl,bW z2,rfl,ln,_,_,_,rfl,rfl,SqL.of aG,cS (fI ok.um),_,rfl,_,rfl,_,rfl,F,_,_,_,rfl,rfl,SqL.of la,cS z1,pb,_,_,_,rfl,rfl,bW z2,rfl,pk,_,_,_,rfl,rfl,bW z3,rfl,ln,_,_,_,rfl,rfl,SqL.of aG,cS (fI aS),bT (by show 3<=1000;decide),λpd aM=>?_⟩;have sd:=bL aM (.lst (bF [bK f L[k].u, "one",bK f U]));have ad:(upd H1 pd (.lst (bF [bK f L[k].u, "one",bK f U]))) pd=some (.lst (bF [bK f L[k].u, "one",bK f U])):=bI;refine jD ?_;have na:∀k,(bK f k).length<=8:=ie (λz hz=>fH (N.name z hz));have h1:=na L[k].u;have h2:=na U;refine nV (i:=9) (pa:=g) rfl ai (y.same sd) (by omega) (tw_bent (i:=1) (k:=k) (ws:=[bK f L[k].u, "one",bK f U]) rfl ((sX.trans sd) _ _ ag) (λH Q q=>⟨_,rfl,_,_,rfl,rfl,q⟩) (λH Q q=>⟨_,rfl,_,_,rfl,rfl,q⟩) (λM Q2 D q2=>?_) aB) (Fw I B ek) λM b2=>nx _ M b2;exact⟨rfl,_,rfl, " ",pd,[bK f L[k].u, "one",bK f U],rfl,rfl,SqL.of (D _ _ ad),by show((bK f L[k].u).length+(3+((bK f U).length+0)))+3*1<=1000000;omega,q2 _ (Same.refl _)⟩
 dsimp only;refine kZ ?_;refine⟨_,rfl,O,rfl,⟨_,SqL.of (y.1 _ _ b1)⟩,?_⟩;refine q9 (S:=λY G=>[some (.ref o),some (.ref X),some (.ref ln),some (.ref Z),some (.ref F),some (.ref pw),some (.ref ps),some (.ref O),Y,some (.ref g),G]) (n:=18) (l:=J) (λx Y G H Q q=>q) ⟨_,_,rfl⟩ b1 (y.more (by omega)) (λj k G H1 D' m y nx=>?_) (λY G H1 y=>?_)
 ·have az:=(GU.mp m).1;obtain⟨ws,e1,e2,e3,e4⟩:=b3 k (GO m);have sX:=s7.trans y.1;obtain⟨w1,w2,w3⟩:=I.lines_ok _ (GO e1);refine nV (i:=9) (pa:=g) rfl ai y (by omega) (tw_bent (i:=1) (k:=k) (ws:=eQ ws) rfl (sX _ _ ag) (λH Q q=>⟨_,rfl,_,_,rfl,rfl,q⟩) (λH Q q=>⟨_,rfl,_,_,rfl,rfl,q⟩) (λM Q2 D q2=>?_) aB) (Ei I e1 e3 e4) λM b2=>nx _ M b2;exact⟨_,rfl,_,rfl,_,_,rfl,rfl,X,_,_,.str (Str.join " " ws),rfl,rfl,SqL.of (D _ _ (sX _ _ ag)),cS (j:=k+1) (nY e1),ws,rfl,e2,w2,λz hz=>(w3 z hz).1.2,λz hz=>(w3 z hz).2.2,q2⟩
 dsimp only;have sX:=s7.trans y.1;refine⟨_,rfl,Z,_,_,_,rfl,rfl,bW (sX _ _ WP.at_),rfl,tc,ys,rfl,.inr (bW (sX _ _ aq)),_,_,rfl,rfl,_,rfl,?_⟩;refine cx (λc=>?_) (λc=>?_)
 ·have zz:C≠[]:=λz=>by
   have:=GJ c;rw[ly,z] at this;exact absurd this (by decide)
  refine⟨_,rfl,F,zs,rfl,.inl (SqL.of (y.1 _ _ a7)),_,rfl,by rw[ah];omega,by rw[ah];omega,?_⟩;rw[lz,Iu];refine nE (n:=L.length) (λi σ aJ=>(∃Y G,σ=[some (.ref o),some (.ref X),some (.ref ln),some (.ref Z),some (.ref F),some (.ref pw),some (.ref ps),some (.ref O),Y,some (.ref g),G])/\BI H6 g (40+i) aJ) ⟨⟨_,_,rfl⟩,y.more (by omega)⟩ ?_ ?_
  ·rintro i σ H7 hi ⟨⟨aN,aH,rfl⟩,ar⟩;have sY:=s7.trans ar.1;have B:L[i]?=some L[i]:=GG hi;have lw:=qE (nm:=f) (C:=C) B;have gd:(bU f L C).getD (i+1) []=cE f L[i].u L[i].lo.toNat L[i].hi.toNat L[i].ks:=by
    rw[He,lw]
    rfl
   have bm:=EX I hi zz;rw[gd] at bm;refine nV (i:=9) (pa:=g) rfl ai ar (by omega) (tw_move (i:=1) (k:=i) (ws:=cE f L[i].u L[i].lo.toNat L[i].hi.toNat L[i].ks) rfl (sY _ _ ag) (λH Q q=>⟨_,rfl,_,_,rfl,rfl,q⟩) (λH Q q=>⟨_,rfl,_,_,rfl,rfl,q⟩) (λM Q2 D q2=>?_) aB) bm λM b2=>⟨⟨_,_,rfl⟩,b2⟩
   exact⟨_,rfl,_,rfl,_,_,rfl,rfl,X,_,_,.str (Str.join " " (cE f L[i].u L[i].lo.toNat L[i].hi.toNat L[i].ks)),rfl,rfl,SqL.of (D _ _ (sY _ _ ag)),cS (j:=i+1) (nY lw),q2 _ (Same.refl _)⟩
  ·rintro σ H7 ⟨⟨aN,aH,rfl⟩,ar⟩;exact aA H6 H7 g _ _ _ _ _ _ _ _ s7 ai (ar.more (by omega))
 ·exact aA H6 H1 g _ _ _ _ _ _ _ _ s7 ai (y.more (by omega))
theorem Cp(T:Txt K mg a d):cC P w K mg base cK 3 a.f_law_spoiled d.f_law_spoiled ["_law_state", "_law_text", "_law_names_here", "_law_wood_here"] (Dp K):=by
 have aa:=jA (P:=P) (w:=w) (base:=base) T;have ag:=Ce (P:=P) (w:=w) (base:=base) T;have af:=B6 (P:=P) (w:=w) (base:=base) T;have ae:=Ck (P:=P) (w:=w) (base:=base) T;have ah:=Cq (P:=P) (w:=w) (base:=base) T;refine T.K_law_spoiled.ok sc_law_spoiled (λvs H Q E h=>?_) (λqq A ni s H vs Q E J h=>?_)
 ·obtain⟨g,l,ln,wd,tb,tc,ns,k,m,L,C,rfl,_⟩:=h
  rfl
 obtain⟨g,l,ln,wd,tb,tc,ns,k,m,L,C,rfl,pn,k0,k1,az,WP,LN,q⟩:=h;have G:∀c:List Str,(bF c).length=c.length:=λc=>by rw[bF,Gz]
 have jl:∀t:List (List Str),(bV t).length=t.length:=λt=>by rw[bV,Gz]
 have aO:=fQ (ns:=m) (L:=L) (C:=C);have N:=LN.nm;have n9:=N.few;have n1:0<m.length:=Hx.mpr N.ne;have fb:=LN.fewb;have fc:=LN.fewc;obtain⟨ys,aJ,aN⟩:=WP.cs;have ly:ys.length=C.length:=by rw[<-DnL.length aN,Gz]
 have tx:=LN.textl.text;refine PLi.ex (dR (.of (cj (i:=4) sc_law_spoiled.nd rfl (Or.inl rfl) (cM (K:=K) Hf Ia Ib iw (pv 1) (bE bM bG))))
   (dR (.of (cj (i:=5) sc_law_spoiled.nd rfl (Or.inl rfl) (cA (da (K:=K)) rfl T.m_len Hg (bE (bS (cO (K:=K)) (pv 3) bJ (λ_ _=>rfl)) bG))))
   (dR (.of (cj (i:=6) sc_law_spoiled.nd rfl (Or.inl rfl) (bY aa J.lv rfl T.K_law_take (bE (pv 0) (bE bJ bG)))))
   (dR (.of (cg (cm gq (pv 6) bJ (cf _)) (bP (ce (dN (bE (cM (K:=K) Hf Hz HA (fK (K:=K)) bM (bE (bY ag J.lv rfl T.K_law_bent_lines (bE (pv 0) (bE (pv 4) (bE (pv 2) (bE (pv 3) bG))))) bG)) (bE eY bG))))) cu))
   (dR (.of (cg (cm cP (pv 6) bJ (cf _)) (bQ (cj (i:=7) sc_law_spoiled.nd rfl (Or.inl rfl) (bY af J.lv rfl T.K_law_first_lines (bE (pv 2) bG)))
   (bP (ce (dN (bE (cM (K:=K) Hf Hz HA (fK (K:=K)) bM (bE (bO dE (cB (bE (bS (cD (K:=K)) (pv 7) (bY aa J.lv rfl T.K_law_take (bE (pv 0) (bE (cA (da (K:=K)) rfl T.m_len Hg (bE (pv 7) bG)) bG))) (λ_ _=>rfl)) bG)) (dX dZ (pv 4) (dJ bJ) eK)) bG)) (bE eY bG)))))) cu))
   (dR (.of (cg (cm cP (pv 6) bJ (cf _)) (bQ (cj (i:=7) sc_law_spoiled.nd rfl (Or.inl rfl) (bY ae J.lv rfl T.K_law_no_lines (bE (bS (cD (K:=K)) (pv 2) (bY aa J.lv rfl T.K_law_take (bE (pv 0) (bE (cA (da (K:=K)) rfl T.m_len Hg (bE (pv 2) bG)) bG))) (λ_ _=>rfl)) (bE (pv 2) bG))))
   (bP (ce (dN (bE (cM (K:=K) Hf Hz HA (fK (K:=K)) bM (bE (bO dE (pv 4) (cB (bE (bS (cD (K:=K)) (pv 7) (bY aa J.lv rfl T.K_law_take (bE (pv 0) (bE (cA (da (K:=K)) rfl T.m_len Hg (bE (pv 7) bG)) bG))) (λ_ _=>rfl)) bG))) bG)) (bE eY bG)))))) cu))
   (dR (.of (cg (cm cP (pv 6) bJ (cf _)) (bQ (cj (i:=8) sc_law_spoiled.nd rfl (Or.inl rfl) (bY ah J.lv rfl T.K_law_no_wood (bE (pv 4) (bE (pv 2) (bE (pv 5) (bE (bY aa J.lv rfl T.K_law_take (bE (pv 0) (bE bJ bG))) bG))))))
   (bQ (cg (cm gq (bY aa J.lv rfl T.K_law_take (bE (pv 0) (bE bJ bG))) bJ (cf _)) (bP (ce (dN (bE (cM (K:=K) Hf Hz HA (fK (K:=K)) bM (bE (pv 8) bG)) (bE eY bG))))) cu)
   (bQ (cj (i:=7) sc_law_spoiled.nd rfl (Or.inl rfl) (bY ae J.lv rfl T.K_law_no_lines (bE (bS (cD (K:=K)) (cM (K:=K) Hf Ia Ib iw (bS (cD (K:=K)) (pv 8) bJ (λ_ _=>rfl)) (bE bM bG)) bJ (λ_ _=>rfl)) (bE (cM (K:=K) Hf Ia Ib iw (bS (cD (K:=K)) (pv 8) bJ (λ_ _=>rfl)) (bE bM bG)) bG))))
   (bP (ce (dN (bE (cM (K:=K) Hf Hz HA (fK (K:=K)) bM (bE (bO dE (pv 8) (cB (bE (bS (cD (K:=K)) (pv 7) (bY aa J.lv rfl T.K_law_take (bE (pv 0) (bE (cA (da (K:=K)) rfl T.m_len Hg (bE (pv 7) bG)) bG))) (λ_ _=>rfl)) bG))) bG)) (bE eY bG)))))))) cu))
   (kY (yZ (wT (cH (zA (cD (K:=K)) (jG (cH (.of rN) (cH (.of bJ) (cH (.of eY) (cH (jG (cH (.of (pv 1)) iM)) (cH (wT (cH (.of (pv 1)) iM)) (cH (.of F5) (cH (.of (pv 4)) iM)))))))) (bY aa J.lv rfl T.K_law_take (bE (pv 0) (bE bJ bG))) (λ_ _=>rfl)) (cH (.of eY) iM)))))))))))) ?_
 refine⟨_,R,R,_,_,R,R,R,by have:=tx.1;exact this,λu aD=>?_⟩;rw[show Txt.split (fV m L C) "\n" = bV (bU m L C) from tx.2];have s1:=bL aD (.lst (bF (bV (bU m L C))));have a1:(upd H u (.lst (bF (bV (bU m L C))))) u=some (.lst (bF (bV (bU m L C)))):=bI;show iU _ _ _ _ (upd H u (.lst (bF (bV (bU m L C)))));generalize upd H u (.lst (bF (bV (bU m L C))))=H1 at s1 a1 |-;dsimp only;refine⟨_,R,wd,_,_,_,R,R,bW (s1 _ _ WP.at_),R,tc,ys,R,.inr (bW (s1 _ _ aJ)),?_⟩;rw[ly];have g1:=s1 _ _ pn.at_;refine⟨_,R,g,l,ns,_,k,R,pn.to (Same.x s1) g1,k0,by omega,by decide,λaF w0 w6=>?_⟩;have x2:SameX g H (upd H1 g (.lst [.ref l,.int (k+1)])):=(Same.x s1).trans (dD _);have g2:(upd H1 g (.lst [.ref l,.int (k+1)])) g=some (.lst [.ref l,.int (k+1)]):=bI;have a2:(upd H1 g (.lst [.ref l,.int (k+1)])) u=_:=(bR (gA a1 g1)).trans a1;have b2:(upd H1 g (.lst [.ref l,.int (k+1)])) ln=_:=(bR (gA (s1 _ _ az) g1)).trans (s1 _ _ az);have W2:=WP.tupS (SameX.tup pn.at_ x2);refine jD ?_;generalize upd H1 g (.lst [.ref l,.int (k+1)])=S at x2 g2 a2 b2 W2 |-;dsimp only;have p2:=pn.to x2 g2;refine⟨_,R,_,_,R,R,_,R,?_⟩;refine cx (λc=>?_) (λc=>?_)
 ·refine⟨R,_,R,_,R,_,R,_,R,g,l,u,ln,wd,tb,tc,ns,k+1,m,L,C,R,p2,by omega,by omega,a2,b2,W2,LN,λt p k' Y x3 g3 l1 l2 U ak=>?_⟩;refine⟨"\n",p,bV t,R,R,SqL.of U,ak.1.joined,bT (by show 2<=1000;decide),λpt Z=>?_⟩;have D:=bL Z (.tup [.str (Str.join "\n" (bV t)),.bl true]);exact q _ true pt k' _ ((x2.trans x3).trans (Same.x D)) (D _ _ g3) (by omega) (by omega) bI ak.refuse
 have w3:aF<=3:=by
  have:=Kq (Ho.mpr c);omega
 refine⟨_,R,R,_,R,?_⟩;refine cx (λc0=>?_) (λc0=>?_)
 ·refine⟨_,R,ln,m,R,b2,N,λzs p Y s3 U ay al=>?_⟩;have g3:=s3 _ _ g2;have x3:=x2.trans (Same.x s3);refine⟨R,_,R,_,R,_,R,p,bF zs,R,.inl (SqL.of U),g,l,ns,_,k+1,R,pn.to x3 g3,by omega,by omega,by rw[G,ay];decide,λc d0 d1=>?_⟩;rw[G,ay] at d1;have x4:=x3.trans (dD (H:=Y) (.lst [.ref l,.int (k+1+1)]));have g4:(upd Y g (.lst [.ref l,.int (k+1+1)])) g=some (.lst [.ref l,.int (k+1+1)]):=bI;have au:(upd Y g (.lst [.ref l,.int (k+1+1)])) p=_:=(bR (gA U g3)).trans U;have a4:(upd Y g (.lst [.ref l,.int (k+1+1)])) u=_:=(bR (gA (s3 _ _ a2) g3)).trans (s3 _ _ a2);generalize upd Y g (.lst [.ref l,.int (k+1+1)])=F at x4 g4 au a4 |-;obtain⟨y,X⟩:∃y,zs[c.toNat]?=some y:=⟨_,GG (by omega)⟩
  obtain⟨t,ak,ej⟩:=Ct LN (al _ (GO X));refine⟨p,bF zs,c,.str y,R,R,SqL.of au,?_,Ow.w1 _,λp5 I=>?_⟩
  ·rw[show c=((c.toNat:Nat):Int) by omega];exact cS (by rw[bF,GQ,X];rfl)
  have s5:=bL I (.lst (bF [y]));refine⟨_,R,_,R,u,_,R,SqL.of (s5 _ _ a4),λp6 am=>?_⟩;rw[show dS (bF (bV (bU m L C))) (some 1) none=bF ((bV (bU m L C)).drop 1) from u6 _ 1];have B:=bL am (.lst (bF ((bV (bU m L C)).drop 1)));refine⟨p5,p6,bF [y],bF ((bV (bU m L C)).drop 1),R,R,B _ _ bI,bI,bT (by rw[G,G,Hd,jl];show 1+_<=1000;omega),λp7 aq=>?_⟩;rw[<-ed,show[y]++(bV (bU m L C)).drop 1=bV t from ej.symm];have s7:=bL aq (.lst (bF (bV t)));refine⟨"\n",p7,bV t,R,R,SqL.of bI,ak.1.joined,bT (by show 2<=1000;decide),λpt Z=>?_⟩;have v:=s5.trans (B.trans (s7.trans (bL Z (.tup [.str (Str.join "\n" (bV t)),.bl true]))));exact q _ true pt (k+1+1) _ (x4.trans (Same.x v)) (v _ _ g4) (by omega) (by omega) bI ak.refuse
 refine⟨_,R,R,_,R,?_⟩;refine cx (λc1=>?_) (λc1=>?_)
 ·refine⟨_,R,_,R,_,R,ln,bF m,R,.inl (SqL.of b2),g,l,ns,_,k+1,R,p2,by omega,by omega,by rw[G];omega,λc d0 d1=>?_⟩;rw[G] at d1;have x3:=x2.trans (dD (H:=S) (.lst [.ref l,.int (k+1+1)]));have g3:(upd S g (.lst [.ref l,.int (k+1+1)])) g=some (.lst [.ref l,.int (k+1+1)]):=bI;have a3:(upd S g (.lst [.ref l,.int (k+1+1)])) u=_:=(bR (gA a2 g2)).trans a2;have b3:(upd S g (.lst [.ref l,.int (k+1+1)])) ln=_:=(bR (gA b2 g2)).trans b2;generalize upd S g (.lst [.ref l,.int (k+1+1)])=Y at x3 g3 a3 b3 |-;refine⟨ln,bF m,c,.str (bK m c.toNat),R,R,SqL.of b3,?_,_,R,ln,m,bK m c.toNat,R,b3,by omega,.inl (by omega),ie (λz X=>fH (N.name z X)) _,λaB zs p F mc nn D U ao al=>?_⟩
  ·rw[show c=((c.toNat:Nat):Int) by omega];exact cS (fI (by omega))
  have g4:=D _ _ g3;have x4:=x3.trans (Same.x D);refine⟨R,_,R,_,R,_,R,_,R,p,bF zs,R,.inl (SqL.of U),g,l,ns,_,k+1+1,R,pn.to x4 g4,by omega,by omega,by rw[G,ao];decide,λe d2 d3=>?_⟩;rw[G,ao] at d3;have x5:=x4.trans (dD (H:=F) (.lst [.ref l,.int (k+1+1+1)]));have g5:(upd F g (.lst [.ref l,.int (k+1+1+1)])) g=some (.lst [.ref l,.int (k+1+1+1)]):=bI;have I:(upd F g (.lst [.ref l,.int (k+1+1+1)])) p=_:=(bR (gA U g4)).trans U;have a5:(upd F g (.lst [.ref l,.int (k+1+1+1)])) u=_:=(bR (gA (D _ _ a3) g4)).trans (D _ _ a3);generalize upd F g (.lst [.ref l,.int (k+1+1+1)])=H5 at x5 g5 I a5 |-;obtain⟨y,X⟩:∃y,zs[e.toNat]?=some y:=⟨_,GG (by omega)⟩
  obtain⟨t,ak,ej⟩:=tR LN.textl (by omega) rfl N.ten (al _ (GO X) m (xi N.ten (by omega) mc nn));refine⟨p,bF zs,e,.str y,R,R,SqL.of I,?_,Ow.w1 _,λp6 am=>?_⟩
  ·rw[show e=((e.toNat:Nat):Int) by omega];exact cS (by rw[bF,GQ,X];rfl)
  have B:=bL am (.lst (bF [y]));refine⟨u,p6,bF (bV (bU m L C)),bF [y],R,R,B _ _ a5,bI,bT (by rw[G,G,jl];show _+1<=1000;omega),λp7 aq=>?_⟩;rw[<-ed,<-ej];have s7:=bL aq (.lst (bF (bV t)));refine⟨"\n",p7,bV t,R,R,SqL.of bI,ak.1.joined,bT (by show 2<=1000;decide),λpt Z=>?_⟩;have v:=B.trans (s7.trans (bL Z (.tup [.str (Str.join "\n" (bV t)),.bl true])));exact q _ true pt (k+1+1+1) _ (x5.trans (Same.x v)) (v _ _ g5) (by omega) (by omega) bI ak.refuse
 refine⟨_,R,R,_,R,?_⟩;refine cx (λc2=>?_) (λc2=>?_)
 ·refine⟨_,R,_,R,_,R,_,R,g,l,ns,_,k+1,R,p2,by omega,by omega,by decide,λc d0 d1=>?_⟩;have x3:=x2.trans (dD (H:=S) (.lst [.ref l,.int (k+1+1)]));have g3:(upd S g (.lst [.ref l,.int (k+1+1)])) g=some (.lst [.ref l,.int (k+1+1)]):=bI;have a3:(upd S g (.lst [.ref l,.int (k+1+1)])) u=_:=(bR (gA a2 g2)).trans a2;have b3:(upd S g (.lst [.ref l,.int (k+1+1)])) ln=_:=(bR (gA b2 g2)).trans b2;generalize upd S g (.lst [.ref l,.int (k+1+1)])=Y at x3 g3 a3 b3 |-;refine⟨u,ln,m,L,C,c,R,a3,b3,LN,d0,d1,λt M p F D U O=>?_⟩;have g4:=D _ _ g3;have x4:=x3.trans (Same.x D);refine⟨_,R,g,l,ns,_,k+1+1,R,pn.to x4 g4,by omega,by omega,by decide,λe d2 d3=>?_⟩;have x5:=x4.trans (dD (H:=F) (.lst [.ref l,.int (k+1+1+1)]));have g5:(upd F g (.lst [.ref l,.int (k+1+1+1)])) g=some (.lst [.ref l,.int (k+1+1+1)]):=bI;have I:(upd F g (.lst [.ref l,.int (k+1+1+1)])) p=_:=(bR (gA U g4)).trans U;generalize upd F g (.lst [.ref l,.int (k+1+1+1)])=H5 at x5 g5 I |-;refine⟨_,_,R,R,_,R,?_⟩;refine cx (λc3=>?_) (λc3=>?_)
  ·refine⟨R,_,R, "\n",p,bV t,R,R,SqL.of I,O.tl.joined,bT (by show 2<=1000;decide),λpt Z=>?_⟩;have B:=bL Z (.tup [.str (Str.join "\n" (bV t)),.bl false]);exact q _ false pt (k+1+1+1) _ (x5.trans (Same.x B)) (B _ _ g5) (by omega) (by omega) bI O.refuse
  obtain⟨r,er⟩:∃r,t=(("ware" : Str)::M)::r:=by
   have:=O.hd
   cases t with
   |nil=>cases this
   |cons l0 r=>exact⟨r,by rw[show l0=("ware" : Str)::M from this]⟩
  have wm:(("ware" : Str)::M)∈t:=by rw[er];exact GM
  obtain⟨wl,aA⟩:=O.tl.line wm;have ar:(bF (bV t))[0]?=some (.str (Str.join " " (("ware" : Str)::M))):=nY (by rw[er];rfl);have n0:0<M.length:=Hx.mpr O.nm.ne;have aP:=O.nm.few;refine⟨_,R,p,_,_,_,R,R,SqL.of I,cS (j:=0) ar,R,_,_,R,R,R,by omega,λp6 am=>?_⟩;rw[aA];have B:=bL am (.lst (bF (("ware" : Str)::M)));refine⟨p6,_,_,.str (bK M 0),R,R,SqL.of bI,cS (j:=1) (show(bF M)[0]?=some (.str (bK M 0)) from fI n0),_,R,p,_,_,_,R,R,SqL.of (B _ _ I),cS (j:=0) ar,R,_,_,R,R,R,by omega,λp7 aq=>?_⟩;rw[aA];have s7:=B.trans (bL aq (.lst (bF (("ware" : Str)::M))));refine⟨p7,("ware" : Str)::M,bK M 0,R,bI,by rw[GN];omega,.inr GM,ie (λz X=>fH (O.nm.name z X)) _,λaB zs p8 H8 mc nn aE av ao al=>?_⟩;have v:=s7.trans aE;have g8:=v _ _ g5;have x8:=x5.trans (Same.x v);refine⟨R,_,R,_,R,_,R,_,R,p8,bF zs,R,.inl (SqL.of av),g,l,ns,_,k+1+1+1,R,pn.to x8 g8,by omega,by omega,by rw[G,ao];decide,λf d4 d5=>?_⟩;rw[G,ao] at d5;have x9:=x8.trans (dD (H:=H8) (.lst [.ref l,.int (k+1+1+1+1)]));have g9:(upd H8 g (.lst [.ref l,.int (k+1+1+1+1)])) g=some (.lst [.ref l,.int (k+1+1+1+1)]):=bI;have aC:(upd H8 g (.lst [.ref l,.int (k+1+1+1+1)])) p8=_:=(bR (gA av g8)).trans av;have a9:(upd H8 g (.lst [.ref l,.int (k+1+1+1+1)])) p=_:=(bR (gA (v _ _ I) g8)).trans (v _ _ I);generalize upd H8 g (.lst [.ref l,.int (k+1+1+1+1)])=H9 at x9 g9 aC a9 |-;obtain⟨y,X⟩:∃y,zs[f.toNat]?=some y:=⟨_,GG (by omega)⟩
  obtain⟨aw,ak,ej⟩:=tR O.tl O.less O.hd O.nm (al _ (GO X) M (xi O.nm n0 mc λz=>nn (GP _ z)));have aM:=O.less;refine⟨p8,bF zs,f,.str y,R,R,SqL.of aC,?_,Ow.w1 _,λpa aI=>?_⟩
  ·rw[show f=((f.toNat:Nat):Int) by omega];exact cS (by rw[bF,GQ,X];rfl)
  have sa:=bL aI (.lst (bF [y]));refine⟨p,pa,bF (bV t),bF [y],R,R,sa _ _ a9,bI,bT (by rw[G,G,jl];show _+1<=1000;omega),λpb aH=>?_⟩;rw[<-ed,<-ej];have aG:=bL aH (.lst (bF (bV aw)));refine⟨"\n",pb,bV aw,R,R,SqL.of bI,ak.1.joined,bT (by show 2<=1000;decide),λpt Z=>?_⟩;have s9:=sa.trans (aG.trans (bL Z (.tup [.str (Str.join "\n" (bV aw)),.bl true])));exact q _ true pt (k+1+1+1+1) _ (x9.trans (Same.x s9)) (s9 _ _ g9) (by omega) (by omega) bI ak.refuse
 refine⟨_,R,Ow.w1 _,λp3 aK=>?_⟩;have s3:=bL aK (.lst [V.str (fV m L C)]);have a3:(upd S p3 (.lst [V.str (fV m L C)])) p3=some (.lst [V.str (fV m L C)]):=bI;generalize upd S p3 (.lst [V.str (fV m L C)])=Y at s3 a3 |-;refine⟨_,R,Ow.w1 _,λp4 au=>?_⟩;have D:=bL au (.tup [V.str (fV m L C)]);have a4:(upd Y p4 (.tup [V.str (fV m L C)])) p4=some (.tup [V.str (fV m L C)]):=bI;generalize upd Y p4 (.tup [V.str (fV m L C)])=F at D a4 |-;intro p5 I;have s5:=bL I (.dK []);have a5:(upd F p5 (.dK [])) p5=some (.dK []):=bI;generalize upd F p5 (.dK [])=H5 at s5 a5 |-;refine⟨_,R,bT (by show 7<=1000;decide),λp6 am=>?_⟩;have B:=bL am (.lst [.non,.int 5,.bl true,.ref p3,.ref p4,.ref p5,.ref u]);have a6:(upd H5 p6 (.lst [.non,.int 5,.bl true,.ref p3,.ref p4,.ref p5,.ref u])) p6=some (.lst [.non,.int 5,.bl true,.ref p3,.ref p4,.ref p5,.ref u]):=bI;have b6:=B _ _ a5;have c6:=B _ _ (s5 _ _ a4);have d6:=B _ _ (s5 _ _ (D _ _ a3));have e6:=B _ _ (s5 _ _ (D _ _ (s3 _ _ a2)));have ax:=s3.trans (D.trans (s5.trans B));have x6:=x2.trans (Same.x ax);have g6:=ax _ _ g2;generalize upd H5 p6 (.lst [.non,.int 5,.bl true,.ref p3,.ref p4,.ref p5,.ref u])=H6 at a6 b6 c6 d6 e6 x6 g6 |-;refine⟨_,R,g,l,ns,_,k+1,R,pn.to x6 g6,by omega,by omega,by decide,λc d0 d1=>?_⟩;have np:∀{b:Addr} {o:HO},H6 b=some o->o≠.lst [.ref l,.int (k+1)]->b≠g:=λh n z=>by
  rw[z,g6] at h;injection h with h;exact n h.symm
 have a7:=(bR (o:=.lst [.ref l,.int (k+1+1)]) (np a6 (by simp))).trans a6;have b7:=(bR (o:=.lst [.ref l,.int (k+1+1)]) (np b6 (by simp))).trans b6;have c7:=(bR (o:=.lst [.ref l,.int (k+1+1)]) (np c6 (by simp))).trans c6;have d7:=(bR (o:=.lst [.ref l,.int (k+1+1)]) (np d6 (by simp))).trans d6;have e7:=(bR (o:=.lst [.ref l,.int (k+1+1)]) (gA e6 g6)).trans e6;have x7:=x6.trans (dD (H:=H6) (.lst [.ref l,.int (k+1+1)]));have g7:(upd H6 g (.lst [.ref l,.int (k+1+1)])) g=some (.lst [.ref l,.int (k+1+1)]):=bI;generalize upd H6 g (.lst [.ref l,.int (k+1+1)])=H7 at a7 b7 c7 d7 e7 x7 g7 |-;obtain⟨x,ex,ty,aL,no⟩:∃x,eJ [.non,.int 5,.bl true,.ref p3,.ref p4,.ref p5,.ref u] c=some x/\∃ty,fN K H7 x (.type ty)/\cW ty "str" = some false:=by
  have cs:c=0\/c=1\/c=2\/c=3\/c=4\/c=5\/c=6:=by omega
  rcases cs with e|e|e|e|e|e|e<;>rw[e]
  ·exact⟨_,R,_,.non,by decide +kernel⟩
  ·exact⟨_,R,_,.int 5,by decide +kernel⟩
  ·exact⟨_,R,_,.bl true,by decide +kernel⟩
  ·exact⟨_,R,_,.lst d7,by decide +kernel⟩
  ·exact⟨_,R,_,.tup c7,by decide +kernel⟩
  ·exact⟨_,R,_,.dK b7,by decide +kernel⟩
  ·exact⟨_,R,_,.lst e7,by decide +kernel⟩
 refine⟨p6,_,c,x,R,R,SqL.of a7,ex,bT (by show 2<=1000;decide),λpt Z=>?_⟩;have v:=bL Z (.tup [x,.bl true]);refine q x true pt (k+1+1) _ (x7.trans (Same.x v)) (v _ _ g7) (by omega) (by omega) bI (.inr ⟨R,ty,?_,no⟩)
 cases aL with
 |non=>exact .non
 |bl x=>exact .bl x
 |int i=>exact .int i
 |str x=>exact .str x
 |flt x=>exact .flt x
 |lst e=>exact .lst (v _ _ e)
 |frz e=>exact .frz (v _ _ e)
 |tup e=>exact .tup (v _ _ e)
 |dK e=>exact .dK (v _ _ e)
 |dT e=>exact .dT (v _ _ e)
theorem Cd(T:Txt K mg a d):cC P w K mg base (eh P w) 5 a.f_check_boughs d.f_check_boughs ["many", "boughs"] (ED a.x_NoWood):=by
 have aa:=tZ (P:=P) (w:=w) (base:=base) T;refine T.K_check_boughs.okR sc_check_boughs (λvs H Q E h=>?_) (λaB A G s H vs Q E hr h=>?_)
 ·obtain⟨c,p,v,f,rfl,_⟩:=h
  rfl
 obtain⟨c,p,v,f,rfl,Z,Y,m1,m9,av,am,qy,qn⟩:=h;refine⟨_,(bQ (cj (i:=2) sc_check_boughs.nd rfl (Or.inl rfl) (cB bG))
   (bQ (eV Kx rfl (oj rfl T.m_enumerate (bE (pv 1) bG)) (i3 (K:=K) (n:=2) rfl (eU (cG (i:=3) sc_check_boughs.nd rfl (Or.inl rfl)) (eU (cG (i:=4) sc_check_boughs.nd rfl (Or.inl rfl)) jc))) (bQ (cg (dY (dO (bY aa hr.lv rfl T.K_is_bough (bE (pv 0) (bE (pv 4) bG))))) (bP (fv rfl rfl T.g_NoWood T.x_NoWood.cl (bE (sO (pv 3)) bG) (λ_ _ _ _ _ _ _ I m D=>fu I m D))) cu)
   (bP (eA (cM (K:=K) Hn Kc Kd uE (pv 2) (bE (bS (cO (K:=K)) (pv 4) bJ (λ_ _=>rfl)) bG))))))
   (bP (cg (cm (qx hr.units) (cA ud rfl T.m_sorted Kb (bE (pv 2) bG)) (dW (tG rfl) rfl T.m_list IG (bE (dW vS rfl T.m_range Lr (bE bJ (bE (pv 0) bG))) bG)) (cf _)) (bP (fv rfl rfl T.g_NoWood T.x_NoWood.cl (bE bM bG) (λ_ _ _ _ _ _ _ I m D=>fu I m D))) cu)))),?_⟩
 refine⟨bT (by decide),λo C=>?_⟩;refine⟨_,R,true,p,R,⟨v,bW ((bL C _) _ _ Z)⟩,?_⟩;refine nP (K:=K) (b:=true) (a:=p) (xs:=v) (λi y e=>(∃M N,y=[some (.int c),some (.ref p),some (.ref o),M,N])/\Same H e/\e o=some (.lst (((f.take i).flatMap eH).map V.int))/\∀b∈f.take i,gF c b=true) ⟨⟨none,none,R⟩,bL C _,bI,λb k=>by simp at k⟩ (λi y e _ z=>bW (z.2.1 _ _ Z)) ?_ ?_
 ·rintro i x y e m ⟨⟨M,N,rfl⟩,L,t,q⟩ TT U;obtain⟨b,k,X⟩:=Y.get m;have j:Same H (upd e TT (.tup [.int i,x])):=L.trans (bL U _);have B:upd e TT (.tup [.int i,x]) o=some (.lst (((f.take i).flatMap eH).map V.int)):=(bL U _) _ _ t;refine⟨TT,_,R,bW bI,R,_,_,R,_,_,R,R,?_⟩;refine⟨_,R,_,R,b,x,c,R,Dn.same j _ _ X,_,R,?_⟩;by_cases l:gF c b=true
  ·rw[l];refine cX ?_;obtain⟨pb,xu,xl,xh,pk,rfl,au,ao⟩:=uh l (Dn.same j _ _ X);have fw:=Fp (bs:=f) (i+1);rw[kA k,GC] at fw;refine⟨_,R,.inl ⟨R,_,SqL.of B⟩,_,R,pb,_,_,_,R,R,bW au,mI,o,pk,_,_,R,R,B,ao,?_,?_⟩
   ·rw[Gz,Gz];exact bT (by omega)
   ·refine⟨⟨_,_,R⟩,Wd.Same.put j C B,?_,vy k q l⟩;rw[bI,kA k,GX]
  ·rw[Ho.mpr l];refine dB ?_;have hi:i<f.length:=(GU.mp k).1;exact⟨_,R,_,R,by omega,by omega,λz=>⟨by show 1<=1000;decide,qn (λg=>l (g.each b (GO k))) _ j⟩⟩
 ·rintro y e ⟨⟨M,N,rfl⟩,L,t,q⟩;rw[<-Y.length,Hy] at t q;have r:(2:Int)^62=4611686018427387904:=by decide
  refine⟨_,R,o,_,R,SqL.of t,by omega,λu J ps F aq=>?_⟩;have ar:=L.trans (bL aq (.lst (u.map V.int)));refine⟨_,R,_,_,R,λrp O=>?_⟩;refine⟨rp,1,c,R,bI,by rw[r];omega,by rw[r];omega,by rw[r];omega,by rw[r];omega,by omega,λl2 S=>?_⟩;have j:=(ar.trans (bL O (.rng 1 c))).trans (bL S (.lst ((List.range' 0 (c-1).toNat).map λi:Nat=>V.int (1+(i:Int)))));have h1:upd (upd (upd e F (.lst (u.map V.int))) rp (.rng 1 c)) l2 (.lst ((List.range' 0 (c-1).toNat).map λi:Nat=>V.int (1+(i:Int)))) F=some (.lst (u.map V.int)):=(bL S _) _ _ ((bL O _) _ _ bI);refine⟨F,l2,u,(List.range' 0 (c-1).toNat).map λi:Nat=>(1:Int)+i,R,R,SqL.of h1,?_,_,R,?_⟩
  ·refine SqL.of ?_;rw[bI,HN]
   rfl
  ·by_cases g:hV c f
   ·exact sM (PySem.W.ksm_same (J.trans g.kids) ps (qb 1 _ 0)) (qy g _ j)
   ·refine mX ?_ ⟨by show 1<=1000;decide,qn g _ j⟩;rw[Jh,decide_eq_false_iff_not];intro z;exact g ⟨q,by rw[z] at J;exact J.symm⟩
theorem B4(T:Txt K mg a d):cC P w K mg base (eh P w) 6 a.f_check_cross_ties d.f_check_cross_ties ["many", "cross"] (Ee a.x_NoWood):=by
 have O:=tF (P:=P) (w:=w) (base:=base) T;obtain⟨_,N⟩:=T.c_MOST_CROSS_TIES;refine T.K_check_cross_ties.okR sc_check_cross_ties (λvs H Q E h=>?_) (λS A C s H vs Q E Z h=>?_)
 ·obtain⟨e,p,q,bs,rfl,_⟩:=h
  rfl
 obtain⟨e,p,q,u,rfl,B,o,ai,U,qy,M⟩:=h;refine⟨_,(bQ (cg (cm gq (cA (da (K:=K)) rfl T.m_len Hg (bE (pv 1) bG)) (fU (v:=.int 8) rfl N ⟨_,R⟩) (cf _)) (bP (fv rfl rfl T.g_NoWood T.x_NoWood.cl (bE bM bG) (λ_ _ _ _ _ _ _ I k y=>fu I k y))) cu)
   (bP (eV Kx rfl (oj rfl T.m_enumerate (bE (pv 1) bG)) (i3 (K:=K) (n:=2) rfl (eU (cG (i:=2) sc_check_cross_ties.nd rfl (Or.inl rfl)) (eU (cG (i:=3) sc_check_cross_ties.nd rfl (Or.inl rfl)) jc))) (bP (cg (dY (dO (bY O Z.lv rfl T.K_is_cross_tie (bE (pv 0) (bE (pv 3) bG))))) (bP (fv rfl rfl T.g_NoWood T.x_NoWood.cl (bE (sO (pv 2)) bG) (λ_ _ _ _ _ _ _ I k y=>fu I k y))) cu))))),?_⟩
 refine⟨_,R,p,_,R,.inr (bW B),_,_,R,R,_,R,?_⟩;by_cases L:u.length<=8
 ·refine rZ (GZ (by rw[<-o.length];omega)) ?_;refine⟨_,R,true,p,R,⟨q,bW B⟩,?_⟩;refine nP (K:=K) (b:=true) (a:=p) (xs:=q) (λi r f=>(∃F G,r=[some (.int e),some (.ref p),F,G])/\Same H f/\∀c∈u.take i,fm e c=true) ⟨⟨none,none,R⟩,Same.refl H,λb j=>by simp at j⟩ (λi r f _ z=>bW (z.2.1 _ _ B)) ?_ ?_
  ·rintro i x r f k ⟨⟨F,G,rfl⟩,D,l⟩ TT X;obtain⟨b,j,Y⟩:=o.get k;have t:Same H (upd f TT (.tup [.int i,x])):=D.trans (bL X _);refine⟨TT,_,R,bW bI,R,_,_,R,_,_,R,R,?_⟩;refine⟨_,R,_,R,b,x,e,R,Dn.same t _ _ Y,U b (GO j),λH3 J=>⟨_,R,?_⟩⟩;by_cases m:fm e b=true
   ·rw[m];exact cX ⟨⟨_,_,R⟩,t.trans J,vy j l m⟩
   ·rw[Ho.mpr m];refine dB ?_;have hi:i<u.length:=(GU.mp j).1;exact⟨_,R,_,R,by omega,by omega,λz=>⟨by show 1<=1000;decide,M (λg=>m (g.2 b (GO j))) _ (t.trans J)⟩⟩
  ·rintro r f ⟨⟨F,G,rfl⟩,D,l⟩;rw[<-o.length,Hy] at l;exact qy ⟨L,l⟩ f D
 ·refine mX (GF (by rw[<-o.length];omega)) ?_;exact⟨by show 1<=1000;decide,M (λg=>L g.1) H (Same.refl H)⟩
theorem tW(T:Txt K mg a d):cC P w K mg base (eh P w) 7 a.f_wood_of d.f_wood_of ["many", "boughs", "cross"] (yU a.x_NoWood):=by
 have ae:=lJ (P:=P) (w:=w) (base:=base) T;have ag:=Cd (P:=P) (w:=w) (base:=base) T;have aa:=B4 (P:=P) (w:=w) (base:=base) T;obtain⟨_,af⟩:=T.c_MOST_OPTIONS;refine T.K_wood_of.okR sc_wood_of (λvs H Q E h=>?_) (λaB A J s H vs Q E G h=>?_)
 ·obtain⟨v0,v1,v2,z,n,o,rfl,_⟩:=h
  rfl
 obtain⟨v0,v1,v2,z,n,o,rfl,X,Y,Z,fb,fc,nw,u⟩:=h;refine⟨_,(bQ (cg (dY (dO (bY ae G.lv rfl T.K_is_whole_within (bE (pv 0) (bE bJ (bE (fU (v:=.int 9) rfl af ⟨_,R⟩) bG)))))) (bP (fv rfl rfl T.g_NoWood T.x_NoWood.cl (bE bM bG) (λ_ _ _ _ _ _ _ I t q=>fu I t q))) cu)
   (bQ (cg (dY (dO (cA (ik (K:=K)) rfl T.m_isinstance Hr (bE (pv 1) (bE (gY (v:=.ty "list") rfl T.m_list IG rfl) bG))))) (bP (fv rfl rfl T.g_NoWood T.x_NoWood.cl (bE bM bG) (λ_ _ _ _ _ _ _ I t q=>fu I t q))) cu)
   (bQ (cg (dY (dO (cA (ik (K:=K)) rfl T.m_isinstance Hr (bE (pv 2) (bE (gY (v:=.ty "list") rfl T.m_list IG rfl) bG))))) (bP (fv rfl rfl T.g_NoWood T.x_NoWood.cl (bE bM bG) (λ_ _ _ _ _ _ _ I t q=>fu I t q))) cu)
   (bQ (cj (i:=3) sc_wood_of.nd rfl (Or.inl rfl) (dN (bE (pv 0) (bE (dW i5 rfl T.m_tuple HM (bE (pv 1) bG)) (bE (dW i5 rfl T.m_tuple HM (bE (pv 2) bG)) bG)))))
   (bQ (eA (eP ag G.lv rfl T.K_check_boughs.g T.K_check_boughs.kp T.K_check_boughs.B .nil fj (bE (pv 0) (bE (bS (cO (K:=K)) (pv 3) bJ (λ_ _=>rfl)) bG))))
   (bQ (eA (eP aa G.lv rfl T.K_check_cross_ties.g T.K_check_cross_ties.kp T.K_check_cross_ties.B .nil fj (bE (pv 0) (bE (bS (cO (K:=K)) (pv 3) bJ (λ_ _=>rfl)) bG))))
   (bP (ce (pv 3))))))))),?_⟩
 refine⟨_,R,z,v0,1,9,R,X,_,R,?_⟩;by_cases F:dI z 1 9=true
 ·rw[F];refine cX ?_;obtain⟨b,rfl,m1,m9⟩:=iu F
  cases ji X
  refine⟨_,R,_,_,_,_,R,kg Y,xw n,_,R,?_⟩;by_cases C:sq n=true
  ·rw[C];refine cX ?_;refine⟨_,R,_,_,_,_,R,kg Z,xw o,_,R,?_⟩;by_cases D:sq o=true
   ·rw[D];refine cX ?_;obtain⟨k,rfl⟩:∃k,n=.list k:=by cases n<;>first|exact⟨_,rfl⟩|cases C
    obtain⟨l,rfl⟩:∃l,o=.list l:=by cases o<;>first|exact⟨_,rfl⟩|cases D
    obtain⟨p,c,rfl,hp,hl⟩:=(show ∃a c,v1=.ref a/\H a=some (.lst c)/\DnL H k c from Y)
    obtain⟨r,f,rfl,aC,av⟩:=(show ∃a c,v2=.ref a/\H a=some (.lst c)/\DnL H l c from Z)
    obtain⟨az,au⟩:=fb k rfl;obtain⟨aA,g3⟩:=fc l rfl;refine⟨_,R,_,R,p,c,R,.inl ⟨SqL.of hp,λtb ar=>?_⟩⟩;have S:=bL ar (.tup c);refine⟨_,R,r,f,R,.inl ⟨SqL.of (S _ _ aC),λe N=>?_⟩⟩;have aw:=S.trans (bL N (.tup f));refine⟨bT (by show 3<=1000;decide),λm y=>?_⟩;have x:=aw.trans (bL y (.tup [.int b,.ref tb,.ref e]));have ax:upd (upd (upd H tb (.tup c)) e (.tup f)) m (.tup [.int b,.ref tb,.ref e]) tb=some (.tup c):=(bL y _) _ _ ((bL N _) _ _ bI);have ay:upd (upd (upd H tb (.tup c)) e (.tup f)) m (.tup [.int b,.ref tb,.ref e]) e=some (.tup f):=(bL y _) _ _ bI;refine⟨_,R,_,R,m,_,_,_,R,R,bW bI,fO,b,tb,c,k,R,ax,DnL.same x _ _ hl,m1,m9,az,au,λg L j=>?_,λng L j=>u L (x.trans j)⟩;have aq:=j _ _ (show upd (upd (upd H tb (.tup c)) e (.tup f)) m (.tup [.int b,.ref tb,.ref e]) m=some (.tup [.int b,.ref tb,.ref e]) from bI);refine⟨_,R,_,R,m,_,_,_,R,R,bW aq,gQ,b,e,f,l,R,j _ _ ay,DnL.same (x.trans j) _ _ av,aA,g3,λU M O=>absurd ⟨b,k,l,R,m1,m9,R,R,g,U.1,U.2⟩ nw,λng M O=>u M (x.trans (j.trans O))⟩
   ·rw[Ho.mpr D];exact dB ⟨by show 1<=1000;decide,u H (Same.refl H)⟩
  ·rw[Ho.mpr C];exact dB ⟨by show 1<=1000;decide,u H (Same.refl H)⟩
 ·rw[Ho.mpr F];exact dB ⟨by show 1<=1000;decide,u H (Same.refl H)⟩
theorem FO(T:Txt K mg a d):cC P w K mg base (eh P w) 8 a.f_read d.f_read ["text"] (wP a.x_NoText a.x_NoWood):=by
 have ag:=qf (P:=P) (w:=w) (base:=base) T;have aa:=pE (P:=P) (w:=w) (base:=base) T;have ae:=pL (P:=P) (w:=w) (base:=base) T;have af:=qa (P:=P) (w:=w) (base:=base) T;have ah:=tW (P:=P) (w:=w) (base:=base) T;refine T.K_read.okR sc_read (λvs H Q E h=>?_) (λqq A ni s H vs Q E hr h=>?_)
 ·obtain⟨o,rfl,_⟩:=h
  rfl
 obtain⟨o,rfl,m,qt,qw⟩:=h;obtain⟨tl,ts⟩:=m.text;have aB:=m.few;refine⟨_,(bQ (cg (dY (dO (cA (ik (K:=K)) rfl T.m_isinstance Hr (bE (pv 0) (bE (gY (v:=.ty "str") rfl T.m_str HY rfl) bG))))) (bP (fv rfl rfl T.g_NoText T.x_NoText.cl (bE bM bG) (λ_ _ _ _ _ _ _ I D hW=>fu I D hW))) cu)
   (bQ (i7 (i:=1) sc_read.nd rfl rfl rfl (N':=["line"]) (n:=1) (kp:=[]) rfl (eR (K:=K) (cM (K:=K) Hf Ia Ib iw (pv 0) (bE bM bG))) rfl rfl rfl (λ_ _ _ _ _=>(cG (i:=0) (GJ rfl) rfl (Or.inl rfl))) (λ_ _ _ _ _=>fA) (λ_ _ _ _ _=>(cM (K:=K) Hf Ia Ib iw (pv 0) (bE bM bG))))
   (bQ (cj (i:=2) sc_read.nd rfl (Or.inl rfl) (eP ag hr.lv rfl T.K_names_in.g T.K_names_in.kp T.K_names_in.B .nil fj (bE (bS (cD (K:=K)) (pv 1) bJ (λ_ _=>rfl)) bG)))
   (bQ (cj (i:=3) sc_read.nd rfl (Or.inl rfl) (cB bG))
   (bQ (cj (i:=4) sc_read.nd rfl (Or.inl rfl) (cB bG))
   (bQ (eV Kx rfl (eR (K:=K) (dX dZ (pv 1) (dJ bJ) eK)) (cG (i:=5) sc_read.nd rfl (Or.inl rfl)) (bP (cg (dO (bY aa hr.lv rfl T.K_is_cross_line (bE (pv 5) bG))) (bP (eA (cM (K:=K) Hn Ht Hu fG (pv 4) (bE (eP ae hr.lv rfl T.K_cross_tie_in.g T.K_cross_tie_in.kp T.K_cross_tie_in.B .nil fj (bE (pv 2) (bE (pv 5) bG))) bG)))) (bP (cg (cm gq (cA (da (K:=K)) rfl T.m_len Hg (bE (pv 4) bG)) bJ (cf _)) (bP (fv rfl rfl T.g_NoText T.x_NoText.cl (bE bM bG) (λ_ _ _ _ _ _ _ I D hW=>fu I D hW))) (bP (eA (cM (K:=K) Hn Ht Hu fG (pv 3) (bE (eP af hr.lv rfl T.K_bough_in.g T.K_bough_in.kp T.K_bough_in.B .nil fj (bE (pv 2) (bE (pv 5) bG))) bG)))))))))
   (bP (ce (dN (bE (pv 2) (bE (eP ah hr.lv rfl T.K_wood_of.g T.K_wood_of.kp T.K_wood_of.B .nil fj (bE (cA (da (K:=K)) rfl T.m_len Hg (bE (pv 2) bG)) (bE (pv 3) (bE (pv 4) bG)))) bG))))))))))),?_⟩
 refine⟨_,R,_,_,_,_,R,.str _,tU,_,R,?_⟩;refine cX ?_;refine⟨_,R,R,_,_,R,R,R,tl,λp1 aV=>?_⟩;rw[ts];have s1:=bL aV (.lst ((o.map (Str.join " ")).map V.str));have a1:(upd H p1 (.lst ((o.map (Str.join " ")).map V.str))) p1=some (.lst (bF (o.map (Str.join " ")))):=bI;generalize upd H p1 (.lst ((o.map (Str.join " ")).map V.str))=H1 at s1 a1 |-;refine⟨p1,R,⟨_,SqL.of a1⟩,?_⟩;have lj:(bF (o.map (Str.join " "))).length=o.length:=by rw[bF,Gz,Gz]
 refine gZ (K:=K) (a:=p1) (xs:=bF (o.map (Str.join " "))) (λi q Z l=>(∃v,Z=[v])/\Same H1 l/\RefsAt l (o.take i) q) ⟨⟨none,R⟩,Same.refl _,⟨R,λj c e=>by rw[LH] at e;cases e⟩⟩ (λi q Z l hi pv=>?_) (λi q Z l hi pv=>?_) (λi x q Z l D pv=>?_) (λq Z l pv kl aO=>?_)
 ·obtain⟨_,_,G⟩:=pv;rw[G.1,G8];exact bT (by omega)
 ·exact SqL.of (pv.2.1 _ _ a1)
 ·obtain⟨⟨v,rfl⟩,Y,G⟩:=pv;unfold bF at D;rw[GQ,GQ] at D
  cases U:o[i]? with
  |none=>
   rw[U] at D
   cases D
  |some c=>
   rw[U] at D
   cases D
   obtain⟨wl,aT⟩:=m.line (GO U);refine⟨_,R,R,_,_,R,R,R,by omega,λp2 aK=>?_⟩;rw[aT];refine⟨⟨_,R⟩,Y.trans (bL aK _),?_⟩;rw[HQ,U];exact(G.same (bL aK _)).snoc bI
 obtain⟨_,Y,G⟩:=pv;rw[lj,Hy] at G;have aC:=bL aO (.lst q);have s2:=s1.trans (Y.trans aC);have a2:(upd l kl (.lst q)) kl=some (.lst q):=bI
 replace G:=G.same aC
 generalize upd l kl (.lst q)=H3 at s2 a2 G |-;clear aC Y aO l s1 a1;obtain⟨X,k,ak⟩:∃X k,o=X::k:=by
  cases o with
  |nil=>exact absurd rfl m.ne
  |cons x r=>exact⟨x,r,rfl⟩
 have m0:X∈o:=by rw[ak];exact GM
 have f0:X.length<=11:=by
  have:=m.first;rw[ak] at this;exact this
 obtain⟨a0,y0,aH⟩:=G.2 0 X (by rw[ak];rfl);have e0:jo o=(eL X).bind λf=>(cz f k [] []).map λp=>(f,p.1,p.2):=by
  rw[ak]
  rfl
 refine⟨_,R,kl,_,_,_,R,R,SqL.of a2,cS (j:=0) y0,a0,X,R,aH,m.nel X m0,m.fewl X m0,m.plain X m0,λf aj pn H4 ax aW az=>?_,λno H4 s4=>qt (by rw[e0,no];rfl) H4 (s2.trans s4)⟩;have aN:f.length<=10:=by
  unfold eL at aj
  split at aj
  ·cases aj
   rw[Hd];omega
  ·cases aj
 have s4:=s2.trans ax;have a4:=ax _ _ a2
 replace G:=G.same ax
 clear ax a2 s2 aH;refine⟨bT (by show 0<=1000;decide),λF aJ=>?_⟩;refine⟨bT (by show 0<=1000;decide),λy av=>?_⟩;have aD:F≠y:=cY bI av;have sb:=bL aJ (.lst []);have aP:H4 y=none:=sb.free av;have aw:=sb.trans (bL av (.lst []));have ab:(upd (upd H4 F (.lst [])) y (.lst [])) F=some (.lst []):=by
  rw[bR aD];exact bI
 have ac:(upd (upd H4 F (.lst [])) y (.lst [])) y=some (.lst []):=bI;generalize upd (upd H4 F (.lst [])) y (.lst [])=H5 at aw ab ac |-;clear sb av;refine⟨_,R,_,R,kl,_,R,SqL.of (aw _ _ a4),λp6 am=>?_⟩;rw[show dS q (some 1) none=q.drop 1 from jF _ 1];have aR:p6≠F:=λz=>by rw[z,ab] at am;cases am
 have aS:p6≠y:=λz=>by rw[z,ac] at am;cases am
 have ar:=bL am (.lst (q.drop 1));have s6:=aw.trans ar;have a6:(upd H5 p6 (.lst (q.drop 1))) p6=some (.lst (q.drop 1)):=bI
 replace ab:=ar _ _ ab
 replace ac:=ar _ _ ac
 generalize upd H5 p6 (.lst (q.drop 1))=H6 at s6 a6 ab ac |-;clear ar aw am;refine⟨p6,R,⟨_,SqL.of a6⟩,?_⟩;have rd:=G.drop;have el:o.drop 1=k:=by rw[ak];rfl
 rw[el] at rd;have aL:k.length<=40:=by
  rw[ak,GN] at aB;omega
 have ml:∀c∈k,c∈o:=λc h=>by rw[ak];exact GP _ h
 refine kK (K:=K) (a:=p6) (xs:=q.drop 1) (λi Z l=>(∃v5,Z=[some (.str (lq o)),some (.ref kl),some (.ref pn),some (.ref F),some (.ref y),v5])/\Same H4 l/\l p6=some (.lst (q.drop 1))/\∃(B:List Bg)(C:List Tie)(J S:List V),cz f (k.take i) [] []=some (B,C)/\l F=some (.lst J)/\l y=some (.lst S)/\DnL l (B.map λb=>b.tie.toD) J/\DnL l (C.map Tie.toD) S/\GoOk f B C i) ⟨⟨none,R⟩,s6,a6,[],[],[],[],R,ab,ac,R,R,GoOk.nil⟩ (λi Z l _ z=>SqL.of z.2.2.1) ?_ ?_
 ·rintro i x Z l D ⟨⟨v5,rfl⟩,Y,h6,B,C,J,S,go,hb,hc,db,dc,M⟩;have hi:i<k.length:=by
   have:=(GU.mp D).1;rw[rd.1] at this;exact this
  have U:=GG hi;obtain⟨c,aM⟩:∃c,c=k[i]:=⟨_,rfl⟩
  rw[<-aM] at U;have N:=ml c (GO U);obtain⟨pa,aI,hw⟩:=rd.2 i _ U;rw[D] at aI
  cases aI
  have step:∀O,k=k.take i++c::O->cz f k [] []=cz f (c::O) B C:=λO e=>by
   rw[e,gL,go]
   rfl
  have aq:k=k.take i++c::k.drop (i+1):=by
   rw[aM,List.getElem_cons_drop,IK]
  have st:=step _ aq;have lx:=db.length;have lz:=dc.length;rw[Gz] at lx lz;refine⟨_,R,pa,_,R,Y _ _ hw,m.nel c N,λH7 s7=>⟨_,R,?_⟩⟩;have aF:=s7 _ _ hb;have au:=s7 _ _ hc;have ai:=Y.trans s7;by_cases cr:dq c=true
  ·rw[cr];refine dB ?_;have e1:cz f (c::k.drop (i+1)) B C=(eF f c).bind λt=>cz f (k.drop (i+1)) B (C++[t]):=by
    show(if dq c=true then _ else _)=_;rw[Hl cr]
   refine⟨_,R,.inl ⟨R,_,SqL.of au⟩,_,R,_,R,pn,pa,f,c,R,ai _ _ az,ai _ _ hw,aN,m.nel c N,m.fewl c N,m.plain c N,cr,λt ht v L u dv=>?_,λno L u=>qt (by rw[e0,aj];show(cz f k [] []).map _=none;rw[st,e1,no];rfl) L (s4.trans (ai.trans u))⟩;have aA:=u _ _ au;have ao:=s7.trans u;have tp:gv L (upd L y (.lst (S++[v]))):=kP aA (λ_ z=>by cases z);refine⟨y,S,_,R,R,aA,HJ (show S.length<=40 by have:=M.few;omega) (by rw[HF];decide),⟨_,R⟩,Wd.Same.put (ai.trans u) aP aA,?_,B,C++[t],J,S++[v],?_,?_,bI,?_,?_,M.tie ht (m.fewl c N)⟩
   ·rw[bR aS];exact ao _ _ h6
   ·rw[HQ,U,gL,go];show cz f [c] B C=_;show(if dq c=true then _ else _)=_;rw[Hl cr,ht]
    rfl
   ·rw[bR aD];exact u _ _ aF
   ·exact DnL.tupS (n:=3) tp M.flatB (DnL.same ao _ _ db)
   ·rw[GX];exact(DnL.tupS (n:=3) tp M.flatC (DnL.same ao _ _ dc)).append ⟨v,[],R,Dn.tupS tp (va ht (m.fewl c N)).1 dv,R⟩
  ·rw[Ho.mpr cr];refine cX ?_;refine⟨_,R,y,_,R,.inl (SqL.of au),_,_,R,R,_,R,?_⟩;by_cases cn:C=[]
   ·subst cn;have aU:S=[]:=dc;subst aU;refine cX ?_;have e1:cz f (c::k.drop (i+1)) B []=(dQ f c).bind λb=>cz f (k.drop (i+1)) (B++[b]) []:=by
     show(if dq c=true then _ else if ([]:List Tie)≠[] then none else _)=_;rw[GY cr,GY (λz=>z rfl)]
    refine⟨_,R,.inl ⟨R,_,SqL.of aF⟩,_,R,_,R,pn,pa,f,c,R,ai _ _ az,ai _ _ hw,aN,m.nel c N,m.fewl c N,m.plain c N,λb aE v L u dv=>?_,λno L u=>qt (by rw[e0,aj];show(cz f k [] []).map _=none;rw[st,e1,no];rfl) L (s4.trans (ai.trans u))⟩;have aG:=u _ _ aF;have ao:=s7.trans u;have tp:gv L (upd L F (.lst (J++[v]))):=kP aG (λ_ z=>by cases z);refine⟨F,J,_,R,R,aG,HJ (show J.length<=40 by have:=M.few;omega) (by rw[HF];decide),⟨_,R⟩,Wd.Same.put (ai.trans u) aJ aG,?_,B++[b],[],J++[v],[],?_,bI,?_,?_,R,M.bough aE (m.fewl c N)⟩
    ·rw[bR aR];exact ao _ _ h6
    ·rw[HQ,U,gL,go];show cz f [c] B []=_;show(if dq c=true then _ else if ([]:List Tie)≠[] then none else _)=_;rw[GY cr,GY (λz=>z rfl),aE]
     rfl
    ·rw[bR aD.symm];exact u _ _ au
    ·rw[GX];exact(DnL.tupS (n:=3) tp M.flatB (DnL.same ao _ _ db)).append ⟨v,[],R,Dn.tupS tp (nq (by have:=uk aE;have:=m.fewl c N;omega)) dv,R⟩
   ·rw[show decide ((0:Int)<((S.length:Nat):Int))=true from GF (by
     have:C.length≠0:=λz=>cn (Jp.mp z);omega)]
    refine dB ⟨by show 1<=1000;decide,qt ?_ H7 (s4.trans ai)⟩;rw[e0,aj];show(cz f k [] []).map _=none;rw[st];show Option.map _ (if dq c=true then _ else if C≠[] then none else _)=none;rw[GY cr,Hl cn]
    rfl
 ·rintro Z l ⟨⟨v5,rfl⟩,Y,h6,B,C,J,S,go,hb,hc,db,dc,M⟩;rw[rd.1,Hy] at go;have el:(bF f).length=f.length:=by rw[bF,Gz]
  have ay:=Y _ _ az;obtain⟨aQ,nw,qe⟩:=qw f B C (by rw[e0,aj];show(cz f k [] []).map _=_;rw[go];rfl);rw[rd.1] at M;refine⟨_,R,_,R,pn,_,R,.inl (SqL.of ay),_,R,_,R,.int ((bF f).length:Int),.ref F,.ref y,.int (f.length:Int),.list (B.map λb=>b.tie.toD),.list (C.map Tie.toD),R,by rw[el];rfl,⟨F,J,R,hb,db⟩,⟨y,S,R,hc,dc⟩,M.fewB aL aQ,M.fewC aL,nw,λL u=>qe L (s4.trans (Y.trans u))⟩
theorem FX(T:Txt K mg a d):cC P w K mg base (eh P w) 8 a.f_read d.f_read ["text"] (wR K a.x_NoText):=by
 have o:=qf (P:=P) (w:=w) (base:=base) T;have k:=pE (P:=P) (w:=w) (base:=base) T;have l:=pL (P:=P) (w:=w) (base:=base) T;have m:=qa (P:=P) (w:=w) (base:=base) T;have p:=tW (P:=P) (w:=w) (base:=base) T;refine T.K_read.okR sc_read (λt H Q E h=>?_) (λq A j s H t Q E b h=>?_)
 ·obtain⟨x,T,rfl,_⟩:=h
  rfl
 obtain⟨x,u,rfl,c,e,r⟩:=h;refine⟨_,(bQ (cg (dY (dO (cA (ik (K:=K)) rfl T.m_isinstance Hr (bE (pv 0) (bE (gY (v:=.ty "str") rfl T.m_str HY rfl) bG))))) (bP (fv rfl rfl T.g_NoText T.x_NoText.cl (bE bM bG) (λ_ _ _ _ _ _ _ I c f=>fu I c f))) cu)
   (bQ (i7 (i:=1) sc_read.nd rfl rfl rfl (N':=["line"]) (n:=1) (kp:=[]) rfl (eR (K:=K) (cM (K:=K) Hf Ia Ib iw (pv 0) (bE bM bG))) rfl rfl rfl (λ_ _ _ _ _=>(cG (i:=0) (GJ rfl) rfl (Or.inl rfl))) (λ_ _ _ _ _=>fA) (λ_ _ _ _ _=>(cM (K:=K) Hf Ia Ib iw (pv 0) (bE bM bG))))
   (bQ (cj (i:=2) sc_read.nd rfl (Or.inl rfl) (eP o b.lv rfl T.K_names_in.g T.K_names_in.kp T.K_names_in.B .nil fj (bE (bS (cD (K:=K)) (pv 1) bJ (λ_ _=>rfl)) bG)))
   (bQ (cj (i:=3) sc_read.nd rfl (Or.inl rfl) (cB bG))
   (bQ (cj (i:=4) sc_read.nd rfl (Or.inl rfl) (cB bG))
   (bQ (eV Kx rfl (eR (K:=K) (dX dZ (pv 1) (dJ bJ) eK)) (cG (i:=5) sc_read.nd rfl (Or.inl rfl)) (bP (cg (dO (bY k b.lv rfl T.K_is_cross_line (bE (pv 5) bG))) (bP (eA (cM (K:=K) Hn Ht Hu fG (pv 4) (bE (eP l b.lv rfl T.K_cross_tie_in.g T.K_cross_tie_in.kp T.K_cross_tie_in.B .nil fj (bE (pv 2) (bE (pv 5) bG))) bG)))) (bP (cg (cm gq (cA (da (K:=K)) rfl T.m_len Hg (bE (pv 4) bG)) bJ (cf _)) (bP (fv rfl rfl T.g_NoText T.x_NoText.cl (bE bM bG) (λ_ _ _ _ _ _ _ I c f=>fu I c f))) (bP (eA (cM (K:=K) Hn Ht Hu fG (pv 3) (bE (eP m b.lv rfl T.K_bough_in.g T.K_bough_in.kp T.K_bough_in.B .nil fj (bE (pv 2) (bE (pv 5) bG))) bG)))))))))
   (bP (ce (dN (bE (pv 2) (bE (eP p b.lv rfl T.K_wood_of.g T.K_wood_of.kp T.K_wood_of.B .nil fj (bE (cA (da (K:=K)) rfl T.m_len Hg (bE (pv 2) bG)) (bE (pv 3) (bE (pv 4) bG)))) bG))))))))))),?_⟩
 refine⟨_,R,_,_,_,_,R,c,e,_,R,dB ?_⟩;exact⟨by show 1<=1000;decide,r H (Same.refl H)⟩
theorem F1(T:Txt K mg a d):cC P w K mg base (eh P w) 8 a.f_read d.f_read ["text"] (rm K a.x_NoText a.x_NoWood):=by
 obtain⟨l,m⟩:=FO (P:=P) (w:=w) (base:=base) T;obtain⟨n,o⟩:=FX (P:=P) (w:=w) (base:=base) T;refine⟨λe H Q E h=>?_,λA b s H c k e Q E i f g j h=>?_⟩
 ·rcases h with h|h
  ·exact l e H Q E h
  ·exact n e H Q E h
 ·rcases h with h|h
  ·exact m A b s H c k e Q E i f g j h
  ·exact o A b s H c k e Q E i f g j h
theorem Cw(T:Txt K mg a d):cC P w K mg base cK 9 a.f_law_refused d.f_law_refused ["_law_thing", "_law_is_text"] (DT K):=by
 have G:=F1 (P:=P) (w:=w) (base:=base) T;refine T.K_law_refused.ok sc_law_refused (λZ H Q E h=>?_) (λL A o s H Z Q E O h=>?_)
 ·obtain⟨x,b,rfl,_⟩:=h
  rfl
 obtain⟨x,b,rfl,U,q⟩:=h;obtain⟨W,u⟩:∃W:XK,W=λl _ e=>l=.ref (if b=true then a.x_NoText else a.x_NoWood)/\Same H e:=⟨_,rfl⟩
 refine⟨_,(bQ (cj (i:=2) sc_law_refused.nd rfl (Or.inl rfl) rN)
   (bQ (DF (i:=3) (W:=W) rfl rfl G O.lv rfl T.K_read.g T.K_read.kp T.K_read.B .nil (λ_ _=>(bE (pv 0) bG)) rfl T.g_WoodError T.x_WoodError.cl sc_law_refused.nd rfl rfl (Or.inl rfl) (λ_=>(bP (cj (i:=2) sc_law_refused.nd rfl (Or.inl rfl) (pv 3)))))
   (bQ (cg (PW.pt (iE (cm Ac (pv 2) rN (cf _)) (iQ (dY (dO (cA (oX (K:=K)) rfl T.m_isinstance Hr (bE (pv 2) (bE (gY (v:=.ty "ValueError") rfl T.m_ValueError ym rfl) bG)))))))) (bP (ce eY)) cu)
   (bQ (cg (dO (cA (AZ (K:=K)) rfl T.m_isinstance Hr (bE (pv 2) (bE (dN (bE (fU (v:=.ref a.x_NoCount) rfl T.g_NoCount rfl) (bE (fU (v:=.ref a.x_NoName) rfl T.g_NoName rfl) (bE (fU (v:=.ref a.x_NoOffer) rfl T.g_NoOffer rfl) (bE (fU (v:=.ref a.x_NoRow) rfl T.g_NoRow rfl) (bE (fU (v:=.ref a.x_NoWares) rfl T.g_NoWares rfl) (bE (fU (v:=.ref a.x_Unlike) rfl T.g_Unlike rfl) bG))))))) bG)))) (bP (ce eY)) cu)
   (bP (ce (ii (gg cP (cA (oX (K:=K)) rfl T.m_isinstance Hr (bE (pv 2) (bE (fU (v:=.ref a.x_NoText) rfl T.g_NoText rfl) bG))) (pv 1) (cf _)) (ig (gg kh (cA (oX (K:=K)) rfl T.m_isinstance Hr (bE (pv 2) (bE (fU (v:=.ref a.x_NoWood) rfl T.g_NoWood rfl) bG))) (pv 1) (cf _)))))))))),?_⟩
 have f:∀(r:VK),rm K a.x_NoText a.x_NoWood [x] H r W:=λr=>U.read λe X=>by rw[u];exact⟨R,X⟩
 refine⟨⟨_,R,f _⟩,?_⟩;intro e c Dc w1 J;rw[u] at w1;obtain⟨M,Y⟩:=w1
 cases Value.ref.inj M
 obtain⟨D,t⟩:∃D,D=(if b=true then a.x_NoText else a.x_NoWood):=⟨_,rfl⟩
 have S:gw K D/\PySem.W.excIn K D gr fY=true/\jS K D a.x_WoodError=true/\PySem.W.kitOne K (.ref D) (.type "ValueError")=some true/\(∀C∈[a.x_NoCount,a.x_NoName,a.x_NoOffer,a.x_NoRow,a.x_NoWares,a.x_Unlike],PySem.W.kitOne K (.ref D) (.ref C)=some false)/\PySem.W.kitOne K (.ref D) (.ref a.x_NoText)=some b/\PySem.W.kitOne K (.ref D) (.ref a.x_NoWood)=some (!b):=by
  rw[t]
  cases b with
  |true=>
   refine⟨T.x_NoText,T.x_NoText.cl,T.s_NoText_WoodError,T.v_NoText,λC j=>?_,T.k_NoText_NoText,T.k_NoText_NoWood⟩;simp only[GI,Hs,Iw] at j;rcases j with rfl|rfl|rfl|rfl|rfl|rfl
   ·exact T.k_NoText_NoCount
   ·exact T.k_NoText_NoName
   ·exact T.k_NoText_NoOffer
   ·exact T.k_NoText_NoRow
   ·exact T.k_NoText_NoWares
   ·exact T.k_NoText_Unlike
  |false=>
   refine⟨T.x_NoWood,T.x_NoWood.cl,T.s_NoWood_WoodError,T.v_NoWood,λC j=>?_,T.k_NoWood_NoText,T.k_NoWood_NoWood⟩;simp only[GI,Hs,Iw] at j;rcases j with rfl|rfl|rfl|rfl|rfl|rfl
   ·exact T.k_NoWood_NoCount
   ·exact T.k_NoWood_NoName
   ·exact T.k_NoWood_NoOffer
   ·exact T.k_NoWood_NoRow
   ·exact T.k_NoWood_NoWares
   ·exact T.k_NoWood_Unlike
 obtain⟨k,x2,x3,x4,x5,x6,x7⟩:=S;rw[<-t];refine⟨x2,x3,?_⟩;have y:=bL J (.ext (h7 c D));have n:L2.upd e c (.ext (h7 c D)) c=some (.ext (h7 c D)):=bI;generalize L2.upd e c (.ext (h7 c D))=F at y n |-;refine⟨_,R,?_⟩;refine⟨_,R,R,_,R,cX ?_⟩;refine⟨_,R,c,_,_,_,R,n,k,.inr ⟨_,R,x4⟩,_,R,cX ?_⟩;refine⟨_,R,bT (by show 6<=1000;decide),λp I=>?_⟩;have z:=bL I (.tup ([a.x_NoCount,a.x_NoName,a.x_NoOffer,a.x_NoRow,a.x_NoWares,a.x_Unlike].map V.ref));have N:L2.upd F p (.tup ([a.x_NoCount,a.x_NoName,a.x_NoOffer,a.x_NoRow,a.x_NoWares,a.x_Unlike].map V.ref)) p=some (.tup ([a.x_NoCount,a.x_NoName,a.x_NoOffer,a.x_NoRow,a.x_NoWares,a.x_Unlike].map V.ref)):=bI;have m:=z _ _ n;refine⟨c,_,p,_,R,m,k,N,x5,_,R,cX ?_⟩;refine⟨_,R,c,_,_,_,R,m,k,.inl ⟨_,R,x6⟩,_,R,R,_,R,?_⟩;rw[GF rfl];refine dB ?_;refine⟨_,R,c,_,_,_,R,m,k,.inl ⟨_,R,x7⟩,_,R,R,?_⟩;rw[show(!decide (V.bl (!b)=V.bl b))=true from by cases b<;>rfl];exact q _ ((Y.trans y).trans z)
theorem zx(T:Txt K mg a d):cC P w K mg base cK 12 a.f_law d.f_law ["_law_script"] (oH K):=by
 have ag:=Dm (P:=P) (w:=w) (base:=base) T;have af:=CC (P:=P) (w:=w) (base:=base) T;have ak:=FY (P:=P) (w:=w) (base:=base) T;have ai:=zi (P:=P) (w:=w) (base:=base) T;have aa:=Cp (P:=P) (w:=w) (base:=base) T;have ae:=Cw (P:=P) (w:=w) (base:=base) T;refine T.K_law.ok sc_law (λvs H Q E h=>?_) (λni A aB s H vs Q E j h=>?_)
 ·obtain⟨p,O,rfl,_⟩:=h
  rfl
 obtain⟨v,O,rfl,hS,hl,q⟩:=h;have aF:(2:Int)^62=4611686018427387904:=by decide
 refine⟨_,(bQ (cj (i:=1) sc_law.nd rfl (Or.inl rfl) (cB (bE (pv 0) (bE bJ bG))))
   (bQ (cj (i:=2) sc_law.nd rfl (Or.inl rfl) (bY ag j.lv rfl T.K_law_wood (bE (pv 1) bG)))
   (bQ (cj (i:=3) sc_law.nd rfl (Or.inl rfl) (bY af j.lv rfl T.K_law_names (bE (pv 1) (bE (bS (cO (K:=K)) (pv 2) bJ (λ_ _=>rfl)) bG))))
   (bQ (cj (i:=4) sc_law.nd rfl (Or.inl rfl) (bY ak j.lv rfl T.K_shown (bE (dW tO rfl T.m_list IG (bE (pv 3) bG)) (bE (pv 2) bG))))
   (bQ (cg (cm (uG j.units) (bY ai j.lv rfl T.K_read (bE (pv 4) bG)) (dN (bE (pv 3) (bE (pv 2) bG))) (cf _)) (bP (ce eY)) cu)
   (bQ (eV HU rfl (iL rfl T.m_range (bE bJ bG)) (cG (i:=5) sc_law.nd rfl (Or.inl rfl)) (bQ (rX (bY aa j.lv rfl T.K_law_spoiled (bE (pv 1) (bE (pv 4) (bE (pv 3) (bE (pv 2) bG))))) (i3 (K:=K) (n:=2) rfl (eU (cG (i:=6) sc_law.nd rfl (Or.inl rfl)) (eU (cG (i:=7) sc_law.nd rfl (Or.inl rfl)) jc))))
   (bP (cg (dY (dO (bY ae j.lv rfl T.K_law_refused (bE (pv 6) (bE (pv 7) bG))))) (bP (ce eY)) cu))))
   (bP (ce (gg (uH j.units) (bY ai j.lv rfl T.K_read (bE (pv 4) bG)) (dN (bE (pv 3) (bE (pv 2) bG))) (cf _)))))))))),?_⟩
 refine⟨_,R,bT (by show 2<=1000;decide),λc az=>?_⟩;have S:=yn hS hl az;generalize L2.upd H c (.lst [.ref v,.int 0])=H1 at S |-;refine⟨_,R,c,v,O,0,R,S,by decide,by decide,λl m bs cs k2 H2 x2 aI bg bc m1 m9 W2 c8 sd=>?_⟩;obtain⟨aW,bb,⟨aZ,aX,aA,_,_⟩,_,_⟩:=W2.ex;refine⟨_,R,_,R,l,_,_,_,R,R,bW aA,fg,c,v,O,m,k2,R,S.to x2 aI,by omega,by omega,m1,m9,λr e k3 H3 x3 aS be aY ba aG N aT=>?_⟩;subst aT;have W3:=W2.tupS (SameX.tup aI x3);obtain⟨tb,tc,L,C,W,o⟩:=Fy W3 c8 sd N;have n9:=N.few;have pl:=CI N;refine⟨_,R,r,_,R,.inl (SqL.of aG),λM aQ=>?_⟩;have B:=bL aQ (.lst (bF e));have au:(L2.upd H3 M (.lst (bF e))) M=some (.lst (bF e)):=bI;have aq:=B _ _ aG;have aE:=B _ _ aS;have U:=W.same B;have x4:=(x2.trans x3).trans (Same.x (pen:=c) B);generalize L2.upd H3 M (.lst (bF e))=H4 at B au aq aE U x4 |-;refine⟨_,R,M,l,tb,tc,e,L,C,R,au,U,λb hb=>?_,o.n8,o.sm,λH5 s5=>?_⟩
 ·have:=(o.okb b hb).hik;have:=(o.okb b hb).few;omega
 have D:=Di W pl;have er:PyData.eqv (jJ e L C) (jJ e L C)=true:=ww _ (Jv D);refine⟨_,R,e,L,C,R,o,λp aR aP aO aU H6 s6 aK u I W6=>?_⟩;have z:=s5.trans s6;have Z:=z _ _ aq;have aJ:=z _ _ aE;have Y:=U.same z;have x6:=x4.trans (Same.x (pen:=c) z);refine⟨_,R,_,R,bT (by show 2<=1000;decide),λpt J=>?_⟩;have g:=bL J (.tup [.ref r,.ref l]);refine⟨jJ e L C,jJ e L C,nZ (g _ _ u) (g _ _ I) (W6.same g),nZ bI (g _ _ Z) (Y.same g),D,D,_,R,?_⟩;rw[er];refine cX ?_;have ao:=g _ _ Z;have aH:=g _ _ aJ;have W7:=Y.same g;have x7:=x6.trans (Same.x (pen:=c) g);generalize L2.upd H6 pt (.tup [.ref r,.ref l])=H7 at ao aH W7 x7 |-;clear g J Y W6 u I aK z s6 s5 Z aJ x6;refine⟨_,R,by rw[aF];decide,by rw[aF];decide,?_⟩;refine nE (n:=8) (λi σ t=>(∃v5 v6 v7,σ=[some (.ref v),some (.ref c),some (.ref l),some (.ref r),some (.str (fV e L C)),v5,v6,v7])/\SameX c H1 t/\t r=some (.lst (bF e))/\WoodP t l tb tc e.length L C/\∃k,t c=some (.lst [.ref v,.int k])/\0<=k/\k<=1000+10*i) ⟨⟨_,_,_,R⟩,x7,ao,W7,k3,aH,by omega,by omega⟩ ?_ ?_
 ·rintro i σ t hi ⟨⟨v5,v6,v7,rfl⟩,x8,y,F,k,G,aL,aM⟩;refine⟨_,R,_,R,_,R,_,R,c,v,r,l,tb,tc,O,k,e,L,C,R,S.to x8 G,aL,by omega,y,F,o,λx b p k' H9 x9 aV l1 l2 u aN=>?_⟩;have aC:=x9 _ _ (gA y G) y;have X:=F.tupS (SameX.tup G x9);refine⟨p,_,R,bW u,R,_,_,R,_,_,R,R,?_⟩;refine⟨_,R,_,R,x,b,R,aN,λbh f=>⟨_,R,cX ?_⟩⟩;exact⟨⟨_,_,_,R⟩,(x8.trans x9).trans (Same.x f),f _ _ aC,X.same f,k',f _ _ aV,by omega,by omega⟩
 ·rintro σ t ⟨⟨v5,v6,v7,rfl⟩,x8,y,F,k,G,aL,aM⟩;refine⟨_,R,e,L,C,R,o,λp aR aP aO aU H9 s9 aK u I X=>?_⟩;refine⟨_,R,_,R,bT (by show 2<=1000;decide),λpt J=>?_⟩;have f:=bL J (.tup [.ref r,.ref l]);refine⟨jJ e L C,jJ e L C,nZ (f _ _ u) (f _ _ I) (X.same f),nZ bI (f _ _ (s9 _ _ y)) ((F.same s9).same f),D,D,?_⟩;rw[er];exact q _
end
theorem all_mk{l:PySem.W.OpenLaw}{w:World}{K:PySem.W.Frag}{h:Heap}{mg:Str->Option Value}{fa f1 f2 f3 f4 f5 f6 f7 f8 f9 f10 f11 f12 f13 f14 f15 f16 f17 f18 f19 f20 f21 f22 f23 f24 f25 f26 f27 f28 f29 f30 f31 f32 f33 f34 f35 f36 f37 f38 f39 f40 f41 f42 f43 f44 f45 y_WoodError y_NoWood y_NoCount y_NoWares y_NoOffer y_Unlike y_NoText y_NoRow y_NoName y_NO_NAMES:Addr}(X:K.In h)(G:h.Ns mainGlobals mg)(hfa:mg "law" = some (.ref fa))
  {d1 d2 d3 d4 d5 d6 d7 d8 d9 d10 d11 d12 d13 d14 d15 d16 d17 d18 d19 d20 d21 d22 d23 d24 d25 d26 d27 d28 d29 d30 d31 d32 d33 d34 d35 d36 d37 d38 d39 d40 d41 d42 d43 d44 d45:FuncData}
  (a1:Dk K "wood_of" qU f1 d1)
  (a2:Dk K "check_boughs" pR f2 d2)
  (a3:Dk K "check_cross_ties" pG f3 d3)
  (a4:Dk K "is_whole" qz f4 d4)
  (a5:Dk K "is_whole_within" pJ f5 d5)
  (a6:Dk K "is_option" qp f6 d6)
  (a7:Dk K "is_tuple_of_length" pj f7 d7)
  (a8:Dk K "is_filled_tuple" pC f8 d8)
  (a9:Dk K "are_rising_options" pz f9 d9)
  (a10:Dk K "is_bough" qA f10 d10)
  (a11:Dk K "is_cross_tie" pK f11 d11)
  (a12:Dk K "are_pairs" pU f12 d12)
  (a13:Dk K "read" qS f13 d13)
  (a14:Dk K "names_in" qd f14 d14)
  (a15:Dk K "is_name" qO f15 d15)
  (a16:Dk K "is_number" ql f16 d16)
  (a17:Dk K "is_made_of" pO f17 d17)
  (a18:Dk K "number_in" pZ f18 d18)
  (a19:Dk K "option_in" qm f19 d19)
  (a20:Dk K "rising_in" pS f20 d20)
  (a21:Dk K "bough_in" qF f21 d21)
  (a22:Dk K "bounds_in" qo f22 d22)
  (a23:Dk K "words_of_bounds" pD f23 d23)
  (a24:Dk K "is_cross_line" pN f24 d24)
  (a25:Dk K "cross_tie_in" pQ f25 d25)
  (a26:Dk K "most_in" qg f26 d26)
  (a27:Dk K "shown" qM f27 d27)
  (a28:Dk K "words_of_cross_tie" pi f28 d28)
  (a29:Dk K "_law_take" lM f29 d29)
  (a30:Dk K "_law_bough" qr f30 d30)
  (a31:Dk K "_law_boughs" pH f31 d31)
  (a32:Dk K "_law_most" j3 f32 d32)
  (a33:Dk K "_law_cross" qi f33 d33)
  (a34:Dk K "_law_wood" jZ f34 d34)
  (a35:Dk K "_law_names" lL f35 d35)
  (a36:Dk K "_law_first_lines" pB f36 d36)
  (a37:Dk K "_law_fresh" pT f37 d37)
  (a38:Dk K "_law_no_lines" pP f38 d38)
  (a39:Dk K "_law_no_wood" pM f39 d39)
  (a40:Dk K "_law_from_line" pF f40 d40)
  (a41:Dk K "_law_turned_line" pI f41 d41)
  (a42:Dk K "_law_bent_lines" lK f42 d42)
  (a43:Dk K "_law_spoiled" pX f43 d43)
  (a44:Dk K "_law_refused" pW f44 d44)
  (a45:Dk K "law" sr f45 d45)
  (z1:PySem.W.nsIn K mainGlobals "ValueError" = some none)
  (z2:PySem.W.nsIn K mainGlobals "range" = some none)
  (z3:PySem.W.nsIn K mainGlobals "len" = some none)
  (z4:PySem.W.nsIn K mainGlobals "isinstance" = some none)
  (z5:PySem.W.nsIn K mainGlobals "min" = some none)
  (z6:PySem.W.nsIn K mainGlobals "all" = some none)
  (z7:PySem.W.nsIn K mainGlobals "int" = some none)
  (z8:PySem.W.nsIn K mainGlobals "bool" = some none)
  (z9:PySem.W.nsIn K mainGlobals "list" = some none)
  (z10:PySem.W.nsIn K mainGlobals "tuple" = some none)
  (z11:PySem.W.nsIn K mainGlobals "str" = some none)
  (z12:PySem.W.nsIn K mainGlobals "sorted" = some none)
  (z13:PySem.W.nsIn K mainGlobals "enumerate" = some none)
  (z14:PySem.W.nsIn K mainGlobals "zip" = some none)
  (z15:PySem.W.nsIn K mainGlobals "set" = some none)
  {tc1:Tok} (v1:PySem.W.nsIn K mainGlobals "MOST_OPTIONS" = some (some (Value.int 9 tc1)))
  {tc2:Tok} (v2:PySem.W.nsIn K mainGlobals "MOST_CROSS_TIES" = some (some (Value.int 8 tc2)))
  {tc3:Tok} (v3:PySem.W.nsIn K mainGlobals "LETTERS" = some (some (Value.str "abcdefghijklmnopqrstuvwxyz" tc3)))
  {tc4:Tok} (v4:PySem.W.nsIn K mainGlobals "FIGURES" = some (some (Value.str "0123456789" tc4)))
  {tc5:Tok} (v5:PySem.W.nsIn K mainGlobals "LONGEST_NAME" = some (some (Value.int 8 tc5)))
  {tc6:Tok} (v6:PySem.W.nsIn K mainGlobals "MOST_FIGURES" = some (some (Value.int 60 tc6)))
  (tg1:PySem.W.nsIn K mainGlobals "NO_NAMES" = some (some (.ref y_NO_NAMES))) (tq1:mP K y_NO_NAMES ["must", "may", "one", "from", "needs", "bans", "most"]=true)
  (g_WoodError:PySem.W.nsIn K mainGlobals "WoodError" = some (some (.ref y_WoodError)))
  (g_NoWood:PySem.W.nsIn K mainGlobals "NoWood" = some (some (.ref y_NoWood)))
  (g_NoCount:PySem.W.nsIn K mainGlobals "NoCount" = some (some (.ref y_NoCount)))
  (g_NoWares:PySem.W.nsIn K mainGlobals "NoWares" = some (some (.ref y_NoWares)))
  (g_NoOffer:PySem.W.nsIn K mainGlobals "NoOffer" = some (some (.ref y_NoOffer)))
  (g_Unlike:PySem.W.nsIn K mainGlobals "Unlike" = some (some (.ref y_Unlike)))
  (g_NoText:PySem.W.nsIn K mainGlobals "NoText" = some (some (.ref y_NoText)))
  (g_NoRow:PySem.W.nsIn K mainGlobals "NoRow" = some (some (.ref y_NoRow)))
  (g_NoName:PySem.W.nsIn K mainGlobals "NoName" = some (some (.ref y_NoName)))
  (xa_WoodError:PySem.W.excIn K y_WoodError gr fY=true) (xb_WoodError:PySem.W.findIn K (.ref y_WoodError) "__getattribute__" = some (some (.builtin "BaseException.__getattribute__"))) (xc_WoodError:PySem.W.findIn K (.ref y_WoodError) "__getattr__" = some none) (xd_WoodError:PySem.W.findIn K (.ref y_WoodError) "__class__" = some (some (.builtin "object.__class__")))
  (xa_NoWood:PySem.W.excIn K y_NoWood gr fY=true) (xb_NoWood:PySem.W.findIn K (.ref y_NoWood) "__getattribute__" = some (some (.builtin "BaseException.__getattribute__"))) (xc_NoWood:PySem.W.findIn K (.ref y_NoWood) "__getattr__" = some none) (xd_NoWood:PySem.W.findIn K (.ref y_NoWood) "__class__" = some (some (.builtin "object.__class__")))
  (xa_NoCount:PySem.W.excIn K y_NoCount gr fY=true) (xb_NoCount:PySem.W.findIn K (.ref y_NoCount) "__getattribute__" = some (some (.builtin "BaseException.__getattribute__"))) (xc_NoCount:PySem.W.findIn K (.ref y_NoCount) "__getattr__" = some none) (xd_NoCount:PySem.W.findIn K (.ref y_NoCount) "__class__" = some (some (.builtin "object.__class__")))
  (xa_NoWares:PySem.W.excIn K y_NoWares gr fY=true) (xb_NoWares:PySem.W.findIn K (.ref y_NoWares) "__getattribute__" = some (some (.builtin "BaseException.__getattribute__"))) (xc_NoWares:PySem.W.findIn K (.ref y_NoWares) "__getattr__" = some none) (xd_NoWares:PySem.W.findIn K (.ref y_NoWares) "__class__" = some (some (.builtin "object.__class__")))
  (xa_NoOffer:PySem.W.excIn K y_NoOffer gr fY=true) (xb_NoOffer:PySem.W.findIn K (.ref y_NoOffer) "__getattribute__" = some (some (.builtin "BaseException.__getattribute__"))) (xc_NoOffer:PySem.W.findIn K (.ref y_NoOffer) "__getattr__" = some none) (xd_NoOffer:PySem.W.findIn K (.ref y_NoOffer) "__class__" = some (some (.builtin "object.__class__")))
  (xa_Unlike:PySem.W.excIn K y_Unlike gr fY=true) (xb_Unlike:PySem.W.findIn K (.ref y_Unlike) "__getattribute__" = some (some (.builtin "BaseException.__getattribute__"))) (xc_Unlike:PySem.W.findIn K (.ref y_Unlike) "__getattr__" = some none) (xd_Unlike:PySem.W.findIn K (.ref y_Unlike) "__class__" = some (some (.builtin "object.__class__")))
  (xa_NoText:PySem.W.excIn K y_NoText gr fY=true) (xb_NoText:PySem.W.findIn K (.ref y_NoText) "__getattribute__" = some (some (.builtin "BaseException.__getattribute__"))) (xc_NoText:PySem.W.findIn K (.ref y_NoText) "__getattr__" = some none) (xd_NoText:PySem.W.findIn K (.ref y_NoText) "__class__" = some (some (.builtin "object.__class__")))
  (xa_NoRow:PySem.W.excIn K y_NoRow gr fY=true) (xb_NoRow:PySem.W.findIn K (.ref y_NoRow) "__getattribute__" = some (some (.builtin "BaseException.__getattribute__"))) (xc_NoRow:PySem.W.findIn K (.ref y_NoRow) "__getattr__" = some none) (xd_NoRow:PySem.W.findIn K (.ref y_NoRow) "__class__" = some (some (.builtin "object.__class__")))
  (xa_NoName:PySem.W.excIn K y_NoName gr fY=true) (xb_NoName:PySem.W.findIn K (.ref y_NoName) "__getattribute__" = some (some (.builtin "BaseException.__getattribute__"))) (xc_NoName:PySem.W.findIn K (.ref y_NoName) "__getattr__" = some none) (xd_NoName:PySem.W.findIn K (.ref y_NoName) "__class__" = some (some (.builtin "object.__class__")))
  (k_NoWood_WoodError:PySem.W.kitOne K (.ref y_NoWood) (.ref y_WoodError)=some true)
  (k_NoWood_NoWood:PySem.W.kitOne K (.ref y_NoWood) (.ref y_NoWood)=some true)
  (k_NoWood_NoCount:PySem.W.kitOne K (.ref y_NoWood) (.ref y_NoCount)=some false)
  (k_NoWood_NoWares:PySem.W.kitOne K (.ref y_NoWood) (.ref y_NoWares)=some false)
  (k_NoWood_NoOffer:PySem.W.kitOne K (.ref y_NoWood) (.ref y_NoOffer)=some false)
  (k_NoWood_Unlike:PySem.W.kitOne K (.ref y_NoWood) (.ref y_Unlike)=some false)
  (k_NoWood_NoText:PySem.W.kitOne K (.ref y_NoWood) (.ref y_NoText)=some false)
  (k_NoWood_NoRow:PySem.W.kitOne K (.ref y_NoWood) (.ref y_NoRow)=some false)
  (k_NoWood_NoName:PySem.W.kitOne K (.ref y_NoWood) (.ref y_NoName)=some false)
  (v_NoWood:PySem.W.kitOne K (.ref y_NoWood) (.type "ValueError")=some true)
  (s_NoWood_WoodError:jS K y_NoWood y_WoodError=true)
  (k_NoText_WoodError:PySem.W.kitOne K (.ref y_NoText) (.ref y_WoodError)=some true)
  (k_NoText_NoWood:PySem.W.kitOne K (.ref y_NoText) (.ref y_NoWood)=some false)
  (k_NoText_NoCount:PySem.W.kitOne K (.ref y_NoText) (.ref y_NoCount)=some false)
  (k_NoText_NoWares:PySem.W.kitOne K (.ref y_NoText) (.ref y_NoWares)=some false)
  (k_NoText_NoOffer:PySem.W.kitOne K (.ref y_NoText) (.ref y_NoOffer)=some false)
  (k_NoText_Unlike:PySem.W.kitOne K (.ref y_NoText) (.ref y_Unlike)=some false)
  (k_NoText_NoText:PySem.W.kitOne K (.ref y_NoText) (.ref y_NoText)=some true)
  (k_NoText_NoRow:PySem.W.kitOne K (.ref y_NoText) (.ref y_NoRow)=some false)
  (k_NoText_NoName:PySem.W.kitOne K (.ref y_NoText) (.ref y_NoName)=some false)
  (v_NoText:PySem.W.kitOne K (.ref y_NoText) (.type "ValueError")=some true)
  (s_NoText_WoodError:jS K y_NoText y_WoodError=true)
  : (∃fd:FuncData,(∀(s:Shared)(v:Value),BindsTo s fd ⟨[v],[]⟩ [("_law_script",v)])/\∀base:Heap,K.In base->base.Ns mainGlobals mg->cC l.prog w K mg base cK 12 fa fd ["_law_script"] (oH K)):=by
 have e:=hfa.symm.trans (Ii X G a45.1)
 cases e
 have T:Txt K mg ⟨f1,f2,f3,f4,f5,f6,f7,f8,f9,f10,f11,f12,f13,f14,f15,f16,f17,f18,f19,f20,f21,f22,f23,f24,f25,f26,f27,f28,f29,f30,f31,f32,f33,f34,f35,f36,f37,f38,f39,f40,f41,f42,f43,f44,fa,y_WoodError,y_NoWood,y_NoCount,y_NoWares,y_NoOffer,y_Unlike,y_NoText,y_NoRow,y_NoName,y_NO_NAMES⟩ ⟨d1,d2,d3,d4,d5,d6,d7,d8,d9,d10,d11,d12,d13,d14,d15,d16,d17,d18,d19,d20,d21,d22,d23,d24,d25,d26,d27,d28,d29,d30,d31,d32,d33,d34,d35,d36,d37,d38,d39,d40,d41,d42,d43,d44,d45⟩:=⟨HR X G z1,HR X G z2,HR X G z3,HR X G z4,HR X G z5,HR X G z6,HR X G z7,HR X G z8,HR X G z9,HR X G z10,HR X G z11,HR X G z12,HR X G z13,HR X G z14,HR X G z15,⟨_,Ii X G v1⟩,⟨_,Ii X G v2⟩,⟨_,Ii X G v3⟩,⟨_,Ii X G v4⟩,⟨_,Ii X G v5⟩,⟨_,Ii X G v6⟩,Ii X G tg1,tq1,a1.df X G (lI λ_ _ _ _ _ _ _ _ _=>rfl),a2.df X G (dU λ_ _ _ _ _ _ _ _=>rfl),a3.df X G (dU λ_ _ _ _ _ _ _ _=>rfl),a4.df X G (gR λ_ _ _ _ _ _ _=>rfl),a5.df X G (lI λ_ _ _ _ _ _ _ _ _=>rfl),a6.df X G (dU λ_ _ _ _ _ _ _ _=>rfl),a7.df X G (dU λ_ _ _ _ _ _ _ _=>rfl),a8.df X G (gR λ_ _ _ _ _ _ _=>rfl),a9.df X G (lI λ_ _ _ _ _ _ _ _ _=>rfl),a10.df X G (dU λ_ _ _ _ _ _ _ _=>rfl),a11.df X G (dU λ_ _ _ _ _ _ _ _=>rfl),a12.df X G (dU λ_ _ _ _ _ _ _ _=>rfl),a13.df X G (gR λ_ _ _ _ _ _ _=>rfl),a14.df X G (gR λ_ _ _ _ _ _ _=>rfl),a15.df X G (gR λ_ _ _ _ _ _ _=>rfl),a16.df X G (gR λ_ _ _ _ _ _ _=>rfl),a17.df X G (dU λ_ _ _ _ _ _ _ _=>rfl),a18.df X G (gR λ_ _ _ _ _ _ _=>rfl),a19.df X G (dU λ_ _ _ _ _ _ _ _=>rfl),a20.df X G (dU λ_ _ _ _ _ _ _ _=>rfl),a21.df X G (dU λ_ _ _ _ _ _ _ _=>rfl),a22.df X G (dU λ_ _ _ _ _ _ _ _=>rfl),a23.df X G (lI λ_ _ _ _ _ _ _ _ _=>rfl),a24.df X G (gR λ_ _ _ _ _ _ _=>rfl),a25.df X G (dU λ_ _ _ _ _ _ _ _=>rfl),a26.df X G (dU λ_ _ _ _ _ _ _ _=>rfl),a27.df X G (dU λ_ _ _ _ _ _ _ _=>rfl),a28.df X G (dU λ_ _ _ _ _ _ _ _=>rfl),a29.df X G (dU λ_ _ _ _ _ _ _ _=>rfl),a30.df X G (lI λ_ _ _ _ _ _ _ _ _=>rfl),a31.df X G (dU λ_ _ _ _ _ _ _ _=>rfl),a32.df X G (dU λ_ _ _ _ _ _ _ _=>rfl),a33.df X G (dU λ_ _ _ _ _ _ _ _=>rfl),a34.df X G (gR λ_ _ _ _ _ _ _=>rfl),a35.df X G (dU λ_ _ _ _ _ _ _ _=>rfl),a36.df X G (gR λ_ _ _ _ _ _ _=>rfl),a37.df X G (gR λ_ _ _ _ _ _ _=>rfl),a38.df X G (dU λ_ _ _ _ _ _ _ _=>rfl),a39.df X G (oR λ_ _ _ _ _ _ _ _ _ _=>rfl),a40.df X G (dU λ_ _ _ _ _ _ _ _=>rfl),a41.df X G (gR λ_ _ _ _ _ _ _=>rfl),a42.df X G (oR λ_ _ _ _ _ _ _ _ _ _=>rfl),a43.df X G (oR λ_ _ _ _ _ _ _ _ _ _=>rfl),a44.df X G (dU λ_ _ _ _ _ _ _ _=>rfl),a45.df X G (gR λ_ _ _ _ _ _ _=>rfl),Ii X G g_WoodError,Ii X G g_NoWood,Ii X G g_NoCount,Ii X G g_NoWares,Ii X G g_NoOffer,Ii X G g_Unlike,Ii X G g_NoText,Ii X G g_NoRow,Ii X G g_NoName,⟨xa_WoodError,xb_WoodError,xc_WoodError,xd_WoodError⟩,⟨xa_NoWood,xb_NoWood,xc_NoWood,xd_NoWood⟩,⟨xa_NoCount,xb_NoCount,xc_NoCount,xd_NoCount⟩,⟨xa_NoWares,xb_NoWares,xc_NoWares,xd_NoWares⟩,⟨xa_NoOffer,xb_NoOffer,xc_NoOffer,xd_NoOffer⟩,⟨xa_Unlike,xb_Unlike,xc_Unlike,xd_Unlike⟩,⟨xa_NoText,xb_NoText,xc_NoText,xd_NoText⟩,⟨xa_NoRow,xb_NoRow,xc_NoRow,xd_NoRow⟩,⟨xa_NoName,xb_NoName,xc_NoName,xd_NoName⟩,k_NoWood_WoodError,k_NoWood_NoWood,k_NoWood_NoCount,k_NoWood_NoWares,k_NoWood_NoOffer,k_NoWood_Unlike,k_NoWood_NoText,k_NoWood_NoRow,k_NoWood_NoName,v_NoWood,s_NoWood_WoodError,k_NoText_WoodError,k_NoText_NoWood,k_NoText_NoCount,k_NoText_NoWares,k_NoText_NoOffer,k_NoText_Unlike,k_NoText_NoText,k_NoText_NoRow,k_NoText_NoName,v_NoText,s_NoText_WoodError⟩
 exact⟨d45,AM a45.2 λ_ _ _ _ _ _ _=>rfl,λbase _ _=>zx T⟩
theorem walk{l:PySem.W.OpenLaw}{q:Program}{b:List Str}{m:(Str->Option Value)->Heap->Prop}{g:World->Heap->Prop}{d:DefRec}{K:Params->PySem.W.Frag}(t:l.most=some 63)(e:d.params.defaults=[])
  (p:∀(w:World)(h:Heap),g w h->(K w.params).In h)
  (F:∀(w:World)(c:Str->Option Value)(i:Addr)(h:Heap),(K w.params).In h->h.Ns mainGlobals c->c d.name=some (.ref i) ->
   ∃j:FuncData,(∀(s:Shared)(u:Value),BindsTo s j ⟨[u],[]⟩ [("_law_script",u)])/\∀base:Heap,(K w.params).In base->base.Ns mainGlobals c->cC l.prog w (K w.params) c base cK 12 i j ["_law_script"] (oH (K w.params))):
  PySem.W.WalkO q b m g l.row.toRowW d [] (λf y=>PySem.call f y):=
 L2.walk_of (n:=63) (k:=12) (x := "_law_script") (CX:=λ_=>cK) (sp:=λw=>(oH (K w.params))) t (by decide) e ⟨R,by decide,by decide⟩ p F (λ_ _ a v r _ o=>⟨a,v,R,o,r,λ_=>rfl⟩) λ_ _ _ _ _ z=>z
end Ow
structure PySem.W.Fast:Prop where
 (tw15673665856913886173 tw3291448442879736755 tw2740086418825941026 tw885260842498823829 tw13327936659343493823 tw1375682369526150022 tw2957688189812816752 tw13703740622540311775 tw56694052859021693 tw5655710359127609495 tw14773846718685975881 tw5330225499527608817 tw12470079118991042474 tw8657584048205120973 tw6084170587306973476 tw6347612281340116260 tw9533074505715118413 tw13947236384299135457 tw13347347992425468034 tw5397602425524458529 tw9121689866402856130 tw1497740909412450356 tw75702207507021214 tw510142273728670805 tw4752374416338526239 tw7594520090771817490 tw3220424623153533194 tw16195798731457465596 tw10154866831226052808 tw14911077199797348468 tw13573763487154798913 tw5217256745950602802 tw16913721687332135299 tw12244754325508891567 tw369992732936789108 tw13333813943152540812 tw16690506656393708100 tw14210202601875439791 tw1555880974344930687 tw8076632579500766979 tw16558482691660845647 tw12202596594885385311 tw9086528786158051529 tw16170083665446559253 tw18392947250678683316 tw13413616129886880012 tw8118069007323910172 tw6584604280203350746 tw13218630129211154475 tw8043940657457348878 tw1021298864172451334 tw4550783151178977233 tw3216526072506661908 tw7429626136366296314 tw2112687744228912954 tw10210214050478294718 tw3378365184129977480 tw10247155813086036067 tw5063607428706819839 tw1955964991990534553 tw16609103104715871675 tw13019606566186640416 tw12627509626753006753 tw18057647462312896536 tw17281666467266232083 tw2406647830333976103 tw2676544628020007735 tw11223838341363475732 tw1181923061176370367 tw8043311885268531370 tw3612627333955829855 tw5113271210458221529 tw11358009080795969771 tw1617829483504372810 tw3387745969700286622 tw2356493967811972346 tw16869763559105349775 tw2328642075985105461 tw3285399855185022522 tw6563816484757051897 tw13172369859654067483 tw9940016819484320443 tw12290403596466939361 tw7381421298429414000 tw12351009768610757908 tw9606123566173775540 tw16159125162397520311 tw15930625964793260187 tw5599097361217343261 tw1578518723425575608 tw5441831571172817391 tw3362996569990672461 tw913288758721647386 tw12824393889181869876 tw11643457369268185014 tw1613779509931172910 tw8472990100257522568 tw8697397354516047660 tw12157150312681810490 tw9564754067927712809 tw16419261501285552589 tw13692495816718228437 tw23287369095412300 tw10289261241533049753 tw5057044318335198639 tw13255802993107462871 tw89286630716974248 tw6649461290896607957 tw10706616021745707166 tw7267731960676603327 tw8095145096025509946 tw12320056404352685318 tw2214757619522414126 tw1872663442338943967 tw3171448527208862981 tw2765259774913415248 tw7790954944896836804 tw4307611925021374397 tw13282424926793213772 tw6842100233536930635 tw8233714100888743538 tw16300345694609662490 tw9372352203939022260 tw9966519775203746009 tw9115977669504563201 tw12530092988818292016 tw14660857920896055670 tw12389418281600075156 tw11997630473450675442 tw6843711138594356197 tw15869426751143706 tw7515945207755837076 tw3879819630664892137 tw4950756012137518958 tw6306733233730728835 tw4340848126993625546 tw10941457574123618457 tw12818666378594607398 tw2092885917821617050 tw12032408559471996128 tw8730861881052340014 tw15576136630453370168 tw1209452152041185273 tw11899756549575515160 tw16578877715799009023 tw2929176123921275293 tw10306398889906192712 tw6581771275726464973 tw7312906738020684570 tw13444182548631617140 tw938050662136770732 tw17030582990672872854 tw4667588674170406962 tw4701706148035116114 tw11721716308112373823 tw18268115952102468449 tw3488325296159623642 tw6081936186548210869 tw7516542870921720569 tw9310367862194244506 tw1096001977532596471 tw7449643075259225610 tw4178799871915619674 tw874687060119098635 tw6430206036231874455 tw10503765335375339427 tw17567539337544741687 tw4925235657502792007 tw14943566595008235129 tw4058892987196201006 tw2679632481271009127 tw8435077579265309202 tw11484914188606599467 tw8170455620643085594 tw11413798378710757108 tw4876476832000716079 tw15884038732273848123 tw1497378443925941811 tw8512623105812218734 tw3466680411830290630 tw5586169806693584527 tw8631354904492781690 tw12983873565586775516 tw4631055818104247013 tw17573709336682685254 tw7568635535321475237 tw3702906786073817770 tw14089333918496850332 tw1881644939582143011 tw141129674882472162 tw9340144942091603970 tw9866979790208166351 tw8636436198803003898 tw11145842878042789055 tw15691530288121174981 tw3825155485299998748 tw6396938129365274082 tw5266231373221268668 tw10250938171936645274 tw2137094749033518714 tw10171509389032636660 tw4518710161557246261 tw4989988060407952708 tw7909054678375193678 tw12538497750210146027 tw5200893794403535584 tw976170720632215847 tw9316099369588249267 tw4157894480635583208 tw240248295787491259 tw1753538052471722574 tw9814979860000116145 tw10503585363830939671 tw11035315370459506357 tw4658711786263961644 tw11117766921936044666 tw16925595452758348097 tw1237310799802248455 tw18257522481479052900 tw12328372899675634548 tw14164489268662289089 tw15491319149725304965 tw11635264804787836470 tw18052159713178647375 tw3001276533053350240 tw17328873013720096875 tw12211476293380288553 tw4469528441814756771 tw10328954786867628877 tw16371540455990419247 tw1436342569380605615 tw14939663107804406482 tw7664072398104806400 tw4812856557952981155 tw357356655216450545 tw3345544841826579626 tw12376100803872181278 tw10730430570022570733 tw9332008979920405211 tw4841961441845797311 tw10301281727701442064 tw1288118286141042725 tw2554986214435244881 tw43884535710831962 tw2860096976772876127 tw1691650463120439965 tw14124978687562986926 tw14521923543631621639 tw4050058671171242738 tw8333991097539135874 tw8385695439940869756 tw7294871546301810489 tw14163207558794291951 tw17486490113132442270 tw14617126430178564167 tw4689804721750563443 tw13628332228217368301 tw12329792416896934407 tw10496429506302850729 tw12528980410229465138 tw5556988156881428388 tw13398900889361943373 tw11459379880557055190 tw9230840105433484681 tw11712355583475850226 tw12132071873200357910 tw9073079358351405848 tw15051602836663719507 tw17135090763835411001 tw5609488969870094849 tw11921132623879053614 tw10940327990451765604 tw5443500050805590962 tw18418992816647116316 tw17096382108438782811 tw11349730034804424107 tw15731145096474410208 tw7037179137389848469 tw17671882196730871116 tw14750655848726847910 tw17396545430576508797 tw11799769430260037450 tw11779565142207637949 tw16243785193630010811 tw1072306277071983516 tw11935304925171672180 tw3595145914346050339 tw5815740943571522211 tw11711201988158523572 tw2440557070920816808 tw1114022154556172608 tw3425100527669033576 tw10646090202681596083 tw7154764730000752249 tw4918685029764370105 tw11451143770814998674 tw2743543978401748564 tw17740188939682454383 tw7980295304676278947 tw11406937363173270514 tw18269184132749268249 tw12415345581598383272 tw6788317194672793031 tw11246186335649355316 tw3475111574951482404 tw11993897758475969290 tw3742884503179996741 tw8449555872690043308 tw2464387557488673679 tw631968636955347292 tw6708937881535524677 tw4530399734982258258 tw7128975335466078402 tw17284626484309609102 tw13862567722473562500 tw1398163391014031827 tw13860061546518208661 tw16330545248308211050 tw2536113933328184503 tw11616579953137598720 tw13303984133821410381 tw9866076821593959819 tw2979919121167786599 tw9121080418820535667 tw15352939389657380648 tw9589107550574008068 tw3096700143124923773 tw11851721423636506406 tw6840631182496497937 tw14993813568402741429 tw16713588880369497396 tw13969320000508090375 tw95176449185222147 tw14501544609334384531 tw14541973317768462987 tw4121021303495902114 tw2563737053577450693 tw3524637700983292675 tw3897889406354188603 tw8617008639562725274 tw18289398361419753784 tw8417586485668738578 tw12931926850388144711 tw10416032653801987118 tw8443095215452133364 tw11201046788241242972 tw1400548550001524577 tw17417439032909656213 tw9055590051359841065 tw10225720754925453032 tw1606510805840864626 tw8754692812644397247 tw11187511630900971682 tw295999711774058545 tw8793151755310138798 tw14579292045409036153 tw7704578047735841210 tw5145727527477391091 tw377831439595816255 tw14838582175574210937 tw18362233064576299963 tw17136086324796135684 tw5123662315372186972 tw11425526462816823613 tw3846347887332386668 tw3575785927893883467 tw10912682896924010625 tw6695657323606616828 tw2374769133435770904 tw671732809362954008 tw60190603801976590 tw9685752384242113039 tw2724010216419716202 tw14073382214122626558 tw16864280943592722224 tw9834499069805589742 tw8923287995547072913 tw15408334894496376936 tw429862537530820603 tw16281253812277201928 tw6635288845536016814 tw6939621981807914232 tw5970029032059817878 tw16501617450990902077 tw4942394282733526682 tw1964897671816448528 tw14360027579548956947 tw15339631559577518082 tw11733794451063781906 tw6175001046831970541 tw7273643123338654489 tw4583505385016346547 tw3941942748478821237 tw3968088195233698134 tw3945169638354419188 tw5829593274518153742 tw4069199825248486958 tw979021381270495578 tw18202626505215527625 tw2529540119999320983 tw948841806921455530 tw1126948406376305557 tw15148397803892052032 tw16674556982528147853 tw2947208503316108528:True)
open PySem PySem.W PyProof.Rows
set_option maxRecDepth 100000 in
set_option maxHeartbeats 0 in
theorem PySem.Challenge.cw_optionwood_k81_texts_refused_holds : PySem.Challenge.rw_optionwood_k81_texts_refused.Holds := by
 w_on; o_law; k_head; (case hw => w_witness2)
 k_fill
 refine Ow.walk (l := PySem.Challenge.rw_optionwood_k81_texts_refused) rfl rfl (fun w h Y => PySem.W.kIn_of Y) ?F
 case F =>
  intro w mg fa h KX G aa
  refine' Ow.all_mk KX G aa ?a1 ?a2 ?a3 ?a4 ?a5 ?a6 ?a7 ?a8 ?a9 ?a10 ?a11 ?a12 ?a13 ?a14 ?a15 ?a16 ?a17 ?a18 ?a19 ?a20 ?a21 ?a22 ?a23 ?a24 ?a25 ?a26 ?a27 ?a28 ?a29 ?a30 ?a31 ?a32 ?a33 ?a34 ?a35 ?a36 ?a37 ?a38 ?a39 ?a40 ?a41 ?a42 ?a43 ?a44 ?a45 ?z1 ?z2 ?z3 ?z4 ?z5 ?z6 ?z7 ?z8 ?z9 ?z10 ?z11 ?z12 ?z13 ?z14 ?z15 ?v1 ?v2 ?v3 ?v4 ?v5 ?v6 ?tg1 ?tq1 ?g_WoodError ?g_NoWood ?g_NoCount ?g_NoWares ?g_NoOffer ?g_Unlike ?g_NoText ?g_NoRow ?g_NoName ?xa_WoodError ?xb_WoodError ?xc_WoodError ?xd_WoodError ?xa_NoWood ?xb_NoWood ?xc_NoWood ?xd_NoWood ?xa_NoCount ?xb_NoCount ?xc_NoCount ?xd_NoCount ?xa_NoWares ?xb_NoWares ?xc_NoWares ?xd_NoWares ?xa_NoOffer ?xb_NoOffer ?xc_NoOffer ?xd_NoOffer ?xa_Unlike ?xb_Unlike ?xc_Unlike ?xd_Unlike ?xa_NoText ?xb_NoText ?xc_NoText ?xd_NoText ?xa_NoRow ?xb_NoRow ?xc_NoRow ?xd_NoRow ?xa_NoName ?xb_NoName ?xc_NoName ?xd_NoName ?k_NoWood_WoodError ?k_NoWood_NoWood ?k_NoWood_NoCount ?k_NoWood_NoWares ?k_NoWood_NoOffer ?k_NoWood_Unlike ?k_NoWood_NoText ?k_NoWood_NoRow ?k_NoWood_NoName ?v_NoWood ?s_NoWood_WoodError ?k_NoText_WoodError ?k_NoText_NoWood ?k_NoText_NoCount ?k_NoText_NoWares ?k_NoText_NoOffer ?k_NoText_Unlike ?k_NoText_NoText ?k_NoText_NoRow ?k_NoText_NoName ?v_NoText ?s_NoText_WoodError
  all_goals try (refine' L2.dk ?a ?l ?c ?k; (case a => k_is); (case l => k_is); (case c => k_is); (case k => k_is))
  (case z1 => k_is)
  (case z2 => k_is)
  (case z3 => k_is)
  (case z4 => k_is)
  (case z5 => k_is)
  (case z6 => k_is)
  (case z7 => k_is)
  (case z8 => k_is)
  (case z9 => k_is)
  (case z10 => k_is)
  (case z11 => k_is)
  (case z12 => k_is)
  (case z13 => k_is)
  (case z14 => k_is)
  (case z15 => k_is)
  (case v1 => k_is)
  (case v2 => k_is)
  (case v3 => k_is)
  (case v4 => k_is)
  (case v5 => k_is)
  (case v6 => k_is)
  (case tg1 => k_is)
  (case tq1 => kernel_rfl)
  (case g_WoodError => k_is)
  (case g_NoWood => k_is)
  (case g_NoCount => k_is)
  (case g_NoWares => k_is)
  (case g_NoOffer => k_is)
  (case g_Unlike => k_is)
  (case g_NoText => k_is)
  (case g_NoRow => k_is)
  (case g_NoName => k_is)
  (case xa_WoodError => first | k_is | kernel_rfl)
  (case xb_WoodError => first | k_is | kernel_rfl)
  (case xc_WoodError => first | k_is | kernel_rfl)
  (case xd_WoodError => first | k_is | kernel_rfl)
  (case xa_NoWood => first | k_is | kernel_rfl)
  (case xb_NoWood => first | k_is | kernel_rfl)
  (case xc_NoWood => first | k_is | kernel_rfl)
  (case xd_NoWood => first | k_is | kernel_rfl)
  (case xa_NoCount => first | k_is | kernel_rfl)
  (case xb_NoCount => first | k_is | kernel_rfl)
  (case xc_NoCount => first | k_is | kernel_rfl)
  (case xd_NoCount => first | k_is | kernel_rfl)
  (case xa_NoWares => first | k_is | kernel_rfl)
  (case xb_NoWares => first | k_is | kernel_rfl)
  (case xc_NoWares => first | k_is | kernel_rfl)
  (case xd_NoWares => first | k_is | kernel_rfl)
  (case xa_NoOffer => first | k_is | kernel_rfl)
  (case xb_NoOffer => first | k_is | kernel_rfl)
  (case xc_NoOffer => first | k_is | kernel_rfl)
  (case xd_NoOffer => first | k_is | kernel_rfl)
  (case xa_Unlike => first | k_is | kernel_rfl)
  (case xb_Unlike => first | k_is | kernel_rfl)
  (case xc_Unlike => first | k_is | kernel_rfl)
  (case xd_Unlike => first | k_is | kernel_rfl)
  (case xa_NoText => first | k_is | kernel_rfl)
  (case xb_NoText => first | k_is | kernel_rfl)
  (case xc_NoText => first | k_is | kernel_rfl)
  (case xd_NoText => first | k_is | kernel_rfl)
  (case xa_NoRow => first | k_is | kernel_rfl)
  (case xb_NoRow => first | k_is | kernel_rfl)
  (case xc_NoRow => first | k_is | kernel_rfl)
  (case xd_NoRow => first | k_is | kernel_rfl)
  (case xa_NoName => first | k_is | kernel_rfl)
  (case xb_NoName => first | k_is | kernel_rfl)
  (case xc_NoName => first | k_is | kernel_rfl)
  (case xd_NoName => first | k_is | kernel_rfl)
  (case k_NoWood_WoodError => first | k_is | kernel_rfl)
  (case k_NoWood_NoWood => first | k_is | kernel_rfl)
  (case k_NoWood_NoCount => first | k_is | kernel_rfl)
  (case k_NoWood_NoWares => first | k_is | kernel_rfl)
  (case k_NoWood_NoOffer => first | k_is | kernel_rfl)
  (case k_NoWood_Unlike => first | k_is | kernel_rfl)
  (case k_NoWood_NoText => first | k_is | kernel_rfl)
  (case k_NoWood_NoRow => first | k_is | kernel_rfl)
  (case k_NoWood_NoName => first | k_is | kernel_rfl)
  (case v_NoWood => first | k_is | kernel_rfl)
  (case s_NoWood_WoodError => first | k_is | kernel_rfl)
  (case k_NoText_WoodError => first | k_is | kernel_rfl)
  (case k_NoText_NoWood => first | k_is | kernel_rfl)
  (case k_NoText_NoCount => first | k_is | kernel_rfl)
  (case k_NoText_NoWares => first | k_is | kernel_rfl)
  (case k_NoText_NoOffer => first | k_is | kernel_rfl)
  (case k_NoText_Unlike => first | k_is | kernel_rfl)
  (case k_NoText_NoText => first | k_is | kernel_rfl)
  (case k_NoText_NoRow => first | k_is | kernel_rfl)
  (case k_NoText_NoName => first | k_is | kernel_rfl)
  (case v_NoText => first | k_is | kernel_rfl)
  (case s_NoText_WoodError => first | k_is | kernel_rfl)
#print axioms PySem.Challenge.cw_optionwood_k81_texts_refused_holds

